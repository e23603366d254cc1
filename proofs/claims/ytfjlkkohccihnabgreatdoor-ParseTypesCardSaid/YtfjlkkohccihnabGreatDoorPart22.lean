/- Part of the proof of ParseTypes: the texts that follow, in build order. -/
import Derived.Test.YtfjlkkohccihnabGreatDoorPart21
import Derived.Deep.RegionHeld
import Derived.Test.YtfjlkkohccihnabGreatDoorRows
import Derived.Test.YtfjlkkohccihnabGreatDoorCards
import Derived.Test.YtfjlkkohccihnabGreatDoorTie
import Derived.Test.YtfjlkkohccihnabGreatDoorPart1
import Derived.WalkKit
import Derived.ProofKit
import Derived.OpenShut
import Derived.ShutString
import Derived.ChangeOld
import Derived.Below
import Derived.LaidMore
import Derived.Stop.Joined
import Derived.Stop.LaidErr
import Derived.SizedLaws
import Derived.Lib.LaidTab
import Derived.Test.YtfjlkkohccihnabGreatDoorPart18

/- graduslaw05.awake by a contract. -/
namespace Go.Proofs.YtfjlkkohccihnabGreatDoor
open Go.RowKit

def xD : Ty := mkE 14 [45] 0 1 7 [] [] [mkE 14 [45] 0 1 3 [] [] [mkE 4 [97] 0 1 1 [] [] [], mkE 4 [98] 0 1 5 [] [] []], mkE 14 [42] 0 1 11 [] [] [mkE 4 [99] 0 1 9 [] [] [], mkE 4 [100] 0 1 13 [] [] []]]
def xN : Ty := mkN 14 [45] 0 [mkN 14 [45] 0 [mkN 4 [97] 0 [], mkN 4 [98] 0 []], mkN 14 [42] 0 [mkN 4 [99] 0 [], mkN 4 [100] 0 []]]
theorem x_eval : exprTextV [97, 32, 45, 32, 98, 32, 45, 32, 99, 32, 42, 32, 100] = .inl xD := by kernel_rfl
theorem t_eval : typeTextV [105, 110, 116, 32, 124, 32, 110, 117, 108, 108, 32, 45, 62, 32, 123, 97, 58, 32, 115, 116, 114, 125] = .inl (mkT 6 [] [] [mkT 7 [] [] [mkT 3 [] [] [], mkT 1 [] [] []], mkT 5 [] [[97]] [mkT 4 [] [] []]]) := by kernel_rfl
theorem m_eval : moduleTextV [102, 110, 32, 102, 40, 120, 41, 32, 61, 32, 120, 59] = .inl ([], [mkD [102] false [] [120] [mkT 0 [] [] [], mkT 0 [] [] []] (mkE 4 [120] 0 1 11 [] [] []) 1 1]) := by kernel_rfl
theorem g_eval : moduleTextV [102, 110, 32, 102, 40, 120, 41, 32, 61, 32, 59] = .inr (7, 1, 11) := by kernel_rfl

theorem x_bare : BareN 3 xD xN :=
  .inr ⟨_, _, _, _, _, _, _, rfl, rfl, by decide, .inr ⟨_, _, _, _, _, _, _, rfl, rfl, by decide, .inl ⟨_, _, _, rfl, rfl, by decide⟩, .inl ⟨_, _, _, rfl, rfl, by decide⟩⟩, .inr ⟨_, _, _, _, _, _, _, rfl, rfl, by decide, .inl ⟨_, _, _, rfl, rfl, by decide⟩, .inl ⟨_, _, _, rfl, rfl, by decide⟩⟩⟩
theorem x_ops : NamesOps 3 xN :=
  .inr ⟨_, _, _, rfl, by decide, by decide, .inr ⟨_, _, _, rfl, by decide, by decide, .inl ⟨_, rfl, by decide, by decide⟩, .inl ⟨_, rfl, by decide, by decide⟩⟩, .inr ⟨_, _, _, rfl, by decide, by decide, .inl ⟨_, rfl, by decide, by decide⟩, .inl ⟨_, rfl, by decide, by decide⟩⟩⟩

/-- Names and operations at most m deep are that great. -/
theorem names_size : ∀ (m : Nat) (D : Ty), NamesOps m D → ∀ n, sizeT n D + 1 ≤ 2 ^ m ∧ heightT n D ≤ m
  | 0, _, h, _ => h.elim
  | m + 1, D, _, 0 => by
    have := Nat.one_le_two_pow (n := m + 1)
    exact ⟨by rw [sizeT]; omega, by rw [heightT]; omega⟩
  | m + 1, D, h, n + 1 => by
    have := Nat.one_le_two_pow (n := m)
    rw [sizeT, heightT]
    rcases h with ⟨s, rfl, _⟩ | ⟨o, x, y, rfl, _, _, hx, hy⟩
    · rw [mkN, kids_mk]
      refine ⟨?_, ?_⟩
      · show 1 + 0 + 1 ≤ 2 ^ (m + 1)
        rw [Nat.pow_succ]
        omega
      · show 1 + 0 ≤ m + 1
        omega
    · have h1 := names_size m x hx n
      have h2 := names_size m y hy n
      rw [mkN, kids_mk]
      refine ⟨?_, ?_⟩
      · show 1 + (sizeT n x + (sizeT n y + 0)) + 1 ≤ 2 ^ (m + 1)
        rw [Nat.pow_succ]
        omega
      · show 1 + max (heightT n x) (max (heightT n y) 0) ≤ m + 1
        omega

/-- What is asked of memory by what follows. -/
structure Base5 (w : World) : Prop where
  tr : Base w
  lx : Lx.Words w
theorem Base5.below {w w' : World} (h : Base5 w) (hb : Below w.heap.size w w') : Base5 w' := ⟨h.tr.below hb, h.lx.below hb⟩

theorem ndV_top {lo : Nat} {w : World} {x : NV} {k N : Int} {tx : List UInt8} {l c : Nat} {ts : List Ty} {ns : List (List UInt8)} {ks : List Ty} (h : NdV lo w x (mkE k tx N l c ts ns ks)) : x.k = k ∧ x.tx.data.toList = tx ∧ x.N = N ∧ x.li = l ∧ x.co = c ∧ x.tl = ts.length ∧ x.nl = ns.length ∧ x.kl = ks.length := by
  obtain ⟨m, h⟩ := h
  cases m with
  | zero => exact h.elim
  | succ m =>
    obtain ⟨tys, ns', ks', e, ⟨e1, e2, e3⟩, _⟩ := h
    obtain ⟨f1, f2, f3, f4, f5, rfl, rfl, rfl⟩ := mkE_inj e
    exact ⟨f1.symm, f2.symm, f3.symm, f4.symm, f5.symm, e1, e2, e3⟩
theorem tyE_kind {lo : Nat} {w : World} {k k' : Int} {nm : ByteArray} {na ka : Option Addr} {nl nc kl kc : Nat} {s : List UInt8} {ns : List (List UInt8)} {ks : List Ty} (h : TyE lo w (.agg #[.int .i64 k, .string nm, .slice na nl nc, .slice ka kl kc]) (mkT k' s ns ks)) : k = k' := by
  obtain ⟨m, h⟩ := h
  cases m with
  | zero => exact h.elim
  | succ m =>
    obtain ⟨k1, nm1, na1, nc1, ka1, kc1, ns1, ks1, e1, e2, _⟩ := h
    injection e1 with e1
    simp only [Array.mk.injEq, List.cons.injEq] at e1
    obtain ⟨e1, _⟩ := e1
    injection e1 with _ e1
    rw [e1]
    exact (mkT_inj e2).1.symm
/-- A function alone: where its types lie, and how many they are. -/
theorem decls_one {lo : Nat} {w : World} {a : Option Addr} {D : Ty} (h : RowQ DeclC 15 lo w a [D]) : ∃ g ta tc, a = some ⟨g, 0, none⟩ ∧ w.cell? ⟨g, 4, none⟩ = some (.slice ta 2 tc) ∧ g < w.heap.size := by
  rcases h with h | ⟨g, e, _, hc, hr⟩
  · cases h
  · obtain ⟨c, h1, h2, h3⟩ := hr 0 (by simp)
    obtain ⟨s, ex, vs, va, vc, pm, ta, tc, tys, x, B, li, co, m, rfl, _⟩ := h3
    exact ⟨g, ta, tc, e, h2 4 (by decide), clean_lt hc⟩

set_option maxRecDepth 100000 in
set_option maxHeartbeats 4000000 in
theorem awake5_c (w : World) (hB : Base5 w) : Calls Tryz.prog 8 #[] w fun e w' => e = .returned (.bool true) ∧ Below w.heap.size w w' := by
  have HB := hideP hB
  have HE := hideP (fun wx (h : Below w.heap.size w wx) => parseExpr_c ⟨#[97, 32, 45, 32, 98, 32, 45, 32, 99, 32, 42, 32, 100]⟩ (by decide) wx (hB.lx.below h))
  have HT := hideP (fun wx (h : Below w.heap.size w wx) => parseType_c ⟨#[105, 110, 116, 32, 124, 32, 110, 117, 108, 108, 32, 45, 62, 32, 123, 97, 58, 32, 115, 116, 114, 125]⟩ (by decide) wx (hB.lx.below h))
  have HM := hideP (fun wx (h : Below w.heap.size w wx) => parseParse_c ⟨#[102, 110, 32, 102, 40, 120, 41, 32, 61, 32, 120, 59]⟩ (by decide) wx (hB.lx.below h))
  have HG := hideP (fun wx (h : Below w.heap.size w wx) => parseParse_c ⟨#[102, 110, 32, 102, 40, 120, 41, 32, 61, 32, 59]⟩ (by decide) wx (hB.lx.below h))
  clear hB
  go_enter Tryz.func8, Tryz.ntmps8
  go_wp2_with fail
  refine (HE.out _ (Below.refl _ _)).mono ?_
  intro e w1 hpost
  have hpost : WPost w zNV.val NdE (exprTextV [97, 32, 45, 32, 98, 32, 45, 32, 99, 32, 42, 32, 100]) e w1 := hpost
  rw [x_eval] at hpost
  obtain ⟨hb1, v, rfl, x, rfl, hv⟩ := hpost
  have HB1 := hideP (below_next (below_next hb1 (bl_alloc w1 x.obj)) (bl_alloc _ (.cells #[.int .i64 0, .int .i64 0, .int .i64 0, .int .i64 0] 30)))
  have HX1 : Hid (NdV w.heap.size ((w1.alloc x.obj).alloc (.cells #[.int .i64 0, .int .i64 0, .int .i64 0, .int .i64 0] 30)) x xD) := (hv.alloc _).alloc _
  have HN1 : Hid (((w1.alloc x.obj).alloc (.cells #[.int .i64 0, .int .i64 0, .int .i64 0, .int .i64 0] 30)).heap[w1.heap.size]? = some x.obj) := (Below.heap_alloc _ _ _ (by simp)).trans (heap_alloc_last _ _)
  have HD1 : Hid (((w1.alloc x.obj).alloc (.cells #[.int .i64 0, .int .i64 0, .int .i64 0, .int .i64 0] 30)).heap[w1.heap.size + 1]? = some (.cells #[.int .i64 0, .int .i64 0, .int .i64 0, .int .i64 0] 30)) := heap_at1 _ _ _
  have HTOP := hideP (ndV_top (show NdV w.heap.size w1 x (mkE _ _ _ _ _ _ _ _) from hv))
  clear hb1 hv HE
  obtain ⟨nb, hnb⟩ : ∃ nb, nb = w1.heap.size := ⟨_, rfl⟩
  rw [← hnb] at HN1 HD1
  go_wp2_with fail
  rw [← hnb]
  generalize (w1.alloc x.obj).alloc (.cells #[.int .i64 0, .int .i64 0, .int .i64 0, .int .i64 0] 30) = W1 at HB1 HX1 HN1 HD1 ⊢
  clear hnb
  refine (HT.out _ HB1.out).mono ?_
  intro e w2 hpost
  have hpost : WPost W1 zTy TyE (typeTextV [105, 110, 116, 32, 124, 32, 110, 117, 108, 108, 32, 45, 62, 32, 123, 97, 58, 32, 115, 116, 114, 125]) e w2 := hpost
  rw [t_eval] at hpost
  obtain ⟨hb2, v, rfl, hv⟩ := hpost
  obtain ⟨k1, nm1, na1, nl1, nc1, ka1, kl1, kc1, rfl⟩ := hv.cells
  obtain rfl := tyE_kind hv
  have hbA := below_next (below_next hb2 (bl_alloc w2 (tyO 6 nm1 na1 nl1 nc1 ka1 kl1 kc1))) (bl_alloc _ (.cells #[.int .i64 0, .int .i64 0, .int .i64 0, .int .i64 0] 30))
  have HB2 := hideP (below_next HB1.out hbA)
  have HX2 := hideP (HX1.out.below hbA)
  have HN2 := hideP ((hbA.block _ (lt_of_block HN1.out)).trans HN1.out)
  have HD2 := hideP ((hbA.block _ (lt_of_block HD1.out)).trans HD1.out)
  have HT2 : Hid (((w2.alloc (tyO 6 nm1 na1 nl1 nc1 ka1 kl1 kc1)).alloc (.cells #[.int .i64 0, .int .i64 0, .int .i64 0, .int .i64 0] 30)).heap[w2.heap.size]? = some (tyO 6 nm1 na1 nl1 nc1 ka1 kl1 kc1)) := (Below.heap_alloc _ _ _ (by simp)).trans (heap_alloc_last _ _)
  have HE2 : Hid (((w2.alloc (tyO 6 nm1 na1 nl1 nc1 ka1 kl1 kc1)).alloc (.cells #[.int .i64 0, .int .i64 0, .int .i64 0, .int .i64 0] 30)).heap[w2.heap.size + 1]? = some (.cells #[.int .i64 0, .int .i64 0, .int .i64 0, .int .i64 0] 30)) := heap_at1 _ _ _
  clear hb2 hv hbA HB1 HX1 HN1 HD1 HT
  obtain ⟨tb, htb⟩ : ∃ tb, tb = w2.heap.size := ⟨_, rfl⟩
  rw [← htb] at HT2 HE2
  go_wp2_with fail
  rw [← htb]
  generalize (w2.alloc (tyO 6 nm1 na1 nl1 nc1 ka1 kl1 kc1)).alloc (.cells #[.int .i64 0, .int .i64 0, .int .i64 0, .int .i64 0] 30) = W2 at HB2 HX2 HN2 HD2 HT2 HE2 ⊢
  clear htb
  refine (HM.out _ HB2.out).mono ?_
  intro e w3 hpost
  have hpost : WPost W2 zMV.val MdE (moduleTextV [102, 110, 32, 102, 40, 120, 41, 32, 61, 32, 120, 59]) e w3 := hpost
  rw [m_eval] at hpost
  obtain ⟨hb3, v, rfl, y, rfl, hv⟩ := hpost
  obtain ⟨eil, edl, _, _, _, hdr⟩ := hv
  obtain ⟨g, ta, tc, eda, hgc, hgl⟩ := decls_one hdr
  have hbA := below_next (below_next hb3 (bl_alloc w3 y.obj)) (bl_alloc _ (.cells #[.int .i64 0, .int .i64 0, .int .i64 0, .int .i64 0] 30))
  have hbC := below_next (bl_alloc w3 y.obj) (bl_alloc _ (.cells #[.int .i64 0, .int .i64 0, .int .i64 0, .int .i64 0] 30))
  have HB3 := hideP (below_next HB2.out hbA)
  have HX3 := hideP (HX2.out.below hbA)
  have HN3 := hideP ((hbA.block _ (lt_of_block HN2.out)).trans HN2.out)
  have HD3 := hideP ((hbA.block _ (lt_of_block HD2.out)).trans HD2.out)
  have HT3 := hideP ((hbA.block _ (lt_of_block HT2.out)).trans HT2.out)
  have HE3 := hideP ((hbA.block _ (lt_of_block HE2.out)).trans HE2.out)
  have HC3 : Hid (((w3.alloc y.obj).alloc (.cells #[.int .i64 0, .int .i64 0, .int .i64 0, .int .i64 0] 30)).cell? ⟨g, 4, none⟩ = some (.slice ta 2 tc) ∧ g < ((w3.alloc y.obj).alloc (.cells #[.int .i64 0, .int .i64 0, .int .i64 0, .int .i64 0] 30)).heap.size) := ⟨(hbC.cell (p := ⟨g, 4, none⟩) hgl).trans hgc, Nat.lt_of_lt_of_le hgl hbC.size⟩
  obtain ⟨ia, il, ic, da, dl, dc⟩ := y
  simp only at eil edl eda
  obtain rfl : il = 0 := eil
  obtain rfl : dl = 1 := edl
  subst eda
  have HM3 : Hid (((w3.alloc (MV.obj ⟨ia, 0, ic, some ⟨g, 0, none⟩, 1, dc⟩)).alloc (.cells #[.int .i64 0, .int .i64 0, .int .i64 0, .int .i64 0] 30)).heap[w3.heap.size]? = some (MV.obj ⟨ia, 0, ic, some ⟨g, 0, none⟩, 1, dc⟩)) := (Below.heap_alloc _ _ _ (by simp)).trans (heap_alloc_last _ _)
  have HF3 : Hid (((w3.alloc (MV.obj ⟨ia, 0, ic, some ⟨g, 0, none⟩, 1, dc⟩)).alloc (.cells #[.int .i64 0, .int .i64 0, .int .i64 0, .int .i64 0] 30)).heap[w3.heap.size + 1]? = some (.cells #[.int .i64 0, .int .i64 0, .int .i64 0, .int .i64 0] 30)) := heap_at1 _ _ _
  clear hb3 hdr hbA hbC hgc hgl HB2 HX2 HN2 HD2 HT2 HE2 HM
  obtain ⟨mb, hmb⟩ : ∃ mb, mb = w3.heap.size := ⟨_, rfl⟩
  rw [← hmb] at HM3 HF3
  go_wp2_with fail
  rw [← hmb]
  generalize (w3.alloc (MV.obj ⟨ia, 0, ic, some ⟨g, 0, none⟩, 1, dc⟩)).alloc (.cells #[.int .i64 0, .int .i64 0, .int .i64 0, .int .i64 0] 30) = W3 at HB3 HX3 HN3 HD3 HT3 HE3 HC3 HM3 HF3 ⊢
  clear hmb
  refine (HG.out _ HB3.out).mono ?_
  intro e w4 hpost
  have hpost : WPost W3 zMV.val MdE (moduleTextV [102, 110, 32, 102, 40, 120, 41, 32, 61, 32, 59]) e w4 := hpost
  rw [g_eval] at hpost
  obtain ⟨hb4, rfl⟩ := hpost
  have hbA := below_next (below_next hb4 (bl_alloc w4 zMV.obj)) (bl_alloc _ (.cells #[.int .i64 0, .int .i64 1, .int .i64 11, .int .i64 7] 30))
  have HB4 := hideP (below_next HB3.out hbA)
  have HX4 := hideP (HX3.out.below hbA)
  have HN4 := hideP ((hbA.block _ (lt_of_block HN3.out)).trans HN3.out)
  have HD4 := hideP ((hbA.block _ (lt_of_block HD3.out)).trans HD3.out)
  have HT4 := hideP ((hbA.block _ (lt_of_block HT3.out)).trans HT3.out)
  have HE4 := hideP ((hbA.block _ (lt_of_block HE3.out)).trans HE3.out)
  have HM4 := hideP ((hbA.block _ (lt_of_block HM3.out)).trans HM3.out)
  have HF4 := hideP ((hbA.block _ (lt_of_block HF3.out)).trans HF3.out)
  have HC4 : Hid (((w4.alloc zMV.obj).alloc (.cells #[.int .i64 0, .int .i64 1, .int .i64 11, .int .i64 7] 30)).cell? ⟨g, 4, none⟩ = some (.slice ta 2 tc) ∧ g < ((w4.alloc zMV.obj).alloc (.cells #[.int .i64 0, .int .i64 1, .int .i64 11, .int .i64 7] 30)).heap.size) := ⟨(hbA.cell (p := ⟨g, 4, none⟩) HC3.out.2).trans HC3.out.1, Nat.lt_of_lt_of_le HC3.out.2 hbA.size⟩
  have HG4 : Hid (((w4.alloc zMV.obj).alloc (.cells #[.int .i64 0, .int .i64 1, .int .i64 11, .int .i64 7] 30)).heap[w4.heap.size + 1]? = some (.cells #[.int .i64 0, .int .i64 1, .int .i64 11, .int .i64 7] 30)) := heap_at1 _ _ _
  clear hb4 hbA HB3 HX3 HN3 HD3 HT3 HE3 HC3 HM3 HF3 HG
  obtain ⟨gb, hgb⟩ : ∃ gb, gb = w4.heap.size := ⟨_, rfl⟩
  rw [← hgb] at HG4
  obtain ⟨⟨d0, d1, d2, d3⟩, _, hdl⟩ := res_facts HD4.out
  obtain ⟨⟨n0, n1, n2, n3, n4, n5, n6, n7⟩, _, hnl⟩ := box8 HN4.out
  go_wp2_with fail
  rw [← hgb]
  clear hgb d0 d1 d2 d3 hdl n0 n1 n2 n3 n4 n5 n6 n7 hnl
  generalize (w4.alloc zMV.obj).alloc (.cells #[.int .i64 0, .int .i64 1, .int .i64 11, .int .i64 7] 30) = W4 at HB4 HX4 HN4 HD4 HT4 HE4 HM4 HF4 HC4 HG4 ⊢
  refine (made_expr (HB.out.tr.below HB4.out) x_bare x_ops HX4.out (fun n => by have := names_size 3 xN x_ops n; omega) (fun n => by have := names_size 3 xN x_ops n; omega) (by decide)).mono ?_
  rintro e w5 ⟨⟨s, rfl, hs⟩, hb5⟩
  have hs' : s = ⟨#[40, 40, 97, 32, 45, 32, 98, 41, 32, 45, 32, 40, 99, 32, 42, 32, 100, 41, 41]⟩ := by
    rw [show textN 3 xN = [40, 40, 97, 32, 45, 32, 98, 41, 32, 45, 32, 40, 99, 32, 42, 32, 100, 41, 41] by kernel_rfl] at hs
    exact strB_of hs
  subst hs'
  have HB5 := hideP (below_next HB4.out hb5)
  have HN5 := hideP ((hb5.block _ (lt_of_block HN4.out)).trans HN4.out)
  have HT5 := hideP ((hb5.block _ (lt_of_block HT4.out)).trans HT4.out)
  have HE5 := hideP ((hb5.block _ (lt_of_block HE4.out)).trans HE4.out)
  have HM5 := hideP ((hb5.block _ (lt_of_block HM4.out)).trans HM4.out)
  have HF5 := hideP ((hb5.block _ (lt_of_block HF4.out)).trans HF4.out)
  have HG5 := hideP ((hb5.block _ (lt_of_block HG4.out)).trans HG4.out)
  have hc5 := (hb5.cell (p := ⟨g, 4, none⟩) HC4.out.2).trans HC4.out.1
  have hg5 := Nat.lt_of_lt_of_le HC4.out.2 hb5.size
  clear hs hb5 HB4 HX4 HN4 HD4 HT4 HE4 HM4 HF4 HC4 HG4
  obtain ⟨⟨n0, n1, n2, n3, n4, n5, n6, n7⟩, _, hnl⟩ := box8 HN5.out
  obtain ⟨ek, _, _, el, ec, _⟩ := HTOP.out
  rw [el] at n3
  rw [ec] at n4
  obtain ⟨⟨t0, t1, t2, t3⟩, _, htl⟩ := res_facts HT5.out
  obtain ⟨⟨e0, e1, e2, e3⟩, _, hel⟩ := res_facts HE5.out
  obtain ⟨⟨m0, m1⟩, _, hml⟩ := boxM HM5.out
  obtain ⟨⟨f0, f1, f2, f3⟩, _, hfl⟩ := res_facts HF5.out
  obtain ⟨⟨g0, g1, g2, g3⟩, _, hgl⟩ := res_facts HG5.out
  clear ek el ec
  go_wp2_with fail
  go_ret
  exact ⟨rfl, HB5.out⟩
end Go.Proofs.YtfjlkkohccihnabGreatDoor

/- What the proof shares: the listed tables as a condition on memory, and what they give the walk. -/
namespace Go.Proofs.YtfjlkkohccihnabGreatDoor
open Go.ChangeShapes Go.WideShapes Go.ChangeAt Go.RowKit
open Go.ChangeMaps (open_string shut_string)

theorem own : ownKnob Tryz.prog.godebug = none := by kernel_rfl

theorem laidOut : laidOutB Tryz.prog = true := by kernel_rfl

/-- The listed variables. -/
def laidL : List (String × DataW Unit) := Rows.parseExprsRow.laid

theorem door_met (os : Os) (args : Array Value) : laidMetH Tryz.prog laidL ((World.doorLaid Tryz.prog 150 os).forCall (fun _ _ => 0) ⟨#[], args, []⟩).memory :=
  laidMetH_of_parts3 (fuel := 8) (laidMet_of_run' 8 (by kernel_rfl) (by kernel_rfl)) (by kernel_rfl) (by kernel_rfl)

/-- The listed variables' names, as the row has them. -/
def wnm (i : Nat) : String := (laidL.map (·.1)).getD i (toString 0)
theorem words_glob : Tryz.prog.globalNamed (wnm 3) = some 4 := by kernel_rfl
theorem words_type : (Tryz.prog.globals[4]?).map (·.type) = some 221 := by kernel_rfl
theorem nforms_glob : Tryz.prog.globalNamed (wnm 4) = some 3 := by kernel_rfl
theorem nforms_type : (Tryz.prog.globals[3]?).map (·.type) = some 194 := by kernel_rfl
theorem ops_glob : Tryz.prog.globalNamed (wnm 9) = some 6 := by kernel_rfl
theorem ops_type : (Tryz.prog.globals[6]?).map (·.type) = some 236 := by kernel_rfl

theorem words_datum : (Rows.laid_gradus_lex_ownWords : DataW Unit) = .agg (wordsV.map fun t => .lit (.string t)) := by kernel_rfl
theorem ops_datum : (Rows.laid_gradus_tree_ops : DataW Unit) = .agg (opsV.map fun t => .lit (.string t)) := by kernel_rfl
def frmN (q : Nat × Nat × Nat × Nat × Nat × Nat × Bool) : DataW Unit := .agg [.lit (.int .i64 q.1), .lit (.int .i64 q.2.1), .agg [.lit (.int .i64 q.2.2.1), .lit (.int .i64 q.2.2.2.1)], .agg [.lit (.int .i64 q.2.2.2.2.1), .lit (.int .i64 q.2.2.2.2.2.1)], .lit (.bool q.2.2.2.2.2.2)]
theorem nforms_datum : (Rows.laid_gradus_tree_nodeForms : DataW Unit) = .agg ((List.range 20).map fun k => frmN (formN k)) := by kernel_rfl

/-- An array of strings that reads as the table holds the table's strings, cell for cell. -/
theorem cells_of_strs {H : Type} {enc : TypeId × Value → H} {w : World} {base : Nat} {sp : Nat → Bool} {held : Bool} {fuel : Nat} {cs : List Value} {p : List MemPlace} {T K : Nat} {L : List (List UInt8)} (ht : Tryz.prog.underlying T = some (.array K 9)) (hct : Tryz.prog.cellsOf T = K) (hLK : L.length = K)
    (h : DataW.trod enc Tryz.prog w base sp held fuel T cs = some (.agg (L.map fun t => .lit (.string t)), p)) : cs = L.map fun t => Value.string ⟨t.toArray⟩ := by
  have hce : Tryz.prog.cellsOf 9 = 1 := by kernel_rfl
  cases fuel with
  | zero => simp [DataW.trod] at h
  | succ fuel =>
    simp only [DataW.trod, ht, hce, hct, Nat.mul_one] at h
    split at h
    · rename_i hl
      obtain ⟨xs, hm, hx⟩ := Option.map_eq_some_iff.1 h
      have hxs : xs.map (·.1) = L.map fun t => (DataW.lit (.string t) : DataW H) := by
        have := congrArg Prod.fst hx
        simpa using this
      have hxl : xs.length = K := by simpa using Lib.mapM_length hm
      apply List.ext_getElem?
      intro i
      by_cases hi : i < K
      · obtain ⟨b, hb, hf⟩ := Lib.mapM_at hm i i (by simp [hi])
        obtain ⟨s, hc, rfl, _⟩ := DataW.trod_string Tryz.underlying9 hf
        have h1 : cs[i]? = some (.string s) := by
          have := congrArg (·[0]?) hc
          simpa [List.getElem?_take, List.getElem?_drop] using this
        have h2 : (xs.map (·.1))[i]? = some (DataW.lit (.string s.data.toList) : DataW H) := by simp [hb]
        rw [hxs] at h2
        simp only [List.getElem?_map, Option.map_eq_some_iff, DataW.lit.injEq, Lit.string.injEq] at h2
        obtain ⟨t, ht', rfl⟩ := h2
        rw [h1, List.getElem?_map, ht']
        rfl
      · rw [List.getElem?_eq_none (by omega), List.getElem?_eq_none (by simp only [List.length_map]; omega)]
    · cases h

section
variable {enc : TypeId × Value → Unit} {w : World} {base : Nat} {sp : Nat → Bool} {held : Bool} {fuel : Nat} {cs : List Value} {p : List MemPlace}

theorem int_cells {n : Int} (h : DataW.trod enc Tryz.prog w base sp held fuel 3 cs = some (.lit (.int .i64 n), p)) : cs = [.int .i64 n] := by
  obtain ⟨m, rfl, e, _⟩ := DataW.trod_int Tryz.underlying3 h
  simp at e
  rw [e.1]
theorem bool_cells {b : Bool} (h : DataW.trod enc Tryz.prog w base sp held fuel 4 cs = some (.lit (.bool b), p)) : cs = [.bool b] := by
  obtain ⟨m, rfl, e⟩ := DataW.trod_bool Tryz.underlying4 h
  simp at e
  rw [e.1]

theorem some_of {α : Type} {xs : List (DataW Unit × α)} {ds : List (DataW Unit)} {i : Nat} {d : DataW Unit} (h : xs.map (·.1) = ds) (hd : ds[i]? = some d) : ∃ q, xs[i]? = some (d, q) := by
  rw [← h, List.getElem?_map] at hd
  obtain ⟨⟨x, q⟩, e, rfl⟩ := Option.map_eq_some_iff.1 hd
  exact ⟨q, e⟩

theorem two_of {cs : List Value} {a b : Value} (hl : cs.length = 2) (h0 : (cs.drop 0).take 1 = [a]) (h1 : (cs.drop 1).take 1 = [b]) : cs = [a, b] := by
  match cs, hl with
  | [x0, x1], _ =>
    simp at h0 h1
    rw [h0, h1]
theorem seven_of {cs : List Value} {a b c d e f g : Value} (hl : cs.length = 7) (h0 : (cs.drop 0).take 1 = [a]) (h1 : (cs.drop 1).take 1 = [b]) (h2 : (cs.drop 2).take 2 = [c, d]) (h3 : (cs.drop 4).take 2 = [e, f]) (h4 : (cs.drop 6).take 1 = [g]) : cs = [a, b, c, d, e, f, g] := by
  match cs, hl with
  | [x0, x1, x2, x3, x4, x5, x6], _ =>
    simp at h0 h1 h2 h3 h4
    rw [h0, h1, h2.1, h2.2, h3.1, h3.2, h4]

theorem span_cells {l m : Int} (h : DataW.trod enc Tryz.prog w base sp held fuel 191 cs = some (.agg [.lit (.int .i64 l), .lit (.int .i64 m)], p)) : cs = [.int .i64 l, .int .i64 m] := by
  obtain ⟨xs, n, _, e, hl, _, hf⟩ := DataW.trod_struct Tryz.underlying191 h
  have hl2 : cs.length = 2 := hl.trans (by kernel_rfl)
  simp only [Prod.mk.injEq, DataW.agg.injEq] at e
  obtain ⟨q0, e0⟩ := some_of e.1.symm (i := 0) rfl
  obtain ⟨q1, e1⟩ := some_of e.1.symm (i := 1) rfl
  have f0 : (cs.drop 0).take (Tryz.prog.cellsOf 3) = [.int .i64 l] := int_cells ((hf 0 _ rfl).trans e0)
  have f1 : (cs.drop 1).take (Tryz.prog.cellsOf 3) = [.int .i64 m] := int_cells ((hf 1 _ rfl).trans e1)
  have hc : Tryz.prog.cellsOf 3 = 1 := by kernel_rfl
  rw [hc] at f0 f1
  exact two_of hl2 f0 f1

theorem nform_cells {q : Nat × Nat × Nat × Nat × Nat × Nat × Bool} (h : DataW.trod enc Tryz.prog w base sp held fuel 193 cs = some (frmN q, p)) : cs = [.int .i64 q.1, .int .i64 q.2.1, .int .i64 q.2.2.1, .int .i64 q.2.2.2.1, .int .i64 q.2.2.2.2.1, .int .i64 q.2.2.2.2.2.1, .bool q.2.2.2.2.2.2] := by
  unfold frmN at h
  obtain ⟨xs, n, _, e, hl, _, hf⟩ := DataW.trod_struct Tryz.underlying193 h
  have hl2 : cs.length = 7 := hl.trans (by kernel_rfl)
  simp only [Prod.mk.injEq, DataW.agg.injEq] at e
  obtain ⟨q0, e0⟩ := some_of e.1.symm (i := 0) rfl
  obtain ⟨q1, e1⟩ := some_of e.1.symm (i := 1) rfl
  obtain ⟨q2, e2⟩ := some_of e.1.symm (i := 2) rfl
  obtain ⟨q3, e3⟩ := some_of e.1.symm (i := 3) rfl
  obtain ⟨q4, e4⟩ := some_of e.1.symm (i := 4) rfl
  have f0 : (cs.drop 0).take (Tryz.prog.cellsOf 3) = [.int .i64 q.1] := int_cells ((hf 0 _ rfl).trans e0)
  have f1 : (cs.drop 1).take (Tryz.prog.cellsOf 3) = [.int .i64 q.2.1] := int_cells ((hf 1 _ rfl).trans e1)
  have f2 : (cs.drop 2).take (Tryz.prog.cellsOf 191) = [.int .i64 q.2.2.1, .int .i64 q.2.2.2.1] := span_cells ((hf 2 _ rfl).trans e2)
  have f3 : (cs.drop 4).take (Tryz.prog.cellsOf 191) = [.int .i64 q.2.2.2.2.1, .int .i64 q.2.2.2.2.2.1] := span_cells ((hf 3 _ rfl).trans e3)
  have f4 : (cs.drop 6).take (Tryz.prog.cellsOf 4) = [.bool q.2.2.2.2.2.2] := bool_cells ((hf 4 _ rfl).trans e4)
  have hc : Tryz.prog.cellsOf 3 = 1 := by kernel_rfl
  have hc2 : Tryz.prog.cellsOf 191 = 2 := by kernel_rfl
  have hc3 : Tryz.prog.cellsOf 4 = 1 := by kernel_rfl
  rw [hc] at f0 f1
  rw [hc2] at f2 f3
  rw [hc3] at f4
  exact seven_of hl2 f0 f1 f2 f3 f4
end

theorem drop_get {cs L : List Value} {i m r : Nat} (h : (cs.drop (i * m)).take m = L) (hr : r < m) : cs[i * m + r]? = L[r]? := by
  rw [← h, List.getElem?_take, if_pos hr, List.getElem?_drop]

theorem laidL_is : laidL = [(wnm 0, Rows.laid_math_bits_deBruijn32tab), (wnm 1, Rows.laid_math_bits_deBruijn64tab), (wnm 2, Rows.laid_internal_strconv_uint64pow10), (wnm 3, .agg (wordsV.map fun t => .lit (.string t))), (wnm 4, .agg ((List.range 20).map fun k => frmN (formN k))), (wnm 5, Rows.laid_gradus_tree_typeForms), (wnm 6, Rows.laid_gradus_tree_plainNames), (wnm 7, Rows.laid_gradus_tree_tagNames), (wnm 8, Rows.laid_gradus_tree_boolNames), (wnm 9, .agg (opsV.map fun t => .lit (.string t)))] := by
  rw [← words_datum, ← ops_datum, ← nforms_datum]
  kernel_rfl

set_option maxHeartbeats 2000000 in
theorem tab_of_laid {W : World} (h : laidMetH Tryz.prog laidL W) : Base5 W := by
  rw [MakeChecks.laidMetH_plain _ _ _ (by kernel_rfl)] at h
  rw [laidL_is] at h
  obtain ⟨ps, ⟨g0, t0, cs0, f0, p0, q0, hg0, ht0, hv0, hd0, ⟨g1, t1, cs1, f1, p1, q1, hg1, ht1, hv1, hd1, ⟨g2, t2, cs2, f2, p2, q2, hg2, ht2, hv2, hd2, ⟨g3, t3, cs3, f3, p3, q3, hg3, ht3, hv3, hd3, ⟨g4, t4, cs4, f4, p4, q4, hg4, ht4, hv4, hd4, ⟨g5, t5, cs5, f5, p5, q5, hg5, ht5, hv5, hd5, ⟨g6, t6, cs6, f6, p6, q6, hg6, ht6, hv6, hd6, ⟨g7, t7, cs7, f7, p7, q7, hg7, ht7, hv7, hd7, ⟨g8, t8, cs8, f8, p8, q8, hg8, ht8, hv8, hd8, ⟨g9, t9, cs9, f9, p9, q9, hg9, ht9, hv9, hd9, _, _⟩, _⟩, _⟩, _⟩, _⟩, _⟩, _⟩, _⟩, _⟩, _⟩, _⟩ := h
  obtain rfl := Option.some.inj (words_glob.symm.trans hg3)
  obtain rfl := Option.some.inj (words_type.symm.trans ht3)
  obtain rfl := Option.some.inj (nforms_glob.symm.trans hg4)
  obtain rfl := Option.some.inj (nforms_type.symm.trans ht4)
  obtain rfl := Option.some.inj (ops_glob.symm.trans hg9)
  obtain rfl := Option.some.inj (ops_type.symm.trans ht9)
  have c3 : cs3 = (wordsV.map fun t => Value.string ⟨t.toArray⟩).toArray := by rw [← cells_of_strs Tryz.underlying221 (by kernel_rfl) (by kernel_rfl) hd3]
  have c9 : cs9 = (opsV.map fun t => Value.string ⟨t.toArray⟩).toArray := by rw [← cells_of_strs Tryz.underlying236 (by kernel_rfl) (by kernel_rfl) hd9]
  subst c3 c9
  have hW : ∀ i, i < 25 → W.cell? ⟨4, i, none⟩ = some (.string (wordB i)) := fun i hi => by
    rw [World.var?_cell words_glob hv3 i]
    simp only [List.getElem?_toArray, List.getElem?_map]
    rw [List.getElem?_eq_getElem (show i < wordsV.length from hi)]
    unfold wordB
    rw [List.getD_eq_getElem?_getD, List.getElem?_eq_getElem (show i < wordsV.length from hi)]
    rfl
  refine ⟨⟨fun k hk => ?_, hW, fun i hi => ?_⟩, hW⟩
  · obtain ⟨xs, n, _, e, hl, _, hf⟩ := DataW.trod_array Tryz.underlying194 hd4
    simp only [Prod.mk.injEq, DataW.agg.injEq] at e
    obtain ⟨q, eq⟩ := some_of e.1.symm (i := k) (d := frmN (formN k)) (by simp [hk])
    have hc := nform_cells ((hf k hk).trans eq)
    have h7 : Tryz.prog.cellsOf 193 = 7 := by kernel_rfl
    rw [h7] at hc
    have hx : ∀ r, r < 7 → W.cell? ⟨3, k * 7 + r, none⟩ = [Value.int .i64 (formN k).1, .int .i64 (formN k).2.1, .int .i64 (formN k).2.2.1, .int .i64 (formN k).2.2.2.1, .int .i64 (formN k).2.2.2.2.1, .int .i64 (formN k).2.2.2.2.2.1, .bool (formN k).2.2.2.2.2.2][r]? := fun r hr => by
      rw [World.var?_cell nforms_glob hv4 (k * 7 + r), ← Array.getElem?_toList]
      exact drop_get hc hr
    exact ⟨hx 0 (by omega), hx 1 (by omega), hx 2 (by omega), hx 3 (by omega), hx 4 (by omega), hx 5 (by omega), hx 6 (by omega)⟩
  · rw [World.var?_cell ops_glob hv9 i]
    simp only [List.getElem?_toArray, List.getElem?_map]
    rw [List.getElem?_eq_getElem (show i < opsV.length from hi)]
    unfold opB
    rw [List.getD_eq_getElem?_getD, List.getElem?_eq_getElem (show i < opsV.length from hi)]
    rfl

theorem string_reach {s : ByteArray} (h : s.data.toList.length ≤ reachBytes) : s.size ≤ 140737488351232 := by
  rw [byteArray_len] at h
  exact h
end Go.Proofs.YtfjlkkohccihnabGreatDoor

/- The reference's parser in memory: behind what is wrong it goes on, and changes nothing. -/
namespace Go.Proofs.YtfjlkkohccihnabGreatDoor
open Go.RowKit

/-- Where it stands; or what was wrong first. -/
abbrev Sta := Nat ⊕ (Int × Nat × Nat)
def eS : Sta → Int
  | .inl _ => 0
  | .inr p => p.1
def lS : Sta → Nat
  | .inl _ => 0
  | .inr p => p.2.1
def cS : Sta → Nat
  | .inl _ => 0
  | .inr p => p.2.2
abbrev rpO (tb n cap a d : Nat) (e : Int) (l c : Nat) : Obj := .cells #[.slice (some ⟨tb, 0, none⟩) n cap, .int .i64 a, .int .i64 d, .int .i64 e, .int .i64 l, .int .i64 c] 106
structure RSt (w : World) (pb tb cap : Nat) (ts : List Tok) (d : Nat) (S : Sta) (a : Nat) : Prop where
  blk : w.heap[pb]? = some (rpO tb ts.length cap a d (eS S) (lS S) (cS S))
  lt : a < ts.length
  live : ∀ b, S = .inl b → b = a
  bad : ∀ p, S = .inr p → p.1 ≠ 0
  tlt : tb < pb
  toks : ToksC w tb ts

section
variable {w w1 : World} {pb tb cap a d : Nat} {ts : List Tok} {S : Sta}
theorem RSt.ltp (h : RSt w pb tb cap ts d S a) : pb < w.heap.size := lt_of_block h.blk
theorem RSt.below (h : RSt w pb tb cap ts d S a) (hb : Below w.heap.size w w1) : RSt w1 pb tb cap ts d S a :=
  ⟨(hb.block _ h.ltp).trans h.blk, h.lt, h.live, h.bad, h.tlt, toksC_keep h.toks (hb.block _ (Nat.lt_trans h.tlt h.ltp))⟩
theorem RSt.alloc (h : RSt w pb tb cap ts d S a) (o : Obj) : RSt (w.alloc o) pb tb cap ts d S a := h.below (bl_alloc _ _)
theorem RSt.drew (h : RSt w pb tb cap ts d S a) : RSt w.drew pb tb cap ts d S a := h.below (Below.refl _ _).drew
theorem RSt.cells (h : RSt w pb tb cap ts d S a) : (w.cell? ⟨pb, 0, none⟩ = some (.slice (some ⟨tb, 0, none⟩) ts.length cap) ∧ w.cell? ⟨pb, 1, none⟩ = some (.int .i64 a) ∧ w.cell? ⟨pb, 2, none⟩ = some (.int .i64 d) ∧ w.cell? ⟨pb, 3, none⟩ = some (.int .i64 (eS S)) ∧ w.cell? ⟨pb, 4, none⟩ = some (.int .i64 (lS S)) ∧ w.cell? ⟨pb, 5, none⟩ = some (.int .i64 (cS S))) ∧
    (w.frozen? ⟨pb, 1, none⟩ = false ∧ w.frozen? ⟨pb, 2, none⟩ = false ∧ w.frozen? ⟨pb, 3, none⟩ = false ∧ w.frozen? ⟨pb, 4, none⟩ = false ∧ w.frozen? ⟨pb, 5, none⟩ = false) := by
  refine ⟨⟨?_, ?_, ?_, ?_, ?_, ?_⟩, ?_, ?_, ?_, ?_, ?_⟩
  all_goals first | (rw [cell_of_row _ _ _ _ _ _ h.blk]; rfl) | simp [World.frozen?, h.blk]
end

def seesS (ts : List Tok) : Sta → List UInt8 → Bool
  | .inl a, s => seesA ts a s
  | .inr _, _ => false
theorem seesS_at {w : World} {pb tb cap a d : Nat} {ts : List Tok} {S : Sta} (h : RSt w pb tb cap ts d S a) (s : List UInt8) : seesS ts S s = ((eS S == 0) && seesA ts a s) := by
  cases S with
  | inl b => rw [h.live b rfl]; rfl
  | inr p =>
    have := h.bad p rfl
    unfold seesS eS
    simp [this]

set_option maxRecDepth 100000 in
set_option maxHeartbeats 4000000 in
theorem rsees_c (pb tb cap a d : Nat) (ts : List Tok) (S : Sta) (s : List UInt8) (w : World) (h : RSt w pb tb cap ts d S a) :
    Calls Tryz.prog 124 #[.pointer (some ⟨pb, 0, none⟩), .string ⟨s.toArray⟩] w fun e w' => e = .returned (.bool (seesS ts S s)) ∧ Below w.heap.size w w' := by
  rw [seesS_at h s]
  obtain ⟨⟨c0, c1, c2, c3, c4, c5⟩, _⟩ := h.cells
  obtain ⟨q0, q1, q2, q3⟩ := h.toks a h.lt
  have hal : (a : Int) < (ts.length : Int) := by have := h.lt; omega
  have hpl := h.ltp
  have htl := Nat.lt_trans h.tlt h.ltp
  generalize eS S = es at c3 ⊢
  unfold seesA
  generalize tkA ts a = t at q0 q1 q2 q3 ⊢
  obtain ⟨tk, tt, tl, tc⟩ := t
  simp only at q0 q1 q2 q3 ⊢
  obtain ⟨r, hr⟩ : ∃ r, r = (es == 0 && ((tk == 2 || tk == 5) && tt == s)) := ⟨_, rfl⟩
  rw [← hr]
  have HR := hideP hr
  obtain ⟨S0, hS0⟩ : ∃ S0 : ByteArray, S0 = ⟨tt.toArray⟩ := ⟨_, rfl⟩
  obtain ⟨S1, hS1⟩ : ∃ S1 : ByteArray, S1 = ⟨s.toArray⟩ := ⟨_, rfl⟩
  have HQ : Hid ((tt == s) = (S0.toList == S1.toList)) := by
    show _ = _
    cases hq : (S0.toList == S1.toList) with
    | true =>
      have := str_eq.1 hq
      rw [hS0, hS1] at this
      simpa using this
    | false =>
      have := str_ne hq
      rw [hS0, hS1] at this
      simpa using this
  rw [← hS0] at q1
  rw [← hS1]
  clear c2 c4 c5 h hr hS0 hS1
  have HS : Hid (∀ W, Below w.heap.size w W → W.cell? ⟨pb, 0, none⟩ = some (.slice (some ⟨tb, 0, none⟩) ts.length cap) ∧ W.cell? ⟨pb, 1, none⟩ = some (.int .i64 a) ∧ W.cell? ⟨tb, a * 4, none⟩ = some (.int .i64 tk) ∧ W.cell? ⟨tb, a * 4 + 1, none⟩ = some (.string S0) ∧ W.cell? ⟨tb, a * 4 + 2, none⟩ = some (.int .i64 tl) ∧ W.cell? ⟨tb, a * 4 + 3, none⟩ = some (.int .i64 tc)) := fun W hW =>
    ⟨(hW.cell (p := ⟨pb, 0, none⟩) hpl).trans c0, (hW.cell (p := ⟨pb, 1, none⟩) hpl).trans c1, (hW.cell (p := ⟨tb, a * 4, none⟩) htl).trans q0, (hW.cell (p := ⟨tb, a * 4 + 1, none⟩) htl).trans q1, (hW.cell (p := ⟨tb, a * 4 + 2, none⟩) htl).trans q2, (hW.cell (p := ⟨tb, a * 4 + 3, none⟩) htl).trans q3⟩
  have hSS := HS.out w.drew (Below.refl _ _).drew
  have HS1 : Hid (∀ o, _) := fun o => HS.out ((w.alloc o).drew) (bl_alloc w o).drew
  have HE : Hid (∀ W, Below w.heap.size w W → W.cell? ⟨pb, 3, none⟩ = some (.int .i64 es)) := fun W hW => (hW.cell (p := ⟨pb, 3, none⟩) hpl).trans c3
  clear c0 c1 c3 q0 q1 q2 q3
  go_enter Tryz.func124, Tryz.ntmps124
  go_wp2_with fail
  go_region_held (fun W => W.cell? ⟨pb, 0, none⟩ = some (.slice (some ⟨tb, 0, none⟩) ts.length cap) ∧ W.cell? ⟨pb, 1, none⟩ = some (.int .i64 a) ∧ W.cell? ⟨tb, a * 4, none⟩ = some (.int .i64 tk) ∧ W.cell? ⟨tb, a * 4 + 1, none⟩ = some (.string S0) ∧ W.cell? ⟨tb, a * 4 + 2, none⟩ = some (.int .i64 tl) ∧ W.cell? ⟨tb, a * 4 + 3, none⟩ = some (.int .i64 tc)) (first | with_reducible assumption | with_reducible exact HS1.out _) (fail)
  have HB : Hid (Below w.heap.size w (w.alloc (.cells #[.int .i64 tk, .string S0, .int .i64 tl, .int .i64 tc] 108)).drew) := (bl_alloc w _).drew
  have HT : Hid ((w.alloc (.cells #[.int .i64 tk, .string S0, .int .i64 tl, .int .i64 tc] 108)).drew.heap[w.heap.size]? = some (.cells #[.int .i64 tk, .string S0, .int .i64 tl, .int .i64 tc] 108)) := heap_alloc_last _ _
  generalize (w.alloc (.cells #[.int .i64 tk, .string S0, .int .i64 tl, .int .i64 tc] 108)).drew = W1 at HB HT ⊢
  clear hSS HS1 HS
  obtain ⟨⟨t0, t1, t2, t3⟩, _, htl1⟩ := res_facts HT.out
  have hE := HE.out _ HB.out
  have HR2 : Hid (r = (es == 0 && ((tk == 2 || tk == 5) && (S0.toList == S1.toList)))) := by rw [← HQ.out]; exact HR.out
  clear HR HQ
  cases he : (es == 0) with
  | false =>
    obtain rfl : r = false := by rw [HR2.out, he]; rfl
    go_wp2_with fail
    go_ret
    exact ⟨rfl, HB.out⟩
  | true =>
    cases hk2 : (tk == 2) with
    | true =>
      obtain rfl : r = (S0.toList == S1.toList) := by rw [HR2.out, he, hk2]; rfl
      go_wp2_with fail
      go_ret
      exact ⟨rfl, HB.out⟩
    | false =>
      cases hk5 : (tk == 5) with
      | true =>
        obtain rfl : r = (S0.toList == S1.toList) := by rw [HR2.out, he, hk2, hk5]; rfl
        go_wp2_with fail
        go_ret
        exact ⟨rfl, HB.out⟩
      | false =>
        obtain rfl : r = false := by rw [HR2.out, he, hk2, hk5]; rfl
        go_wp2_with fail
        go_ret
        exact ⟨rfl, HB.out⟩
end Go.Proofs.YtfjlkkohccihnabGreatDoor

/- The reference's parser: take, fail, want. -/
namespace Go.Proofs.YtfjlkkohccihnabGreatDoor
open Go.RowKit

def liftS {α : Type} (K : Nat → Pr α) : Sta → Pr α
  | .inl a => K a
  | .inr p => .inr p
def stP {α : Type} : Pr α → Sta
  | .inl (_, b) => .inl b
  | .inr p => .inr p
def nextS : Sta → Sta
  | .inl a => .inl (a + 1)
  | .inr p => .inr p
def failS (ts : List Tok) (e : Int) : Sta → Sta
  | .inl a => .inr (e, (tkA ts a).line, (tkA ts a).col)
  | .inr p => .inr p
/-- It stands so, wherever that is. -/
def RAt (w : World) (pb tb cap : Nat) (ts : List Tok) (d : Nat) (S : Sta) : Prop := ∃ a, RSt w pb tb cap ts d S a
theorem RAt.below {w w1 : World} {pb tb cap d : Nat} {ts : List Tok} {S : Sta} (h : RAt w pb tb cap ts d S) (hb : Below w.heap.size w w1) : RAt w1 pb tb cap ts d S := by
  obtain ⟨a, h⟩ := h
  exact ⟨a, h.below hb⟩

section
variable {w : World} {pb tb cap a b d : Nat} {ts : List Tok}
theorem RSt.setAt (h : RSt w pb tb cap ts d (.inl a) a) (hb : b < ts.length) : RSt (w.setCell ⟨pb, 1, none⟩ (.int .i64 b)) pb tb cap ts d (.inl b) b :=
  ⟨cells_setCell h.blk, hb, (fun _ e => Sum.inl.inj e.symm), (fun _ e => nomatch e), h.tlt, toksC_keep h.toks (Below.heap_setCell _ _ _ _ (by show tb ≠ pb; have := h.tlt; omega))⟩
theorem RSt.setDeep {S : Sta} (h : RSt w pb tb cap ts d S a) (n : Nat) : RSt (w.setCell ⟨pb, 2, none⟩ (.int .i64 n)) pb tb cap ts n S a :=
  ⟨cells_setCell h.blk, h.lt, h.live, h.bad, h.tlt, toksC_keep h.toks (Below.heap_setCell _ _ _ _ (by show tb ≠ pb; have := h.tlt; omega))⟩
theorem RSt.failed (h : RSt w pb tb cap ts d (.inl a) a) {e : Int} (he : e ≠ 0) (l c : Nat) : RSt (((w.setCell ⟨pb, 3, none⟩ (.int .i64 e)).setCell ⟨pb, 4, none⟩ (.int .i64 l)).setCell ⟨pb, 5, none⟩ (.int .i64 c)) pb tb cap ts d (.inr (e, l, c)) a := by
  have hne : tb ≠ pb := by have := h.tlt; omega
  have h3 := cells_setCell (o := 3) (u := .int .i64 e) h.blk
  have h4 := cells_setCell (o := 4) (u := .int .i64 l) h3
  have h5 := cells_setCell (o := 5) (u := .int .i64 c) h4
  refine ⟨by simpa [eS, lS, cS] using h5, h.lt, (fun _ e => nomatch e), (fun p hp => ?_), h.tlt, toksC_keep h.toks ?_⟩
  · obtain rfl := Sum.inr.inj hp
    exact he
  · rw [Below.heap_setCell _ _ _ _ hne, Below.heap_setCell _ _ _ _ hne, Below.heap_setCell _ _ _ _ hne]
end

set_option maxRecDepth 100000 in
set_option maxHeartbeats 4000000 in
theorem rtake_c (pb tb cap d : Nat) (ts : List Tok) (S : Sta) (s : List UInt8) (w : World) (h : RAt w pb tb cap ts d S) (ok : ToksOk ts) :
    Calls Tryz.prog 67 #[.pointer (some ⟨pb, 0, none⟩), .string ⟨s.toArray⟩] w fun e w' => e = .returned (.bool (seesS ts S s)) ∧ Stay pb w w' ∧ RAt w' pb tb cap ts d (if seesS ts S s then nextS S else S) := by
  obtain ⟨a, h⟩ := h
  have HC := hideP (rsees_c pb tb cap a d ts S s w h)
  have H := hideP h
  have OK := hideP ok
  clear h ok
  cases hq : seesS ts S s with
  | false =>
    rw [hq] at HC
    clear hq
    go_enter Tryz.func67, Tryz.ntmps67
    go_wp2_with fail
    refine HC.out.mono ?_
    rintro e w1 ⟨rfl, hb1⟩
    have HB := hideP hb1
    clear hb1
    go_wp2_with fail
    go_ret
    exact ⟨rfl, Stay.of H.out.ltp HB.out, a, H.out.below HB.out⟩
  | true =>
    have hS : S = .inl a ∧ a + 1 < ts.length := by
      cases S with
      | inr p => cases hq
      | inl b =>
        have e := H.out.live b rfl
        subst e
        exact ⟨rfl, sees_next OK.out.ends H.out.lt hq⟩
    obtain ⟨rfl, hal⟩ := hS
    rw [hq] at HC
    clear hq
    have ha9 : a < 8193 := by have := OK.out.len; omega
    go_enter Tryz.func67, Tryz.ntmps67
    go_wp2_with fail
    refine HC.out.mono ?_
    rintro e w1 ⟨rfl, hb1⟩
    have H1 := hideP (H.out.below hb1)
    have HS := hideP (Stay.of H.out.ltp hb1)
    clear hb1
    obtain ⟨⟨c0, c1, c2, c3, c4, c5⟩, f1, f2, f3, f4, f5⟩ := H1.out.cells
    go_wp2_with fail
    go_ret
    exact ⟨rfl, HS.out.set 1 _, a + 1, H1.out.setAt (b := a + 1) hal⟩

set_option maxRecDepth 100000 in
set_option maxHeartbeats 4000000 in
theorem rfail_c (pb tb cap d : Nat) (ts : List Tok) (S : Sta) (e : Int) (he : e ≠ 0) (w : World) (h : RAt w pb tb cap ts d S) :
    Calls Tryz.prog 61 #[.pointer (some ⟨pb, 0, none⟩), .int .i64 e] w fun r w' => r = .returned (.tuple #[]) ∧ Stay pb w w' ∧ RAt w' pb tb cap ts d (failS ts e S) := by
  obtain ⟨a, h⟩ := h
  have H := hideP h
  obtain ⟨⟨c0, c1, c2, c3, c4, c5⟩, f1, f2, f3, f4, f5⟩ := h.cells
  obtain ⟨q0, q1, q2, q3⟩ := h.toks a h.lt
  have hal : (a : Int) < (ts.length : Int) := by have := h.lt; omega
  have hpl := h.ltp
  have htl := Nat.lt_trans h.tlt h.ltp
  have hne : ¬ tb = pb := by have := h.tlt; omega
  cases S with
  | inr p =>
    have hp0 : (p.1 == 0) = false := by have := h.bad p rfl; simpa using this
    simp only [eS, lS, cS] at c3 c4 c5
    clear h
    go_enter Tryz.func61, Tryz.ntmps61
    go_wp2_with fail
    go_end0
    exact ⟨rfl, Stay.refl _ _, a, H.out⟩
  | inl b =>
    have e1 := h.live b rfl
    subst e1
    simp only [eS, lS, cS] at c3 c4 c5
    clear h
    go_enter Tryz.func61, Tryz.ntmps61
    go_wp2_with fail
    go_region
    all_goals
      go_wp2_with fail
      go_region
      all_goals
        go_wp2_with fail
        go_end0
        exact ⟨rfl, ((((Stay.refl pb w).set 3 _).set 4 _).set 5 _).drew.drew, b, ((H.out.failed he _ _).drew).drew⟩

set_option maxRecDepth 100000 in
set_option maxHeartbeats 4000000 in
theorem rwant_c (pb tb cap d : Nat) (ts : List Tok) (S : Sta) (s : List UInt8) (w : World) (h : RAt w pb tb cap ts d S) (ok : ToksOk ts) :
    Calls Tryz.prog 118 #[.pointer (some ⟨pb, 0, none⟩), .string ⟨s.toArray⟩] w fun r w' => r = .returned (.tuple #[]) ∧ Stay pb w w' ∧ RAt w' pb tb cap ts d (stP (liftS (fun a => wantA ts a s) S)) := by
  have HC := hideP (rtake_c pb tb cap d ts S s w h ok)
  have hS : stP (liftS (fun a => wantA ts a s) S) = if seesS ts S s then nextS S else failS ts 7 S := by
    cases S with
    | inr p => rfl
    | inl a =>
      show stP (if seesA ts a s then _ else _) = if seesA ts a s then _ else _
      cases seesA ts a s <;> rfl
  rw [hS]
  clear h ok hS
  cases hq : seesS ts S s with
  | true =>
    rw [hq, if_pos rfl] at HC
    clear hq
    go_enter Tryz.func118, Tryz.ntmps118
    go_wp2_with fail
    refine HC.out.mono ?_
    rintro e w1 ⟨rfl, hst, hat⟩
    have HF := hideP (And.intro hst hat)
    clear hst hat
    go_wp2_with fail
    go_end0
    exact ⟨rfl, HF.out.1, HF.out.2⟩
  | false =>
    rw [hq, if_neg (by simp)] at HC
    clear hq
    go_enter Tryz.func118, Tryz.ntmps118
    go_wp2_with fail
    refine HC.out.mono ?_
    rintro e w1 ⟨rfl, hst, hat⟩
    have HF := hideP (And.intro hst hat)
    clear hst hat
    go_wp2_with fail
    refine (rfail_c pb tb cap d ts S 7 (by decide) w1 HF.out.2).mono ?_
    rintro e w2 ⟨rfl, hst, hat⟩
    have HG := hideP (And.intro (HF.out.1.trans hst) hat)
    clear hst hat
    go_wp2_with fail
    go_end0
    exact ⟨rfl, HG.out.1, HG.out.2⟩

/-- Its name, or none. -/
def nmP : Pr (List UInt8) → List UInt8
  | .inl (s, _) => s
  | .inr _ => []

set_option maxRecDepth 100000 in
set_option maxHeartbeats 4000000 in
theorem rname_c (pb tb cap d : Nat) (ts : List Tok) (S : Sta) (w : World) (h : RAt w pb tb cap ts d S) (ok : ToksOk ts) :
    Calls Tryz.prog 116 #[.pointer (some ⟨pb, 0, none⟩)] w fun r w' => r = .returned (.string ⟨(nmP (liftS (nameA ts) S)).toArray⟩) ∧ Stay pb w w' ∧ RAt w' pb tb cap ts d (stP (liftS (nameA ts) S)) := by
  obtain ⟨a, h⟩ := h
  have H := hideP h
  have OK := hideP ok
  obtain ⟨⟨c0, c1, c2, c3, c4, c5⟩, f1, f2, f3, f4, f5⟩ := h.cells
  obtain ⟨q0, q1, q2, q3⟩ := h.toks a h.lt
  have hal : (a : Int) < (ts.length : Int) := by have := h.lt; omega
  have hpl := h.ltp
  have htl := Nat.lt_trans h.tlt h.ltp
  have hS : (∃ b, S = .inl b ∧ b = a) ∨ ∃ p, S = .inr p ∧ (p.1 == 0) = false := by
    cases S with
    | inl b => exact .inl ⟨b, rfl, h.live b rfl⟩
    | inr p => exact .inr ⟨p, rfl, by have := h.bad p rfl; simpa using this⟩
  obtain ⟨t, ht⟩ : ∃ t, t = tkA ts a := ⟨_, rfl⟩
  rw [← ht] at q0 q1 q2 q3
  obtain ⟨es, hes⟩ : ∃ es, es = eS S := ⟨_, rfl⟩
  rw [← hes] at c3
  have HES := hideP hes
  have HT := hideP ht
  clear ht hes
  have HS : Hid (∀ W, Below w.heap.size w W → W.cell? ⟨pb, 0, none⟩ = some (.slice (some ⟨tb, 0, none⟩) ts.length cap) ∧ W.cell? ⟨pb, 1, none⟩ = some (.int .i64 a) ∧ W.cell? ⟨tb, a * 4, none⟩ = some (.int .i64 t.kind) ∧ W.cell? ⟨tb, a * 4 + 1, none⟩ = some (.string ⟨t.text.toArray⟩) ∧ W.cell? ⟨tb, a * 4 + 2, none⟩ = some (.int .i64 t.line) ∧ W.cell? ⟨tb, a * 4 + 3, none⟩ = some (.int .i64 t.col)) := fun W hW =>
    ⟨(hW.cell (p := ⟨pb, 0, none⟩) hpl).trans c0, (hW.cell (p := ⟨pb, 1, none⟩) hpl).trans c1, (hW.cell (p := ⟨tb, a * 4, none⟩) htl).trans q0, (hW.cell (p := ⟨tb, a * 4 + 1, none⟩) htl).trans q1, (hW.cell (p := ⟨tb, a * 4 + 2, none⟩) htl).trans q2, (hW.cell (p := ⟨tb, a * 4 + 3, none⟩) htl).trans q3⟩
  have hSS := HS.out w.drew (Below.refl _ _).drew
  have HS1 : Hid (∀ o, _) := fun o => HS.out ((w.alloc o).drew) (bl_alloc w o).drew
  obtain ⟨R, hR⟩ : ∃ R, R = liftS (nameA ts) S := ⟨_, rfl⟩
  rw [← hR]
  have HR := hideP hR
  have HSe := hideP hS
  clear c0 c1 c2 c3 c4 c5 q0 q1 q2 q3 h ok hR hS f1 f2 f3 f4 f5
  go_enter Tryz.func116, Tryz.ntmps116
  go_wp2_with fail
  go_region_held (fun W => W.cell? ⟨pb, 0, none⟩ = some (.slice (some ⟨tb, 0, none⟩) ts.length cap) ∧ W.cell? ⟨pb, 1, none⟩ = some (.int .i64 a) ∧ W.cell? ⟨tb, a * 4, none⟩ = some (.int .i64 t.kind) ∧ W.cell? ⟨tb, a * 4 + 1, none⟩ = some (.string ⟨t.text.toArray⟩) ∧ W.cell? ⟨tb, a * 4 + 2, none⟩ = some (.int .i64 t.line) ∧ W.cell? ⟨tb, a * 4 + 3, none⟩ = some (.int .i64 t.col)) (first | with_reducible assumption | with_reducible exact HS1.out _) (fail)
  have HB : Hid (Below w.heap.size w (w.alloc (TOKO t)).drew) := (bl_alloc w _).drew
  have HTb : Hid ((w.alloc (TOKO t)).drew.heap[w.heap.size]? = some (TOKO t)) := heap_alloc_last _ _
  generalize (w.alloc (TOKO t)).drew = W1 at HB HTb ⊢
  clear hSS HS1 HS
  have H1 := hideP (H.out.below HB.out)
  obtain ⟨⟨t0, t1, t2, t3⟩, _, htl1⟩ := res_facts HTb.out
  obtain ⟨⟨c0, c1, c2, c3, c4, c5⟩, f1, f2, f3, f4, f5⟩ := H1.out.cells
  rw [← HES.out] at c3
  rcases HSe.out with ⟨b, hSb, rfl⟩ | ⟨p, hSp, hp0⟩
  · obtain rfl : es = 0 := by rw [HES.out, hSb]; rfl
    have HRt : Hid (R = if t.kind == 1 then .inl (t.text, b + 1) else badA ts 7 b) := by rw [HR.out, hSb, HT.out]; exact rfl
    have HSb := hideP hSb
    clear hSb c4 c5
    cases hk : (t.kind == 1) with
    | true =>
      have hbl : b + 1 < ts.length := by
        have := name_ok OK.out.ends H1.out.lt
        unfold nameA at this
        rw [← HT.out, hk] at this
        exact this
      have hb9 : b < 8193 := by have := OK.out.len; omega
      have HRi : Hid (R = .inl (t.text, b + 1)) := by rw [HRt.out, hk]; rfl
      go_wp2_with fail
      go_ret
      rw [HRi.out]
      have h2 := H1.out
      rw [HSb.out] at h2
      exact ⟨rfl, (Stay.of H.out.ltp HB.out).set 1 _, b + 1, h2.setAt (b := b + 1) hbl⟩
    | false =>
      have HRi : Hid (R = badA ts 7 b) := by rw [HRt.out, hk]; rfl
      go_wp2_with fail
      refine (rfail_c pb tb cap d ts S 7 (by decide) W1 ⟨_, H1.out⟩).mono ?_
      rintro e w2 ⟨rfl, hst, hat⟩
      have HG := hideP (And.intro ((Stay.of H.out.ltp HB.out).trans hst) hat)
      clear hst hat
      go_wp2_with fail
      go_ret
      rw [HRi.out]
      have h2 := HG.out.2
      rw [HSb.out] at h2
      exact ⟨rfl, HG.out.1, h2⟩
  · have : es = p.1 := by rw [HES.out, hSp]; rfl
    rw [← this] at hp0
    have HRi : Hid (R = .inr p) := by rw [HR.out, hSp]; rfl
    have HSp := hideP hSp
    clear hSp this c4 c5
    go_wp2_with fail
    refine (rfail_c pb tb cap d ts S 7 (by decide) W1 ⟨_, H1.out⟩).mono ?_
    rintro e w2 ⟨rfl, hst, hat⟩
    have HG := hideP (And.intro ((Stay.of H.out.ltp HB.out).trans hst) hat)
    clear hst hat
    go_wp2_with fail
    go_ret
    rw [HRi.out]
    have h2 := HG.out.2
    rw [HSp.out] at h2
    exact ⟨rfl, HG.out.1, h2⟩

/-- One deeper, if that may be. -/
def enterB (d : Nat) : Sta → Bool
  | .inl _ => decide (d < 100)
  | .inr _ => false
def enterS (ts : List Tok) (d : Nat) (S : Sta) : Sta := if 100 ≤ d then failS ts 6 S else S

set_option maxRecDepth 100000 in
set_option maxHeartbeats 4000000 in
theorem renter_c (pb tb cap d : Nat) (ts : List Tok) (S : Sta) (hd : d ≤ 1000) (w : World) (h : RAt w pb tb cap ts d S) :
    Calls Tryz.prog 59 #[.pointer (some ⟨pb, 0, none⟩)] w fun r w' => r = .returned (.bool (enterB d S)) ∧ Stay pb w w' ∧ RAt w' pb tb cap ts (if enterB d S then d + 1 else d) (enterS ts d S) := by
  obtain ⟨a, h⟩ := h
  have H := hideP h
  obtain ⟨⟨c0, c1, c2, c3, c4, c5⟩, f1, f2, f3, f4, f5⟩ := h.cells
  by_cases h100 : 100 ≤ d
  · have hge : (100 : Int) ≤ (d : Int) := by omega
    have e1 : enterS ts d S = failS ts 6 S := if_pos h100
    have e2 : enterB d S = false := by cases S <;> simp [enterB]; omega
    have e3 : ∀ w', RAt w' pb tb cap ts d (failS ts 6 S) → ∃ a x l c, RSt w' pb tb cap ts d (.inr (x, l, c)) a ∧ (x == 0) = false ∧ failS ts 6 S = .inr (x, l, c) := by
      rintro w' ⟨a, hr⟩
      cases hf : failS ts 6 S with
      | inl b => cases S <;> cases hf
      | inr p =>
        rw [hf] at hr
        obtain ⟨x, l, c⟩ := p
        exact ⟨a, x, l, c, hr, by have := hr.bad _ rfl; simpa using this, rfl⟩
    rw [e1, e2, if_neg (by simp)]
    have HF := hideP e3
    clear e1 e2 e3 h
    go_enter Tryz.func59, Tryz.ntmps59
    go_wp2_with fail
    refine (rfail_c pb tb cap d ts S 6 (by decide) w ⟨_, H.out⟩).mono ?_
    rintro e w2 ⟨rfl, hst, hat⟩
    obtain ⟨b, x, l, c, hr, hx, he⟩ := HF.out w2 hat
    have HG := hideP (And.intro hst hat)
    obtain ⟨⟨g0, g1, g2, g3, g4, g5⟩, _⟩ := hr.cells
    simp only [eS] at g3
    clear hst hat hr he
    go_wp2_with fail
    go_ret
    exact ⟨rfl, HG.out.1, HG.out.2⟩
  · have hlt : ¬ (100 : Int) ≤ (d : Int) := by omega
    have e1 : enterS ts d S = S := if_neg h100
    rw [e1]
    clear e1
    cases S with
    | inr p =>
      have hp0 : (p.1 == 0) = false := by have := h.bad p rfl; simpa using this
      simp only [eS] at c3
      show Calls _ _ _ _ fun r w' => r = .returned (.bool false) ∧ Stay pb w w' ∧ RAt w' pb tb cap ts d (.inr p)
      clear h
      go_enter Tryz.func59, Tryz.ntmps59
      go_wp2_with fail
      go_ret
      exact ⟨rfl, Stay.refl _ _, a, H.out⟩
    | inl b =>
      have e2 : enterB d (.inl b) = true := by simp [enterB]; omega
      rw [e2, if_pos rfl]
      simp only [eS] at c3
      clear h e2
      go_enter Tryz.func59, Tryz.ntmps59
      go_wp2_with fail
      go_ret
      exact ⟨rfl, (Stay.refl _ _).set 2 _, a, H.out.setDeep (d + 1)⟩
end Go.Proofs.YtfjlkkohccihnabGreatDoor
