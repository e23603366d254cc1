/- Part. -/
import Derived.ProofKit
import Derived.OpenShut
import Derived.ShutString
import Derived.ChangeOld
import Derived.LaidMore
import Derived.Stop.Joined
import Derived.Stop.LaidErr
import Derived.Lib.LaidTab
import Derived.Test.YtlhmofphpfdjlaaGreatDoorPart40
import Derived.Test.YtlhmofphpfdjlaaGreatDoorCards
import Derived.Test.YtlhmofphpfdjlaaGreatDoorTie
set_option maxRecDepth 100000
set_option maxHeartbeats 4000000
/- graduslaw05.awake by a contract. -/
namespace Go.Proofs.YtlhmofphpfdjlaaGreatDoor
open Go.Proofs.Tryz
open Go.RowKit
def xD : Ty := mkE 14 [45] 0 1 7 [] [] [mkE 14 [45] 0 1 3 [] [] [mkE 4 [97] 0 1 1 [] [] [], mkE 4 [98] 0 1 5 [] [] []], mkE 14 [42] 0 1 11 [] [] [mkE 4 [99] 0 1 9 [] [] [], mkE 4 [100] 0 1 13 [] [] []]]
def xN : Ty := mkN 14 [45] 0 [mkN 14 [45] 0 [mkN 4 [97] 0 [], mkN 4 [98] 0 []], mkN 14 [42] 0 [mkN 4 [99] 0 [], mkN 4 [100] 0 []]]
theorem x_eval : exprTextV [97, 32, 45, 32, 98, 32, 45, 32, 99, 32, 42, 32, 100] = .inl xD := by kernel_rfl
theorem t_eval : typeTextV [105, 110, 116, 32, 124, 32, 110, 117, 108, 108, 32, 45, 62, 32, 123, 97, 58, 32, 115, 116, 114, 125] = .inl (mkT 6 [] [] [mkT 7 [] [] [mkT 3 [] [] [], mkT 1 [] [] []], mkT 5 [] [[97]] [mkT 4 [] [] []]]) := by kernel_rfl
theorem m_eval : moduleTextV [102, 110, 32, 102, 40, 120, 41, 32, 61, 32, 120, 59] = .inl ([], [mkD [102] false [] [120] [mkT 0 [] [] [], mkT 0 [] [] []] (mkE 4 [120] 0 1 11 [] [] []) 1 1]) := by kernel_rfl
theorem g_eval : moduleTextV [102, 110, 32, 102, 40, 120, 41, 32, 61, 32, 59] = .inr (7, 1, 11) := by kernel_rfl
theorem x_bare : BareN 3 xD xN :=
  .inr ⟨_, _, _, _, _, _, _, rfl, rfl, by decide, .inr ⟨_, _, _, _, _, _, _, rfl, rfl, by decide, .inl ⟨_, _, _, rfl, rfl, by decide⟩, .inl ⟨_, _, _, rfl, rfl, by decide⟩⟩, .inr ⟨_, _, _, _, _, _, _, rfl, rfl, by decide, .inl ⟨_, _, _, rfl, rfl, by decide⟩, .inl ⟨_, _, _, rfl, rfl, by decide⟩⟩⟩
theorem x_ops : NamesOps 3 xN :=
  .inr ⟨_, _, _, rfl, by decide, by decide, .inr ⟨_, _, _, rfl, by decide, by decide, .inl ⟨_, rfl, by decide, by decide⟩, .inl ⟨_, rfl, by decide, by decide⟩⟩, .inr ⟨_, _, _, rfl, by decide, by decide, .inl ⟨_, rfl, by decide, by decide⟩, .inl ⟨_, rfl, by decide, by decide⟩⟩⟩
/-- Names and operations at most m deep are that great. -/
theorem names_size : ∀ (m : Nat) (D : Ty), NamesOps m D -> ∀ n, sizeT n D + 1 <= 2 ^ m /\ heightT n D <= m
  | 0, _, h, _ => h.elim
  | m + 1, D, _, 0 => by
    have := Nat.one_le_two_pow (n := m + 1)
    exact ⟨by rw [sizeT]; omega, by rw [heightT]; omega⟩
  | m + 1, D, h, n + 1 => by
    have := Nat.one_le_two_pow (n := m)
    rw [sizeT, heightT]
    rcases h with ⟨s, rfl, _⟩ | ⟨o, x, y, rfl, _, _, hx, hy⟩
    · rw [mkN, kids_mk]
      refine ⟨?_, ?_⟩
      · show 1 + 0 + 1 <= 2 ^ (m + 1)
        rw [Nat.pow_succ]
        omega
      · show 1 + 0 <= m + 1
        omega
    · have h1 := names_size m x hx n
      have h2 := names_size m y hy n
      rw [mkN, kids_mk]
      refine ⟨?_, ?_⟩
      · show 1 + (sizeT n x + (sizeT n y + 0)) + 1 <= 2 ^ (m + 1)
        rw [Nat.pow_succ]
        omega
      · show 1 + max (heightT n x) (max (heightT n y) 0) <= m + 1
        omega
/-- What is asked of memory by what follows. -/
structure Base5 (w : World) : Prop where
  tr : Base w
  lx : Lx.Words w
theorem Base5.below {w w' : World} (h : Base5 w) (hb : Below w.heap.size w w') : Base5 w' := ⟨h.tr.below hb, h.lx.below hb⟩
theorem ndV_top {lo : Nat} {w : World} {x : NV} {k N : Int} {tx : List UInt8} {l c : Nat} {ts : List Ty} {ns : List (List UInt8)} {ks : List Ty} (h : NdV lo w x (mkE k tx N l c ts ns ks)) : x.k = k /\ x.tx.data.toList = tx /\ x.N = N /\ x.li = l /\ x.co = c /\ x.tl = ts.length /\ x.nl = ns.length /\ x.kl = ks.length := by
  obtain ⟨m, h⟩ := h
  cases m with
  | zero => exact h.elim
  | succ m =>
    obtain ⟨tys, ns', ks', e, ⟨e1, e2, e3⟩, _⟩ := h
    obtain ⟨f1, f2, f3, f4, f5, rfl, rfl, rfl⟩ := mkE_inj e
    exact ⟨f1.symm, f2.symm, f3.symm, f4.symm, f5.symm, e1, e2, e3⟩
theorem tyE_kind {lo : Nat} {w : World} {k k' : Int} {nm : ByteArray} {na ka : Option Addr} {nl nc kl kc : Nat} {s : List UInt8} {ns : List (List UInt8)} {ks : List Ty} (h : TyE lo w (.agg #[.int .i64 k, .string nm, .slice na nl nc, .slice ka kl kc]) (mkT k' s ns ks)) : k = k' := by
  obtain ⟨m, h⟩ := h
  cases m with
  | zero => exact h.elim
  | succ m =>
    obtain ⟨k1, nm1, na1, nc1, ka1, kc1, ns1, ks1, e1, e2, _⟩ := h
    injection e1 with e1
    simp only [Array.mk.injEq, List.cons.injEq] at e1
    obtain ⟨e1, _⟩ := e1
    injection e1 with _ e1
    rw [e1]
    exact (mkT_inj e2).1.symm
/-- A function alone: where its types lie, and how many they are. -/
theorem decls_one {lo : Nat} {w : World} {a : Option Addr} {D : Ty} (h : RowQ DeclC 15 lo w a [D]) : ∃ g ta tc, a = some ⟨g, 0, none⟩ /\ w.cell? ⟨g, 4, none⟩ = some (.slice ta 2 tc) /\ g < w.heap.size := by
  rcases h with h | ⟨g, e, _, hc, hr⟩
  · cases h
  · obtain ⟨c, h1, h2, h3⟩ := hr 0 (by simp)
    obtain ⟨s, ex, vs, va, vc, pm, ta, tc, tys, x, B, li, co, m, rfl, _⟩ := h3
    exact ⟨g, ta, tc, e, h2 4 (by decide), clean_lt hc⟩
theorem awake5_c (w : World) (hB : Base5 w) : Calls prog 4 #[] w fun e w' => e = .returned (.bool true) /\ Below w.heap.size w w' := by
  have HB := hideP hB
  have HE := hideP (fun wx (h : Below w.heap.size w wx) => parseExpr_c ⟨#[97, 32, 45, 32, 98, 32, 45, 32, 99, 32, 42, 32, 100]⟩ (by decide) wx (hB.lx.below h))
  have HT := hideP (fun wx (h : Below w.heap.size w wx) => parseType_c ⟨#[105, 110, 116, 32, 124, 32, 110, 117, 108, 108, 32, 45, 62, 32, 123, 97, 58, 32, 115, 116, 114, 125]⟩ (by decide) wx (hB.lx.below h))
  have HM := hideP (fun wx (h : Below w.heap.size w wx) => parseParse_c ⟨#[102, 110, 32, 102, 40, 120, 41, 32, 61, 32, 120, 59]⟩ (by decide) wx (hB.lx.below h))
  have HG := hideP (fun wx (h : Below w.heap.size w wx) => parseParse_c ⟨#[102, 110, 32, 102, 40, 120, 41, 32, 61, 32, 59]⟩ (by decide) wx (hB.lx.below h))
  clear hB
  go_enter func4, ntmps4
  go_wp2_with fail
  refine (HE.out _ (Below.refl _ _)).mono ?_
  intro e w1 hpost
  have hpost : WPost w zNV.val NdE (exprTextV [97, 32, 45, 32, 98, 32, 45, 32, 99, 32, 42, 32, 100]) e w1 := hpost
  rw [x_eval] at hpost
  obtain ⟨hb1, v, rfl, x, rfl, hv⟩ := hpost
  have HB1 := hideP (below_next (below_next hb1 (bl_alloc w1 x.obj)) (bl_alloc _ (.cells #[.int .i64 0, .int .i64 0, .int .i64 0, .int .i64 0] 30)))
  have HX1 : Hid (NdV w.heap.size ((w1.alloc x.obj).alloc (.cells #[.int .i64 0, .int .i64 0, .int .i64 0, .int .i64 0] 30)) x xD) := (hv.alloc _).alloc _
  have HN1 : Hid (((w1.alloc x.obj).alloc (.cells #[.int .i64 0, .int .i64 0, .int .i64 0, .int .i64 0] 30)).heap[w1.heap.size]? = some x.obj) := (Below.heap_alloc _ _ _ (by simp)).trans (heap_alloc_last _ _)
  have HD1 : Hid (((w1.alloc x.obj).alloc (.cells #[.int .i64 0, .int .i64 0, .int .i64 0, .int .i64 0] 30)).heap[w1.heap.size + 1]? = some (.cells #[.int .i64 0, .int .i64 0, .int .i64 0, .int .i64 0] 30)) := heap_at1 _ _ _
  have HTOP := hideP (ndV_top (show NdV w.heap.size w1 x (mkE _ _ _ _ _ _ _ _) from hv))
  clear hb1 hv HE
  obtain ⟨nb, hnb⟩ : ∃ nb, nb = w1.heap.size := ⟨_, rfl⟩
  rw [<- hnb] at HN1 HD1
  go_wp2_with fail
  rw [<- hnb]
  generalize (w1.alloc x.obj).alloc (.cells #[.int .i64 0, .int .i64 0, .int .i64 0, .int .i64 0] 30) = W1 at HB1 HX1 HN1 HD1 ⊢
  clear hnb
  refine (HT.out _ HB1.out).mono ?_
  intro e w2 hpost
  have hpost : WPost W1 zTy TyE (typeTextV [105, 110, 116, 32, 124, 32, 110, 117, 108, 108, 32, 45, 62, 32, 123, 97, 58, 32, 115, 116, 114, 125]) e w2 := hpost
  rw [t_eval] at hpost
  obtain ⟨hb2, v, rfl, hv⟩ := hpost
  obtain ⟨k1, nm1, na1, nl1, nc1, ka1, kl1, kc1, rfl⟩ := hv.cells
  obtain rfl := tyE_kind hv
  have hbA := below_next (below_next hb2 (bl_alloc w2 (tyO 6 nm1 na1 nl1 nc1 ka1 kl1 kc1))) (bl_alloc _ (.cells #[.int .i64 0, .int .i64 0, .int .i64 0, .int .i64 0] 30))
  have HB2 := hideP (below_next HB1.out hbA)
  have HX2 := hideP (HX1.out.below hbA)
  have HN2 := hideP ((hbA.block _ (lt_of_block HN1.out)).trans HN1.out)
  have HD2 := hideP ((hbA.block _ (lt_of_block HD1.out)).trans HD1.out)
  have HT2 : Hid (((w2.alloc (tyO 6 nm1 na1 nl1 nc1 ka1 kl1 kc1)).alloc (.cells #[.int .i64 0, .int .i64 0, .int .i64 0, .int .i64 0] 30)).heap[w2.heap.size]? = some (tyO 6 nm1 na1 nl1 nc1 ka1 kl1 kc1)) := (Below.heap_alloc _ _ _ (by simp)).trans (heap_alloc_last _ _)
  have HE2 : Hid (((w2.alloc (tyO 6 nm1 na1 nl1 nc1 ka1 kl1 kc1)).alloc (.cells #[.int .i64 0, .int .i64 0, .int .i64 0, .int .i64 0] 30)).heap[w2.heap.size + 1]? = some (.cells #[.int .i64 0, .int .i64 0, .int .i64 0, .int .i64 0] 30)) := heap_at1 _ _ _
  clear hb2 hv hbA HB1 HX1 HN1 HD1 HT
  obtain ⟨tb, htb⟩ : ∃ tb, tb = w2.heap.size := ⟨_, rfl⟩
  rw [<- htb] at HT2 HE2
  go_wp2_with fail
  rw [<- htb]
  generalize (w2.alloc (tyO 6 nm1 na1 nl1 nc1 ka1 kl1 kc1)).alloc (.cells #[.int .i64 0, .int .i64 0, .int .i64 0, .int .i64 0] 30) = W2 at HB2 HX2 HN2 HD2 HT2 HE2 ⊢
  clear htb
  refine (HM.out _ HB2.out).mono ?_
  intro e w3 hpost
  have hpost : WPost W2 zMV.val MdE (moduleTextV [102, 110, 32, 102, 40, 120, 41, 32, 61, 32, 120, 59]) e w3 := hpost
  rw [m_eval] at hpost
  obtain ⟨hb3, v, rfl, y, rfl, hv⟩ := hpost
  obtain ⟨eil, edl, _, _, _, hdr⟩ := hv
  obtain ⟨g, ta, tc, eda, hgc, hgl⟩ := decls_one hdr
  have hbA := below_next (below_next hb3 (bl_alloc w3 y.obj)) (bl_alloc _ (.cells #[.int .i64 0, .int .i64 0, .int .i64 0, .int .i64 0] 30))
  have hbC := below_next (bl_alloc w3 y.obj) (bl_alloc _ (.cells #[.int .i64 0, .int .i64 0, .int .i64 0, .int .i64 0] 30))
  have HB3 := hideP (below_next HB2.out hbA)
  have HX3 := hideP (HX2.out.below hbA)
  have HN3 := hideP ((hbA.block _ (lt_of_block HN2.out)).trans HN2.out)
  have HD3 := hideP ((hbA.block _ (lt_of_block HD2.out)).trans HD2.out)
  have HT3 := hideP ((hbA.block _ (lt_of_block HT2.out)).trans HT2.out)
  have HE3 := hideP ((hbA.block _ (lt_of_block HE2.out)).trans HE2.out)
  have HC3 : Hid (((w3.alloc y.obj).alloc (.cells #[.int .i64 0, .int .i64 0, .int .i64 0, .int .i64 0] 30)).cell? ⟨g, 4, none⟩ = some (.slice ta 2 tc) /\ g < ((w3.alloc y.obj).alloc (.cells #[.int .i64 0, .int .i64 0, .int .i64 0, .int .i64 0] 30)).heap.size) := ⟨(hbC.cell (p := ⟨g, 4, none⟩) hgl).trans hgc, Nat.lt_of_lt_of_le hgl hbC.size⟩
  obtain ⟨ia, il, ic, da, dl, dc⟩ := y
  simp only at eil edl eda
  obtain rfl : il = 0 := eil
  obtain rfl : dl = 1 := edl
  subst eda
  have HM3 : Hid (((w3.alloc (MV.obj ⟨ia, 0, ic, some ⟨g, 0, none⟩, 1, dc⟩)).alloc (.cells #[.int .i64 0, .int .i64 0, .int .i64 0, .int .i64 0] 30)).heap[w3.heap.size]? = some (MV.obj ⟨ia, 0, ic, some ⟨g, 0, none⟩, 1, dc⟩)) := (Below.heap_alloc _ _ _ (by simp)).trans (heap_alloc_last _ _)
  have HF3 : Hid (((w3.alloc (MV.obj ⟨ia, 0, ic, some ⟨g, 0, none⟩, 1, dc⟩)).alloc (.cells #[.int .i64 0, .int .i64 0, .int .i64 0, .int .i64 0] 30)).heap[w3.heap.size + 1]? = some (.cells #[.int .i64 0, .int .i64 0, .int .i64 0, .int .i64 0] 30)) := heap_at1 _ _ _
  clear hb3 hdr hbA hbC hgc hgl HB2 HX2 HN2 HD2 HT2 HE2 HM
  obtain ⟨mb, hmb⟩ : ∃ mb, mb = w3.heap.size := ⟨_, rfl⟩
  rw [<- hmb] at HM3 HF3
  go_wp2_with fail
  rw [<- hmb]
  generalize (w3.alloc (MV.obj ⟨ia, 0, ic, some ⟨g, 0, none⟩, 1, dc⟩)).alloc (.cells #[.int .i64 0, .int .i64 0, .int .i64 0, .int .i64 0] 30) = W3 at HB3 HX3 HN3 HD3 HT3 HE3 HC3 HM3 HF3 ⊢
  clear hmb
  refine (HG.out _ HB3.out).mono ?_
  intro e w4 hpost
  have hpost : WPost W3 zMV.val MdE (moduleTextV [102, 110, 32, 102, 40, 120, 41, 32, 61, 32, 59]) e w4 := hpost
  rw [g_eval] at hpost
  obtain ⟨hb4, rfl⟩ := hpost
  have hbA := below_next (below_next hb4 (bl_alloc w4 zMV.obj)) (bl_alloc _ (.cells #[.int .i64 0, .int .i64 1, .int .i64 11, .int .i64 7] 30))
  have HB4 := hideP (below_next HB3.out hbA)
  have HX4 := hideP (HX3.out.below hbA)
  have HN4 := hideP ((hbA.block _ (lt_of_block HN3.out)).trans HN3.out)
  have HD4 := hideP ((hbA.block _ (lt_of_block HD3.out)).trans HD3.out)
  have HT4 := hideP ((hbA.block _ (lt_of_block HT3.out)).trans HT3.out)
  have HE4 := hideP ((hbA.block _ (lt_of_block HE3.out)).trans HE3.out)
  have HM4 := hideP ((hbA.block _ (lt_of_block HM3.out)).trans HM3.out)
  have HF4 := hideP ((hbA.block _ (lt_of_block HF3.out)).trans HF3.out)
  have HC4 : Hid (((w4.alloc zMV.obj).alloc (.cells #[.int .i64 0, .int .i64 1, .int .i64 11, .int .i64 7] 30)).cell? ⟨g, 4, none⟩ = some (.slice ta 2 tc) /\ g < ((w4.alloc zMV.obj).alloc (.cells #[.int .i64 0, .int .i64 1, .int .i64 11, .int .i64 7] 30)).heap.size) := ⟨(hbA.cell (p := ⟨g, 4, none⟩) HC3.out.2).trans HC3.out.1, Nat.lt_of_lt_of_le HC3.out.2 hbA.size⟩
  have HG4 : Hid (((w4.alloc zMV.obj).alloc (.cells #[.int .i64 0, .int .i64 1, .int .i64 11, .int .i64 7] 30)).heap[w4.heap.size + 1]? = some (.cells #[.int .i64 0, .int .i64 1, .int .i64 11, .int .i64 7] 30)) := heap_at1 _ _ _
  clear hb4 hbA HB3 HX3 HN3 HD3 HT3 HE3 HC3 HM3 HF3 HG
  obtain ⟨gb, hgb⟩ : ∃ gb, gb = w4.heap.size := ⟨_, rfl⟩
  rw [<- hgb] at HG4
  obtain ⟨⟨d0, d1, d2, d3⟩, _, hdl⟩ := res_facts HD4.out
  obtain ⟨⟨n0, n1, n2, n3, n4, n5, n6, n7⟩, _, hnl⟩ := box8 HN4.out
  go_wp2_with fail
  rw [<- hgb]
  clear hgb d0 d1 d2 d3 hdl n0 n1 n2 n3 n4 n5 n6 n7 hnl
  generalize (w4.alloc zMV.obj).alloc (.cells #[.int .i64 0, .int .i64 1, .int .i64 11, .int .i64 7] 30) = W4 at HB4 HX4 HN4 HD4 HT4 HE4 HM4 HF4 HC4 HG4 ⊢
  refine (made_expr (HB.out.tr.below HB4.out) x_bare x_ops HX4.out (fun n => by have := names_size 3 xN x_ops n; omega) (fun n => by have := names_size 3 xN x_ops n; omega) (by decide)).mono ?_
  rintro e w5 ⟨⟨s, rfl, hs⟩, hb5⟩
  have hs' : s = ⟨#[40, 40, 97, 32, 45, 32, 98, 41, 32, 45, 32, 40, 99, 32, 42, 32, 100, 41, 41]⟩ := by
    rw [show textN 3 xN = [40, 40, 97, 32, 45, 32, 98, 41, 32, 45, 32, 40, 99, 32, 42, 32, 100, 41, 41] by kernel_rfl] at hs
    exact strB_of hs
  subst hs'
  have HB5 := hideP (below_next HB4.out hb5)
  have HN5 := hideP ((hb5.block _ (lt_of_block HN4.out)).trans HN4.out)
  have HT5 := hideP ((hb5.block _ (lt_of_block HT4.out)).trans HT4.out)
  have HE5 := hideP ((hb5.block _ (lt_of_block HE4.out)).trans HE4.out)
  have HM5 := hideP ((hb5.block _ (lt_of_block HM4.out)).trans HM4.out)
  have HF5 := hideP ((hb5.block _ (lt_of_block HF4.out)).trans HF4.out)
  have HG5 := hideP ((hb5.block _ (lt_of_block HG4.out)).trans HG4.out)
  have hc5 := (hb5.cell (p := ⟨g, 4, none⟩) HC4.out.2).trans HC4.out.1
  have hg5 := Nat.lt_of_lt_of_le HC4.out.2 hb5.size
  clear hs hb5 HB4 HX4 HN4 HD4 HT4 HE4 HM4 HF4 HC4 HG4
  obtain ⟨⟨n0, n1, n2, n3, n4, n5, n6, n7⟩, _, hnl⟩ := box8 HN5.out
  obtain ⟨ek, _, _, el, ec, _⟩ := HTOP.out
  rw [el] at n3
  rw [ec] at n4
  obtain ⟨⟨t0, t1, t2, t3⟩, _, htl⟩ := res_facts HT5.out
  obtain ⟨⟨e0, e1, e2, e3⟩, _, hel⟩ := res_facts HE5.out
  obtain ⟨⟨m0, m1⟩, _, hml⟩ := boxM HM5.out
  obtain ⟨⟨f0, f1, f2, f3⟩, _, hfl⟩ := res_facts HF5.out
  obtain ⟨⟨g0, g1, g2, g3⟩, _, hgl⟩ := res_facts HG5.out
  clear ek el ec
  go_wp2_with fail
  go_ret
  exact ⟨rfl, HB5.out⟩
end Go.Proofs.YtlhmofphpfdjlaaGreatDoor
/- What the proof shares: the listed tables as a condition on memory, and what they give the walk. -/
namespace Go.Proofs.YtlhmofphpfdjlaaGreatDoor
open Go.Proofs.Tryz
open Go.ChangeShapes Go.WideShapes Go.ChangeAt Go.RowKit
open Go.ChangeMaps (open_string shut_string)
theorem own : ownKnob prog.godebug = none := by kernel_rfl
theorem laidOut : laidOutB prog = true := by kernel_rfl
/-- The listed variables. -/
def laidL : List (String × DataW Unit) := Rows.parseBracketsRow.laid
theorem door_met (os : Os) (args : Array Value) : laidMetH prog laidL ((World.doorLaid prog 150 os).forCall (fun _ _ => 0) ⟨#[], args, []⟩).memory :=
  laidMetH_of_parts3 (fuel := 8) (laidMet_of_run' 8 (by kernel_rfl) (by kernel_rfl)) (by kernel_rfl) (by kernel_rfl)
/-- The listed variables' names, as the row has them. -/
def wnm (i : Nat) : String := (laidL.map (·.1)).getD i (toString 0)
theorem words_glob : prog.globalNamed (wnm 3) = some 4 := by kernel_rfl
theorem words_type : (prog.globals[4]?).map (·.type) = some 164 := by kernel_rfl
theorem nforms_glob : prog.globalNamed (wnm 4) = some 2 := by kernel_rfl
theorem nforms_type : (prog.globals[2]?).map (·.type) = some 125 := by kernel_rfl
theorem ops_glob : prog.globalNamed (wnm 9) = some 5 := by kernel_rfl
theorem ops_type : (prog.globals[5]?).map (·.type) = some 170 := by kernel_rfl
theorem words_datum : (Rows.laid_gradus_lex_ownWords : DataW Unit) = .agg (wordsV.map fun t => .lit (.string t)) := by kernel_rfl
theorem ops_datum : (Rows.laid_gradus_tree_ops : DataW Unit) = .agg (opsV.map fun t => .lit (.string t)) := by kernel_rfl
def frmN (q : Nat × Nat × Nat × Nat × Nat × Nat × Bool) : DataW Unit := .agg [.lit (.int .i64 q.1), .lit (.int .i64 q.2.1), .agg [.lit (.int .i64 q.2.2.1), .lit (.int .i64 q.2.2.2.1)], .agg [.lit (.int .i64 q.2.2.2.2.1), .lit (.int .i64 q.2.2.2.2.2.1)], .lit (.bool q.2.2.2.2.2.2)]
theorem nforms_datum : (Rows.laid_gradus_tree_nodeForms : DataW Unit) = .agg ((List.range 20).map fun k => frmN (formN k)) := by kernel_rfl
/-- An array of strings that reads as the table holds the table's strings, cell for cell. -/
theorem cells_of_strs {H : Type} {enc : TypeId × Value -> H} {w : World} {base : Nat} {sp : Nat -> Bool} {held : Bool} {fuel : Nat} {cs : List Value} {p : List MemPlace} {T K : Nat} {L : List (List UInt8)} (ht : prog.underlying T = some (.array K 9)) (hct : prog.cellsOf T = K) (hLK : L.length = K)
    (h : DataW.trod enc prog w base sp held fuel T cs = some (.agg (L.map fun t => .lit (.string t)), p)) : cs = L.map fun t => Value.string ⟨t.toArray⟩ := by
  have hce : prog.cellsOf 9 = 1 := by kernel_rfl
  cases fuel with
  | zero => simp [DataW.trod] at h
  | succ fuel =>
    simp only [DataW.trod, ht, hce, hct, Nat.mul_one] at h
    split at h
    · rename_i hl
      obtain ⟨xs, hm, hx⟩ := Option.map_eq_some_iff.1 h
      have hxs : xs.map (·.1) = L.map fun t => (DataW.lit (.string t) : DataW H) := by
        have := congrArg Prod.fst hx
        simpa using this
      have hxl : xs.length = K := by simpa using Lib.mapM_length hm
      apply List.ext_getElem?
      intro i
      by_cases hi : i < K
      · obtain ⟨b, hb, hf⟩ := Lib.mapM_at hm i i (by simp [hi])
        obtain ⟨s, hc, rfl, _⟩ := DataW.trod_string underlying9 hf
        have h1 : cs[i]? = some (.string s) := by
          have := congrArg (·[0]?) hc
          simpa [List.getElem?_take, List.getElem?_drop] using this
        have h2 : (xs.map (·.1))[i]? = some (DataW.lit (.string s.data.toList) : DataW H) := by simp [hb]
        rw [hxs] at h2
        simp only [List.getElem?_map, Option.map_eq_some_iff, DataW.lit.injEq, Lit.string.injEq] at h2
        obtain ⟨t, ht', rfl⟩ := h2
        rw [h1, List.getElem?_map, ht']
        rfl
      · rw [List.getElem?_eq_none (by omega), List.getElem?_eq_none (by simp only [List.length_map]; omega)]
    · cases h
section
variable {enc : TypeId × Value -> Unit} {w : World} {base : Nat} {sp : Nat -> Bool} {held : Bool} {fuel : Nat} {cs : List Value} {p : List MemPlace}
theorem int_cells {n : Int} (h : DataW.trod enc prog w base sp held fuel 3 cs = some (.lit (.int .i64 n), p)) : cs = [.int .i64 n] := by
  obtain ⟨m, rfl, e, _⟩ := DataW.trod_int underlying3 h
  simp at e
  rw [e.1]
theorem bool_cells {b : Bool} (h : DataW.trod enc prog w base sp held fuel 4 cs = some (.lit (.bool b), p)) : cs = [.bool b] := by
  obtain ⟨m, rfl, e⟩ := DataW.trod_bool underlying4 h
  simp at e
  rw [e.1]
theorem some_of {α : Type} {xs : List (DataW Unit × α)} {ds : List (DataW Unit)} {i : Nat} {d : DataW Unit} (h : xs.map (·.1) = ds) (hd : ds[i]? = some d) : ∃ q, xs[i]? = some (d, q) := by
  rw [<- h, List.getElem?_map] at hd
  obtain ⟨⟨x, q⟩, e, rfl⟩ := Option.map_eq_some_iff.1 hd
  exact ⟨q, e⟩
theorem two_of {cs : List Value} {a b : Value} (hl : cs.length = 2) (h0 : (cs.drop 0).take 1 = [a]) (h1 : (cs.drop 1).take 1 = [b]) : cs = [a, b] := by
  match cs, hl with
  | [x0, x1], _ =>
    simp at h0 h1
    rw [h0, h1]
theorem seven_of {cs : List Value} {a b c d e f g : Value} (hl : cs.length = 7) (h0 : (cs.drop 0).take 1 = [a]) (h1 : (cs.drop 1).take 1 = [b]) (h2 : (cs.drop 2).take 2 = [c, d]) (h3 : (cs.drop 4).take 2 = [e, f]) (h4 : (cs.drop 6).take 1 = [g]) : cs = [a, b, c, d, e, f, g] := by
  match cs, hl with
  | [x0, x1, x2, x3, x4, x5, x6], _ =>
    simp at h0 h1 h2 h3 h4
    rw [h0, h1, h2.1, h2.2, h3.1, h3.2, h4]
theorem span_cells {l m : Int} (h : DataW.trod enc prog w base sp held fuel 122 cs = some (.agg [.lit (.int .i64 l), .lit (.int .i64 m)], p)) : cs = [.int .i64 l, .int .i64 m] := by
  obtain ⟨xs, n, _, e, hl, _, hf⟩ := DataW.trod_struct underlying122 h
  have hl2 : cs.length = 2 := hl.trans (by kernel_rfl)
  simp only [Prod.mk.injEq, DataW.agg.injEq] at e
  obtain ⟨q0, e0⟩ := some_of e.1.symm (i := 0) rfl
  obtain ⟨q1, e1⟩ := some_of e.1.symm (i := 1) rfl
  have f0 : (cs.drop 0).take (prog.cellsOf 3) = [.int .i64 l] := int_cells ((hf 0 _ rfl).trans e0)
  have f1 : (cs.drop 1).take (prog.cellsOf 3) = [.int .i64 m] := int_cells ((hf 1 _ rfl).trans e1)
  have hc : prog.cellsOf 3 = 1 := by kernel_rfl
  rw [hc] at f0 f1
  exact two_of hl2 f0 f1
theorem nform_cells {q : Nat × Nat × Nat × Nat × Nat × Nat × Bool} (h : DataW.trod enc prog w base sp held fuel 124 cs = some (frmN q, p)) : cs = [.int .i64 q.1, .int .i64 q.2.1, .int .i64 q.2.2.1, .int .i64 q.2.2.2.1, .int .i64 q.2.2.2.2.1, .int .i64 q.2.2.2.2.2.1, .bool q.2.2.2.2.2.2] := by
  unfold frmN at h
  obtain ⟨xs, n, _, e, hl, _, hf⟩ := DataW.trod_struct underlying124 h
  have hl2 : cs.length = 7 := hl.trans (by kernel_rfl)
  simp only [Prod.mk.injEq, DataW.agg.injEq] at e
  obtain ⟨q0, e0⟩ := some_of e.1.symm (i := 0) rfl
  obtain ⟨q1, e1⟩ := some_of e.1.symm (i := 1) rfl
  obtain ⟨q2, e2⟩ := some_of e.1.symm (i := 2) rfl
  obtain ⟨q3, e3⟩ := some_of e.1.symm (i := 3) rfl
  obtain ⟨q4, e4⟩ := some_of e.1.symm (i := 4) rfl
  have f0 : (cs.drop 0).take (prog.cellsOf 3) = [.int .i64 q.1] := int_cells ((hf 0 _ rfl).trans e0)
  have f1 : (cs.drop 1).take (prog.cellsOf 3) = [.int .i64 q.2.1] := int_cells ((hf 1 _ rfl).trans e1)
  have f2 : (cs.drop 2).take (prog.cellsOf 122) = [.int .i64 q.2.2.1, .int .i64 q.2.2.2.1] := span_cells ((hf 2 _ rfl).trans e2)
  have f3 : (cs.drop 4).take (prog.cellsOf 122) = [.int .i64 q.2.2.2.2.1, .int .i64 q.2.2.2.2.2.1] := span_cells ((hf 3 _ rfl).trans e3)
  have f4 : (cs.drop 6).take (prog.cellsOf 4) = [.bool q.2.2.2.2.2.2] := bool_cells ((hf 4 _ rfl).trans e4)
  have hc : prog.cellsOf 3 = 1 := by kernel_rfl
  have hc2 : prog.cellsOf 122 = 2 := by kernel_rfl
  have hc3 : prog.cellsOf 4 = 1 := by kernel_rfl
  rw [hc] at f0 f1
  rw [hc2] at f2 f3
  rw [hc3] at f4
  exact seven_of hl2 f0 f1 f2 f3 f4
end
theorem drop_get {cs L : List Value} {i m r : Nat} (h : (cs.drop (i * m)).take m = L) (hr : r < m) : cs[i * m + r]? = L[r]? := by
  rw [<- h, List.getElem?_take, if_pos hr, List.getElem?_drop]
theorem laidL_is : laidL = [(wnm 0, Rows.laid_math_bits_deBruijn32tab), (wnm 1, Rows.laid_math_bits_deBruijn64tab), (wnm 2, Rows.laid_internal_strconv_uint64pow10), (wnm 3, .agg (wordsV.map fun t => .lit (.string t))), (wnm 4, .agg ((List.range 20).map fun k => frmN (formN k))), (wnm 5, Rows.laid_gradus_tree_typeForms), (wnm 6, Rows.laid_gradus_tree_plainNames), (wnm 7, Rows.laid_gradus_tree_tagNames), (wnm 8, Rows.laid_gradus_tree_boolNames), (wnm 9, .agg (opsV.map fun t => .lit (.string t)))] := by
  rw [<- words_datum, <- ops_datum, <- nforms_datum]
  kernel_rfl
theorem tab_of_laid {W : World} (h : laidMetH prog laidL W) : Base5 W := by
  rw [MakeChecks.laidMetH_plain _ _ _ (by kernel_rfl)] at h
  rw [laidL_is] at h
  obtain ⟨ps, ⟨g0, t0, cs0, f0, p0, q0, hg0, ht0, hv0, hd0, ⟨g1, t1, cs1, f1, p1, q1, hg1, ht1, hv1, hd1, ⟨g2, t2, cs2, f2, p2, q2, hg2, ht2, hv2, hd2, ⟨g3, t3, cs3, f3, p3, q3, hg3, ht3, hv3, hd3, ⟨g4, t4, cs4, f4, p4, q4, hg4, ht4, hv4, hd4, ⟨g5, t5, cs5, f5, p5, q5, hg5, ht5, hv5, hd5, ⟨g6, t6, cs6, f6, p6, q6, hg6, ht6, hv6, hd6, ⟨g7, t7, cs7, f7, p7, q7, hg7, ht7, hv7, hd7, ⟨g8, t8, cs8, f8, p8, q8, hg8, ht8, hv8, hd8, ⟨g9, t9, cs9, f9, p9, q9, hg9, ht9, hv9, hd9, _, _⟩, _⟩, _⟩, _⟩, _⟩, _⟩, _⟩, _⟩, _⟩, _⟩, _⟩ := h
  obtain rfl := Option.some.inj (words_glob.symm.trans hg3)
  obtain rfl := Option.some.inj (words_type.symm.trans ht3)
  obtain rfl := Option.some.inj (nforms_glob.symm.trans hg4)
  obtain rfl := Option.some.inj (nforms_type.symm.trans ht4)
  obtain rfl := Option.some.inj (ops_glob.symm.trans hg9)
  obtain rfl := Option.some.inj (ops_type.symm.trans ht9)
  have c3 : cs3 = (wordsV.map fun t => Value.string ⟨t.toArray⟩).toArray := by rw [<- cells_of_strs underlying164 (by kernel_rfl) (by kernel_rfl) hd3]
  have c9 : cs9 = (opsV.map fun t => Value.string ⟨t.toArray⟩).toArray := by rw [<- cells_of_strs underlying170 (by kernel_rfl) (by kernel_rfl) hd9]
  subst c3 c9
  have hW : ∀ i, i < 25 -> W.cell? ⟨4, i, none⟩ = some (.string (wordB i)) := fun i hi => by
    rw [World.var?_cell words_glob hv3 i]
    simp only [List.getElem?_toArray, List.getElem?_map]
    rw [List.getElem?_eq_getElem (show i < wordsV.length from hi)]
    unfold wordB
    rw [List.getD_eq_getElem?_getD, List.getElem?_eq_getElem (show i < wordsV.length from hi)]
    rfl
  refine ⟨⟨fun k hk => ?_, hW, fun i hi => ?_⟩, hW⟩
  · obtain ⟨xs, n, _, e, hl, _, hf⟩ := DataW.trod_array underlying125 hd4
    simp only [Prod.mk.injEq, DataW.agg.injEq] at e
    obtain ⟨q, eq⟩ := some_of e.1.symm (i := k) (d := frmN (formN k)) (by simp [hk])
    have hc := nform_cells ((hf k hk).trans eq)
    have h7 : prog.cellsOf 124 = 7 := by kernel_rfl
    rw [h7] at hc
    have hx : ∀ r, r < 7 -> W.cell? ⟨2, k * 7 + r, none⟩ = [Value.int .i64 (formN k).1, .int .i64 (formN k).2.1, .int .i64 (formN k).2.2.1, .int .i64 (formN k).2.2.2.1, .int .i64 (formN k).2.2.2.2.1, .int .i64 (formN k).2.2.2.2.2.1, .bool (formN k).2.2.2.2.2.2][r]? := fun r hr => by
      rw [World.var?_cell nforms_glob hv4 (k * 7 + r), <- Array.getElem?_toList]
      exact drop_get hc hr
    exact ⟨hx 0 (by omega), hx 1 (by omega), hx 2 (by omega), hx 3 (by omega), hx 4 (by omega), hx 5 (by omega), hx 6 (by omega)⟩
  · rw [World.var?_cell ops_glob hv9 i]
    simp only [List.getElem?_toArray, List.getElem?_map]
    rw [List.getElem?_eq_getElem (show i < opsV.length from hi)]
    unfold opB
    rw [List.getD_eq_getElem?_getD, List.getElem?_eq_getElem (show i < opsV.length from hi)]
    rfl
theorem string_reach {s : ByteArray} (h : s.data.toList.length <= reachBytes) : s.size <= 140737488351232 := by
  rw [byteArray_len] at h
  exact h
end Go.Proofs.YtlhmofphpfdjlaaGreatDoor
