/- Part of the proof of TreeNormal: the texts that follow, in build order. -/
import Derived.Test.YtmpcjcjacpjilabGreatDoorPart11
import Derived.Deep.RegionHeld
import Derived.Test.YtmpcjcjacpjilabGreatDoorRows
import Derived.Test.YtmpcjcjacpjilabGreatDoorCards
import Derived.Test.YtmpcjcjacpjilabGreatDoorTie
import Derived.Test.YtmpcjcjacpjilabGreatDoorPart3
import Derived.WalkKit
import Derived.ProofKit
import Derived.OpenShut
import Derived.ShutString
import Derived.ChangeOld
import Derived.Below
import Derived.LaidMore
import Derived.Stop.Joined
import Derived.Stop.LaidErr
import Derived.SizedLaws
import Derived.Lib.LaidTab

/- types.show by a contract: all together; types.Show of normal types. -/
namespace Go.Proofs.YtmpcjcjacpjilabGreatDoor
open Go.RowKit

theorem show_c : ∀ n, ShowAt n
  | 0 => fun _ _ _ h => h.elim
  | n + 1 => fun v D w h hn hp hl => by
    obtain ⟨k, nm, na, nc, ka, kc, ns, ks, rfl, rfl, h3, h4, h5, ⟨_, h6⟩, ⟨_, h7⟩, h8, h9⟩ := h
    rcases hn with ⟨k', h0, h4', e⟩ | ⟨ns', ks', e, hl2, h16, hnv, _, hx⟩ | ⟨x, y, e, hx, hy⟩ | ⟨ks', e, h2, hx, hpw⟩
    · obtain ⟨rfl, hnm, rfl, rfl⟩ := mkT_inj e
      rw [hnm]
      exact show_base_c n _ ⟨h0, h4'⟩ _ _ _ _ _ _ _ _ hp
    · obtain ⟨rfl, hnm, rfl, rfl⟩ := mkT_inj e
      rw [hnm] at hl ⊢
      exact show_rec_c n (show_c n) _ _ _ _ _ _ _ _ hl2 (by omega) h8 h9 hx hp hl
    · obtain ⟨rfl, hnm, rfl, rfl⟩ := mkT_inj e
      rw [hnm] at hl ⊢
      rw [show_fun] at hl
      exact show_fun_c n (show_c n) _ _ _ _ _ _ _ _ _ h9 hx hy hp (by simpa using hl)
    · obtain ⟨rfl, hnm, rfl, rfl⟩ := mkT_inj e
      rw [hnm] at hl ⊢
      have hlen : ks.length ≤ 1000 := by
        have : (ks.map kindT).length ≤ 6 := by
          have hp2 : (ks.map kindT).Pairwise (· < ·) := by rw [List.pairwise_map]; exact hpw
          have hnd : (ks.map kindT).Nodup := hp2.imp fun h e => by omega
          have hsub : (ks.map kindT) ⊆ [1, 2, 3, 4, 5, 6] := fun z hz => by
            obtain ⟨x, hx1, rfl⟩ := List.mem_map.1 hz
            have := (hx x hx1).2
            have : kindT x = 1 ∨ kindT x = 2 ∨ kindT x = 3 ∨ kindT x = 4 ∨ kindT x = 5 ∨ kindT x = 6 := by omega
            simp
            exact this
          exact (List.Nodup.length_le_of_subset hnd hsub)
        simp at this
        omega
      exact show_uni_c n (show_c n) _ _ _ _ _ _ _ _ hlen h9 (fun x h => (hx x h).1) hp hl
end Go.Proofs.YtmpcjcjacpjilabGreatDoor

/- types.Show by a contract. -/
namespace Go.Proofs.YtmpcjcjacpjilabGreatDoor
open Go.RowKit

def ShPost (w : World) (n : Nat) (D : Ty) (e : Ending) (w' : World) : Prop := Below w.heap.size w w' ∧ ∃ s : ByteArray, e = .returned (.string s) ∧ (sizeT n D ≤ 200 ∧ heightT n D ≤ 16 ∧ normT n D = some D → s.data.toList = showT n false D) ∧ (normT n D ≠ some D → s = ⟨#[]⟩)

set_option maxHeartbeats 4000000 in
set_option maxRecDepth 100000 in
theorem sh_c (n : Nat) (v : Value) (D : Ty) (w : World) (h : TyAt w true n v D) (hw : Words w) (hp : Plain w) (hl : (showT n false D).length ≤ 1000000) :
    Calls Tryz.prog 8 #[v] w (ShPost w n D) := by
  obtain ⟨k, nm, na, nl, nc, ka, kl, kc, rfl, hk⟩ := ty_form h
  have HT := hideP h
  have HW := hideP hw
  have HP := hideP hp
  have HL := hideP hl
  have hb := bl_alloc w (tyO k nm na nl nc ka kl kc)
  have HB := hideP hb
  have HBX : Hid ((w.alloc (tyO k nm na nl nc ka kl kc)).heap[w.heap.size]? = some (tyO k nm na nl nc ka kl kc)) := heap_alloc_last w _
  have HC1 := hideP (nm_c true n _ D _ (ty_below h hb) (hw.below hb))
  clear h hw hp hl hb hk
  go_enter Tryz.func8, Tryz.ntmps8
  go_wp2_with fail
  refine HC1.out.mono ?_
  rintro e w1 ⟨hb1, hways⟩
  have HB1 := hideP (below_next HB.out hb1)
  have hbx1 := (hb1.block _ (lt_of_block HBX.out)).trans HBX.out
  obtain ⟨⟨x0, x1, x2, x3⟩, _, hltx⟩ := res_facts hbx1
  have HBX1 := hideP hbx1
  clear hb1 hbx1
  rcases hways with ⟨rfl, hn⟩ | ⟨E1, g1, g2, g3, g4, g5, g6, g7, g8, hn, hs, rfl, hF1, hk1⟩
  · have HN := hideP (hn rfl)
    clear hn
    go_wp2_with fail
    go_ret
    exact ⟨HB1.out.alloc HB1.out.size _, _, rfl, fun h => absurd ⟨h.1, h.2.1, by rw [h.2.2]; rfl⟩ HN.out, fun _ => rfl⟩
  · have HN := hideP hn
    have HSZ := hideP hs
    have HF := hideP hF1
    clear hn hs hF1 hk1
    have hb2 := bl_alloc w1 (tyO g1 g2 g3 g4 g5 g6 g7 g8)
    have HB2 := hideP (below_next HB1.out hb2)
    have HC2 := hideP (tsame_c n _ _ _ _ _ (tyF_at (tyF_below HF.out hb2)) (ty_below HT.out HB2.out))
    have HBX2 := hideP ((hb2.block _ (lt_of_block HBX1.out)).trans HBX1.out)
    clear hb2
    go_wp2_with fail
    refine HC2.out.mono ?_
    rintro e w3 ⟨⟨r, rfl, hr⟩, hb3⟩
    have HB3 := hideP (below_next HB2.out hb3)
    have hbx3 := (hb3.block _ (lt_of_block HBX2.out)).trans HBX2.out
    clear x0 x1 x2 x3 hltx
    obtain ⟨⟨x0, x1, x2, x3⟩, _, hltx⟩ := res_facts hbx3
    have HR := hideP hr
    clear hb3 hbx3 hr
    cases r
    · have hne : E1 ≠ D := fun e => absurd (HR.out.2 e) (by decide)
      have HNE := hideP hne
      clear hne
      go_wp2_with fail
      go_ret
      exact ⟨HB3.out, _, rfl, fun h => absurd (by have := h.2.2; rw [HN.out] at this; injection this) HNE.out, fun _ => rfl⟩
    · have heq : E1 = D := HR.out.1 rfl
      have HND : Hid (normT n D = some D) := by
        have := HN.out
        rw [heq] at this
        exact this
      have HC3 := hideP (show_c n _ D w3 (ty_forget (ty_below HT.out HB3.out)) (norm_normal HND.out) (HP.out.below HB3.out) HL.out)
      clear heq
      go_wp2_with fail
      refine HC3.out.mono ?_
      rintro e w4 ⟨s, rfl, hs, hb4⟩
      have HB4 := hideP (below_next HB3.out hb4)
      have HS := hideP hs
      clear hs hb4
      go_wp2_with fail
      go_ret
      exact ⟨HB4.out, _, rfl, fun _ => HS.out, fun h => absurd HND.out h⟩
end Go.Proofs.YtmpcjcjacpjilabGreatDoor

/- types.Norm and types.Show of types that are too high; how long a normal type's text is. -/
namespace Go.Proofs.YtmpcjcjacpjilabGreatDoor
open Go.RowKit

set_option maxHeartbeats 4000000 in
set_option maxRecDepth 100000 in
theorem nm_high (n : Nat) (v : Value) (D : Ty) (w : World) (h : TyAt w true n v D) (hh : 16 < heightT n D) :
    Calls Tryz.prog 6 #[v] w fun e w' => e = .returned (.tuple #[zTy, .int .i64 9]) ∧ Below w.heap.size w w' := by
  obtain ⟨k, nm, na, nl, nc, ka, kl, kc, rfl, _⟩ := ty_form h
  have HT := hideP h
  have HB := hideP (below_next (bl_alloc w (tyO k nm na nl nc ka kl kc)) (bl_alloc _ zO))
  have HC1 := hideP (size_c n _ D _ (ty_forget (ty_below h HB.out)))
  have HH := hideP hh
  clear h hh
  have hbx : ((w.alloc (tyO k nm na nl nc ka kl kc)).alloc zO).heap[w.heap.size]? = some (tyO k nm na nl nc ka kl kc) := (Below.heap_alloc _ _ _ (by simp)).trans (heap_alloc_last w _)
  have hrs : ((w.alloc (tyO k nm na nl nc ka kl kc)).alloc zO).heap[w.heap.size + 1]? = some zO := heap_at1 w _ _
  have HBX := hideP hbx
  have HRS := hideP hrs
  clear hbx hrs
  by_cases hsz : 200 < sizeT n D
  · have e1 : (200 : Int) < ((min (sizeT n D) 201 : Nat) : Int) := by omega
    clear hsz
    go_enter Tryz.func6, Tryz.ntmps6
    go_wp2_with fail
    refine HC1.out.mono ?_
    rintro e w1 ⟨rfl, hb1⟩
    have HB1 := hideP (below_next HB.out hb1)
    have HRS1 := hideP ((hb1.block _ (lt_of_block HRS.out)).trans HRS.out)
    obtain ⟨⟨z0, z1, z2, z3⟩, ⟨f0, f1, f2, f3⟩, hlt1⟩ := res_facts HRS1.out
    clear hb1
    go_wp2_with fail
    exact bodyPost_ret (results_cell_tmp rfl _ rfl (set4 HRS1.out _ _ _ _) Tryz.underlying25 ty_size) rfl ⟨rfl, below_set4 HB1.out (by omega) _ _ _ _⟩
  · have e1 : ¬ (200 : Int) < ((min (sizeT n D) 201 : Nat) : Int) := by omega
    have HSZ : Hid (sizeT n D ≤ 200) := by show _ ≤ _; omega
    clear hsz
    go_enter Tryz.func6, Tryz.ntmps6
    go_wp2_with fail
    refine HC1.out.mono ?_
    rintro e w1 ⟨rfl, hb1⟩
    have HB1 := hideP (below_next HB.out hb1)
    have HRS1 := hideP ((hb1.block _ (lt_of_block HRS.out)).trans HRS.out)
    have HBX1 := hideP ((hb1.block _ (lt_of_block HBX.out)).trans HBX.out)
    have HC2 := hideP (height_c true n _ D _ (ty_below HT.out HB1.out) (by have := HSZ.out; omega))
    obtain ⟨⟨x0, x1, x2, x3⟩, _, hltx⟩ := res_facts HBX1.out
    clear hb1
    go_wp2_with fail
    refine HC2.out.mono ?_
    rintro e w2 ⟨⟨r, rfl, hr1, hr17, hru⟩, hb2⟩
    have hr : (16 : Int) < (r : Int) := by have := hru (by trivial); have := HH.out; omega
    have HB2 := hideP (below_next HB1.out hb2)
    have HRS2 := hideP ((hb2.block _ (lt_of_block HRS1.out)).trans HRS1.out)
    clear hb2 hru x0 x1 x2 x3 hltx
    obtain ⟨⟨z0, z1, z2, z3⟩, ⟨f0, f1, f2, f3⟩, hlt1⟩ := res_facts HRS2.out
    go_wp2_with fail
    exact bodyPost_ret (results_cell_tmp rfl _ rfl (set4 HRS2.out _ _ _ _) Tryz.underlying25 ty_size) rfl ⟨rfl, below_set4 HB2.out (by omega) _ _ _ _⟩

set_option maxHeartbeats 4000000 in
set_option maxRecDepth 100000 in
theorem sh_high (n : Nat) (v : Value) (D : Ty) (w : World) (h : TyAt w true n v D) (hh : 16 < heightT n D) :
    Calls Tryz.prog 8 #[v] w fun e w' => e = .returned (.string ⟨#[]⟩) ∧ Below w.heap.size w w' := by
  obtain ⟨k, nm, na, nl, nc, ka, kl, kc, rfl, _⟩ := ty_form h
  have hb := bl_alloc w (tyO k nm na nl nc ka kl kc)
  have HB := hideP hb
  have HC1 := hideP (nm_high n _ D _ (ty_below h hb) hh)
  clear h hh hb
  go_enter Tryz.func8, Tryz.ntmps8
  go_wp2_with fail
  refine HC1.out.mono ?_
  rintro e w1 ⟨rfl, hb1⟩
  have HB1 := hideP (below_next HB.out hb1)
  clear hb1
  go_wp2_with fail
  go_ret
  exact ⟨rfl, HB1.out.alloc HB1.out.size _⟩

theorem join_le (sep : List UInt8) : ∀ (L : List (List UInt8)), (joinV sep L).length ≤ (L.map fun l => l.length + sep.length).sum
  | [] => Nat.zero_le _
  | [s] => by simp [joinV]
  | s :: t :: r => by
    have ih := join_le sep (t :: r)
    show (s ++ sep ++ joinV sep (t :: r)).length ≤ _
    rw [List.map_cons, List.sum_cons, List.length_append, List.length_append]
    omega

theorem name_len {s : List UInt8} (h : nameV s = true) : s.length ≤ 32 := by
  by_cases h0 : s = []
  · subst h0; simp
  · have h1 : 0 < (⟨s.toArray⟩ : ByteArray).size := by
      show 0 < s.toArray.size
      simp
      exact List.length_pos_iff.2 h0
    have h2 := nameV_cons h1
    have h3 : (⟨s.toArray⟩ : ByteArray).data.toList = s := by simp
    rw [h3, h] at h2
    simp at h2
    have h4 : (⟨s.toArray⟩ : ByteArray).size = s.length := by show s.toArray.size = _; simp
    omega

theorem sum_zip_le {g : List UInt8 → Ty → Nat} {f : Ty → Nat} (c : Nat) : ∀ (ns : List (List UInt8)) (ks : List Ty), (∀ s ∈ ns, ∀ x ∈ ks, g s x ≤ f x + c) → (List.zipWith g ns ks).sum ≤ (ks.map f).sum + c * ks.length
  | [], _, _ => by simp
  | _ :: _, [], _ => by simp
  | s :: ns, x :: ks, h => by
    have h1 := h s (by simp) x (by simp)
    have h2 := sum_zip_le c ns ks fun s' hs x' hx => h s' (by simp [hs]) x' (by simp [hx])
    rw [List.zipWith_cons_cons, List.sum_cons, List.map_cons, List.sum_cons, List.length_cons, Nat.mul_add]
    omega

theorem show_len {n : Nat} {b : Bool} {D : Ty} (h : NormT n D) : (showT n b D).length ≤ 700 * sizeT n D := by
  induction n generalizing b D with
  | zero => exact h.elim
  | succ n ih =>
    rcases h with ⟨k, h0, h4, rfl⟩ | ⟨ns, ks, rfl, h2, h3, h4, h5, h6⟩ | ⟨x, y, rfl, h2, h3⟩ | ⟨ks, rfl, h2, h3, h4⟩
    · rw [show_base h4, sizeT, kids_mk]
      have : (baseV k).length ≤ 4 := by
        unfold baseV
        repeat' split
        all_goals simp
      simp
      omega
    · rw [show_rec, sizeT, kids_mk]
      have h7 := join_le [44, 32] (List.zipWith (fun s x => s ++ 58 :: 32 :: showT n false x) ns ks)
      have h8 : (List.zipWith (fun s x => (s ++ 58 :: 32 :: showT n false x).length + 2) ns ks).sum ≤ (ks.map fun x => 700 * sizeT n x).sum + 40 * ks.length := sum_zip_le 40 ns ks fun s hs x hx => by
        have a1 := name_len (h4 s hs)
        have a2 := ih (b := false) (h6 x hx)
        simp
        omega
      have h9 : (List.zipWith (fun s x => s ++ 58 :: 32 :: showT n false x) ns ks).map (fun l => l.length + ([44, 32] : List UInt8).length) = List.zipWith (fun s x => (s ++ 58 :: 32 :: showT n false x).length + 2) ns ks := by
        rw [List.map_zipWith]
        rfl
      rw [h9] at h7
      have h10 : (ks.map fun x => 700 * sizeT n x).sum = 700 * (ks.map (sizeT n)).sum := by
        clear h2 h3 h4 h5 h6 h7 h8 h9
        induction ks with
        | nil => rfl
        | cons x ks ih2 => rw [List.map_cons, List.sum_cons, List.map_cons, List.sum_cons, ih2]; omega
      simp only [List.length_cons, List.length_append, List.length_nil]
      omega
    · have a1 := ih (b := true) h2
      have a2 := ih (b := false) h3
      rw [show_fun, sizeT, kids_mk]
      split <;> simp <;> omega
    · rw [show_union, sizeT, kids_mk]
      have h7 := join_le [32, 124, 32] (ks.map (showT n true))
      have h11 : ks.length ≤ 6 := by
        have hp2 : (ks.map kindT).Pairwise (· < ·) := by rw [List.pairwise_map]; exact h4
        have hnd : (ks.map kindT).Nodup := hp2.imp fun h e => by omega
        have hsub : (ks.map kindT) ⊆ [1, 2, 3, 4, 5, 6] := fun z hz => by
          obtain ⟨x, hx1, rfl⟩ := List.mem_map.1 hz
          have := (h3 x hx1).2
          have : kindT x = 1 ∨ kindT x = 2 ∨ kindT x = 3 ∨ kindT x = 4 ∨ kindT x = 5 ∨ kindT x = 6 := by omega
          simp
          exact this
        have := List.Nodup.length_le_of_subset hnd hsub
        simpa using this
      have h8 : ((ks.map (showT n true)).map fun l => l.length + ([32, 124, 32] : List UInt8).length).sum ≤ 700 * (ks.map (sizeT n)).sum + 3 * ks.length := by
        have h12 : ∀ x ∈ ks, (showT n true x).length ≤ 700 * sizeT n x := fun x hx => ih (b := true) (h3 x hx).1
        clear h2 h3 h4 h7 h11
        induction ks with
        | nil => simp
        | cons x ks ih2 =>
          have a1 := h12 x (by simp)
          have a2 := ih2 fun y hy => h12 y (by simp [hy])
          simp only [List.map_cons, List.sum_cons, List.length_cons, List.length_nil] at a2 ⊢
          omega
      omega
end Go.Proofs.YtmpcjcjacpjilabGreatDoor

/- graduslaw04.TreeNormal: the walk. -/
namespace Go.Proofs.YtmpcjcjacpjilabGreatDoor
open Go.RowKit

/-- All that the law asks of memory. -/
structure Tabs (w : World) : Prop where
  bs : Base w
  fm : Forms w
  pt : PlainT w
  pl : Plain w

theorem Tabs.below {w w' : World} (h : Tabs w) (hb : Below w.heap.size w w') : Tabs w' := ⟨h.bs.below hb, h.fm.below hb, h.pt.below hb, h.pl.below hb⟩

set_option maxHeartbeats 8000000 in
set_option maxRecDepth 100000 in
theorem treeNormal_walk (N : Nat) (D : Ty) (k : Int) (nm : ByteArray) (na : Option Addr) (nl nc : Nat) (ka : Option Addr) (kl kc : Nat) (w : World) (hw : Tabs w)
    (h : TyAt w false N (.agg #[.int .i64 k, .string nm, .slice na nl nc, .slice ka kl kc]) D) :
    Calls Tryz.prog 3 #[.agg #[.int .i64 k, .string nm, .slice na nl nc, .slice ka kl kc]] w fun e w' => e = .returned (.bool true) ∧ Below w.heap.size w w' := by
  have HT := hideP h
  obtain ⟨N, rfl⟩ : ∃ m, N = m + 1 := by
    cases N with
    | zero => exact h.elim
    | succ m => exact ⟨m, rfl⟩
  have hb0 := bl_alloc w (tyO k nm na nl nc ka kl kc)
  have HBX : Hid ((w.alloc (tyO k nm na nl nc ka kl kc)).heap[w.heap.size]? = some (tyO k nm na nl nc ka kl kc)) := heap_alloc_last w _
  have HC1 := hideP (awake4_c _ (hw.below hb0).bs (hw.below hb0).fm (hw.below hb0).pt)
  have HB0 := hideP hb0
  have HW := hideP hw
  clear h hw hb0
  go_enter Tryz.func3, Tryz.ntmps3
  go_wp2_with fail
  refine HC1.out.mono ?_
  rintro e w1 ⟨rfl, hb1⟩
  have HB1 := hideP (below_next HB0.out hb1)
  have HBX1 := hideP ((hb1.block _ (lt_of_block HBX.out)).trans HBX.out)
  obtain ⟨⟨x0, x1, x2, x3⟩, _, hltx⟩ := res_facts HBX1.out
  have HC2 := hideP (heavy_c (N + 1) _ D _ 300 (ty_below HT.out HB1.out) (by decide) (by decide))
  clear hb1
  go_wp2_with fail
  refine HC2.out.mono ?_
  rintro e w2 ⟨⟨r, rfl, hr0, hr1, hr2⟩, hb2⟩
  have HB2 := hideP (below_next HB1.out hb2)
  have HBX2 := hideP ((hb2.block _ (lt_of_block HBX1.out)).trans HBX1.out)
  clear x0 x1 x2 x3 hltx hb2 hr2
  obtain ⟨⟨x0, x1, x2, x3⟩, _, hltx⟩ := res_facts HBX2.out
  by_cases hr : r = 0
  · subst hr
    go_wp2_with fail
    go_ret
    exact ⟨rfl, HB2.out⟩
  have hre : (r == 0) = false := by rw [beq_eq_false_iff_ne]; exact hr
  have HC3 := hideP (nm_c false (N + 1) _ D w2 (ty_below HT.out HB2.out) (HW.out.below HB2.out).bs.ww)
  clear hr
  go_wp2_with fail
  refine HC3.out.mono ?_
  rintro e w3 ⟨hb3, hways⟩
  have HB3 := hideP (below_next HB2.out hb3)
  rcases hways with ⟨rfl, _⟩ | ⟨E, g1, g2, g3, g4, g5, g6, g7, g8, hn, hs, rfl, hF, hk⟩
  · clear hb3
    go_wp2_with fail
    go_ret
    exact ⟨rfl, HB3.out.alloc HB3.out.size _⟩
  have hse : sizeT (N + 1) E ≤ 200 := Nat.le_trans (norm_size hn) hs
  have hne := norm_normal hn
  have hag := norm_again hn
  have hlen : (showT (N + 1) false E).length ≤ 1000000 := by
    have := show_len (b := false) hne
    omega
  obtain ⟨W, hW⟩ : ∃ W, W = w3.alloc (tyO g1 g2 g3 g4 g5 g6 g7 g8) := ⟨_, rfl⟩
  have hb4 : Below w3.heap.size w3 W := by rw [hW]; exact bl_alloc _ _
  have hnx : W.heap[w3.heap.size]? = some (tyO g1 g2 g3 g4 g5 g6 g7 g8) := by rw [hW]; exact heap_alloc_last _ _
  have hbW := below_next HB3.out hb4
  have hFW := tyF_below hF hb4
  obtain ⟨t, ht⟩ : ∃ t, t = if heightT (N + 1) E ≤ 16 then showT (N + 1) false E else [] := ⟨_, rfl⟩
  have HCT : Hid (∀ wx, Below W.heap.size W wx → Calls Tryz.prog 7 #[.agg #[.int .i64 g1, .string g2, .slice g3 g4 g5, .slice g6 g7 g8]] wx fun e w' => e = .returned (.string ⟨t.toArray⟩) ∧ Below W.heap.size W w') := fun wx hwx => by
    have hx := (HW.out.below hbW).below hwx
    refine (trType_c N _ E wx (tyF_at (tyF_below hFW hwx)) (by omega) hne hx.bs.ww hx.fm hx.pt hlen).mono fun e w' ⟨⟨s, e1, e2⟩, e3⟩ => ⟨?_, below_next hwx e3⟩
    rw [e1, str_of (e2.trans ht.symm)]
  have HCS : Hid (∀ wx, Below W.heap.size W wx → Calls Tryz.prog 8 #[.agg #[.int .i64 g1, .string g2, .slice g3 g4 g5, .slice g6 g7 g8]] wx fun e w' => e = .returned (.string ⟨t.toArray⟩) ∧ Below W.heap.size W w') := fun wx hwx => by
    have hx := (HW.out.below hbW).below hwx
    by_cases h16 : heightT (N + 1) E ≤ 16
    · rw [if_pos h16] at ht
      refine (sh_c (N + 1) _ E wx (tyF_at (tyF_below hFW hwx)) hx.bs.ww hx.pl hlen).mono fun e w' ⟨e3, s, e1, e2, _⟩ => ⟨?_, below_next hwx e3⟩
      rw [e1, str_of ((e2 ⟨hse, h16, hag⟩).trans ht.symm)]
    · rw [if_neg h16] at ht
      refine (sh_high (N + 1) _ E wx (tyF_at (tyF_below hFW hwx)) (by omega)).mono fun e w' ⟨e1, e3⟩ => ⟨?_, below_next hwx e3⟩
      rw [e1, ht]
  have HCELL : Hid (∀ wx, Below W.heap.size W wx → wx.cell? ⟨w3.heap.size, 0, none⟩ = some (.int .i64 g1) ∧ wx.cell? ⟨w3.heap.size, 1, none⟩ = some (.string g2) ∧ wx.cell? ⟨w3.heap.size, 2, none⟩ = some (.slice g3 g4 g5) ∧ wx.cell? ⟨w3.heap.size, 3, none⟩ = some (.slice g6 g7 g8)) := fun wx hwx =>
    (res_facts ((hwx.block _ (lt_of_block hnx)).trans hnx)).1
  have HBW := hideP hbW
  have HWW := hideP hW
  obtain ⟨S, hS⟩ : ∃ S : ByteArray, S = ⟨t.toArray⟩ := ⟨_, rfl⟩
  rw [← hS] at HCT HCS
  have eS : (S.toList == S.toList) = true := by simp
  have hS0 := HCELL.out W.drew (Below.refl _ _).drew
  clear hb3 hn hs hF hk hse hne hag hlen hb4 hnx hbW hFW ht hS
  subst hW
  go_wp2_with fail
  go_region_held (fun W => W.cell? ⟨w3.heap.size, 0, none⟩ = some (.int .i64 g1) ∧ W.cell? ⟨w3.heap.size, 1, none⟩ = some (.string g2) ∧ W.cell? ⟨w3.heap.size, 2, none⟩ = some (.slice g3 g4 g5) ∧ W.cell? ⟨w3.heap.size, 3, none⟩ = some (.slice g6 g7 g8)) (assumption) (first
    | (go_at_call 7; refine (HCT.out _ (by first | exact Below.refl _ _ | exact below_drewN (Below.refl _ _) _ | exact (Below.refl _ _).drew)).mono ?_; rintro e w5 ⟨rfl, hb5⟩; have t5 := HCELL.out _ hb5; have HB5 := hideP hb5; clear hb5)
    | (go_at_call 8; refine (HCS.out _ (by first | exact HB5.out | exact below_drewN HB5.out _ | exact HB5.out.drew)).mono ?_; rintro e w6 ⟨rfl, hb6⟩; have t6 := HCELL.out _ hb6; have HB6 := hideP hb6; clear hb6))
  all_goals go_wp2_with fail
  all_goals go_ret
  all_goals exact ⟨rfl, below_next HBW.out HB6.out⟩
end Go.Proofs.YtmpcjcjacpjilabGreatDoor

/- What the proof shares: the listed tables as a condition on memory, and what they give the walk. -/
namespace Go.Proofs.YtmpcjcjacpjilabGreatDoor
open Go.ChangeShapes Go.WideShapes Go.ChangeAt Go.RowKit
open Go.ChangeMaps (open_string shut_string)

theorem own : ownKnob Tryz.prog.godebug = none := by kernel_rfl

theorem laidOut : laidOutB Tryz.prog = true := by kernel_rfl

/-- The listed variables. -/
def laidL : List (String × DataW Unit) := Rows.treeNormalRow.laid

theorem door_met (os : Os) (args : Array Value) : laidMetH Tryz.prog laidL ((World.doorLaid Tryz.prog 150 os).forCall (fun _ _ => 0) ⟨#[], args, []⟩).memory :=
  laidMetH_of_parts3 (fuel := 8) (laidMet_of_run' 8 (by kernel_rfl) (by kernel_rfl)) (by kernel_rfl) (by kernel_rfl)

/-- The listed variables' names, as the row has them. -/
def wnm (i : Nat) : String := (laidL.map (·.1)).getD i (toString 0)
theorem words_glob : Tryz.prog.globalNamed (wnm 3) = some 6 := by kernel_rfl
theorem words_type : (Tryz.prog.globals[6]?).map (·.type) = some 124 := by kernel_rfl
theorem nforms_glob : Tryz.prog.globalNamed (wnm 4) = some 5 := by kernel_rfl
theorem nforms_type : (Tryz.prog.globals[5]?).map (·.type) = some 108 := by kernel_rfl
theorem tforms_glob : Tryz.prog.globalNamed (wnm 5) = some 4 := by kernel_rfl
theorem tforms_type : (Tryz.prog.globals[4]?).map (·.type) = some 85 := by kernel_rfl
theorem tplain_glob : Tryz.prog.globalNamed (wnm 6) = some 0 := by kernel_rfl
theorem tplain_type : (Tryz.prog.globals[0]?).map (·.type) = some 50 := by kernel_rfl
theorem tags_glob : Tryz.prog.globalNamed (wnm 7) = some 3 := by kernel_rfl
theorem tags_type : (Tryz.prog.globals[3]?).map (·.type) = some 59 := by kernel_rfl
theorem ops_glob : Tryz.prog.globalNamed (wnm 9) = some 8 := by kernel_rfl
theorem ops_type : (Tryz.prog.globals[8]?).map (·.type) = some 137 := by kernel_rfl
theorem plain_glob : Tryz.prog.globalNamed (wnm 10) = some 1 := by kernel_rfl
theorem plain_type : (Tryz.prog.globals[1]?).map (·.type) = some 50 := by kernel_rfl

def plainL : List (List UInt8) := [baseV 0, baseV 1, baseV 2, baseV 3, baseV 4]
def tagsL4 : List (List UInt8) := [[110, 117, 108, 108], [98, 111, 111, 108], [105, 110, 116], [115, 116, 114], [114, 101, 99, 111, 114, 100], [102, 117, 110, 99, 116, 105, 111, 110]]
theorem words_datum : (Rows.laid_gradus_lex_ownWords : DataW Unit) = .agg (wordsV.map fun t => .lit (.string t)) := by kernel_rfl
theorem plain_datum : (Rows.laid_gradus_types_plainNames : DataW Unit) = .agg (plainL.map fun t => .lit (.string t)) := by kernel_rfl
theorem tplain_datum : (Rows.laid_gradus_tree_plainNames : DataW Unit) = .agg (plainL.map fun t => .lit (.string t)) := by kernel_rfl
theorem tags_datum : (Rows.laid_gradus_tree_tagNames : DataW Unit) = .agg (tagsL4.map fun t => .lit (.string t)) := by kernel_rfl
theorem ops_datum : (Rows.laid_gradus_tree_ops : DataW Unit) = .agg (opsV.map fun t => .lit (.string t)) := by kernel_rfl
def frmD (q : Nat × Nat × Nat × Bool) : DataW Unit := .agg [.lit (.int .i64 q.1), .agg [.lit (.int .i64 q.2.1), .lit (.int .i64 q.2.2.1)], .lit (.bool q.2.2.2)]
def frmN (q : Nat × Nat × Nat × Nat × Nat × Nat × Bool) : DataW Unit := .agg [.lit (.int .i64 q.1), .lit (.int .i64 q.2.1), .agg [.lit (.int .i64 q.2.2.1), .lit (.int .i64 q.2.2.2.1)], .agg [.lit (.int .i64 q.2.2.2.2.1), .lit (.int .i64 q.2.2.2.2.2.1)], .lit (.bool q.2.2.2.2.2.2)]
theorem tforms_datum : (Rows.laid_gradus_tree_typeForms : DataW Unit) = .agg ((List.range 9).map fun k => frmD (formV k)) := by kernel_rfl
theorem nforms_datum : (Rows.laid_gradus_tree_nodeForms : DataW Unit) = .agg ((List.range 20).map fun k => frmN (formN k)) := by kernel_rfl

/-- An array of strings that reads as the table holds the table's strings, cell for cell. -/
theorem cells_of_strs {H : Type} {enc : TypeId × Value → H} {w : World} {base : Nat} {sp : Nat → Bool} {held : Bool} {fuel : Nat} {cs : List Value} {p : List MemPlace} {T K : Nat} {L : List (List UInt8)} (ht : Tryz.prog.underlying T = some (.array K 9)) (hct : Tryz.prog.cellsOf T = K) (hLK : L.length = K)
    (h : DataW.trod enc Tryz.prog w base sp held fuel T cs = some (.agg (L.map fun t => .lit (.string t)), p)) : cs = L.map fun t => Value.string ⟨t.toArray⟩ := by
  have hce : Tryz.prog.cellsOf 9 = 1 := by kernel_rfl
  cases fuel with
  | zero => simp [DataW.trod] at h
  | succ fuel =>
    simp only [DataW.trod, ht, hce, hct, Nat.mul_one] at h
    split at h
    · rename_i hl
      obtain ⟨xs, hm, hx⟩ := Option.map_eq_some_iff.1 h
      have hxs : xs.map (·.1) = L.map fun t => (DataW.lit (.string t) : DataW H) := by
        have := congrArg Prod.fst hx
        simpa using this
      have hxl : xs.length = K := by simpa using Lib.mapM_length hm
      apply List.ext_getElem?
      intro i
      by_cases hi : i < K
      · obtain ⟨b, hb, hf⟩ := Lib.mapM_at hm i i (by simp [hi])
        obtain ⟨s, hc, rfl, _⟩ := DataW.trod_string Tryz.underlying9 hf
        have h1 : cs[i]? = some (.string s) := by
          have := congrArg (·[0]?) hc
          simpa [List.getElem?_take, List.getElem?_drop] using this
        have h2 : (xs.map (·.1))[i]? = some (DataW.lit (.string s.data.toList) : DataW H) := by simp [hb]
        rw [hxs] at h2
        simp only [List.getElem?_map, Option.map_eq_some_iff, DataW.lit.injEq, Lit.string.injEq] at h2
        obtain ⟨t, ht', rfl⟩ := h2
        rw [h1, List.getElem?_map, ht']
        rfl
      · rw [List.getElem?_eq_none (by omega), List.getElem?_eq_none (by simp only [List.length_map]; omega)]
    · cases h


section
variable {enc : TypeId × Value → Unit} {w : World} {base : Nat} {sp : Nat → Bool} {held : Bool} {fuel : Nat} {cs : List Value} {p : List MemPlace}

theorem int_cells {n : Int} (h : DataW.trod enc Tryz.prog w base sp held fuel 3 cs = some (.lit (.int .i64 n), p)) : cs = [.int .i64 n] := by
  obtain ⟨m, rfl, e, _⟩ := DataW.trod_int Tryz.underlying3 h
  simp at e
  rw [e.1]
theorem bool_cells {b : Bool} (h : DataW.trod enc Tryz.prog w base sp held fuel 4 cs = some (.lit (.bool b), p)) : cs = [.bool b] := by
  obtain ⟨m, rfl, e⟩ := DataW.trod_bool Tryz.underlying4 h
  simp at e
  rw [e.1]

theorem some_of {α : Type} {xs : List (DataW Unit × α)} {ds : List (DataW Unit)} {i : Nat} {d : DataW Unit} (h : xs.map (·.1) = ds) (hd : ds[i]? = some d) : ∃ q, xs[i]? = some (d, q) := by
  rw [← h, List.getElem?_map] at hd
  obtain ⟨⟨x, q⟩, e, rfl⟩ := Option.map_eq_some_iff.1 hd
  exact ⟨q, e⟩

theorem two_of {cs : List Value} {a b : Value} (hl : cs.length = 2) (h0 : (cs.drop 0).take 1 = [a]) (h1 : (cs.drop 1).take 1 = [b]) : cs = [a, b] := by
  match cs, hl with
  | [x0, x1], _ =>
    simp at h0 h1
    rw [h0, h1]
theorem four_of {cs : List Value} {a b c d : Value} (hl : cs.length = 4) (h0 : (cs.drop 0).take 1 = [a]) (h1 : (cs.drop 1).take 2 = [b, c]) (h2 : (cs.drop 3).take 1 = [d]) : cs = [a, b, c, d] := by
  match cs, hl with
  | [x0, x1, x2, x3], _ =>
    simp at h0 h1 h2
    rw [h0, h1.1, h1.2, h2]
theorem seven_of {cs : List Value} {a b c d e f g : Value} (hl : cs.length = 7) (h0 : (cs.drop 0).take 1 = [a]) (h1 : (cs.drop 1).take 1 = [b]) (h2 : (cs.drop 2).take 2 = [c, d]) (h3 : (cs.drop 4).take 2 = [e, f]) (h4 : (cs.drop 6).take 1 = [g]) : cs = [a, b, c, d, e, f, g] := by
  match cs, hl with
  | [x0, x1, x2, x3, x4, x5, x6], _ =>
    simp at h0 h1 h2 h3 h4
    rw [h0, h1, h2.1, h2.2, h3.1, h3.2, h4]

theorem span_cells {l m : Int} (h : DataW.trod enc Tryz.prog w base sp held fuel 82 cs = some (.agg [.lit (.int .i64 l), .lit (.int .i64 m)], p)) : cs = [.int .i64 l, .int .i64 m] := by
  obtain ⟨xs, n, _, e, hl, _, hf⟩ := DataW.trod_struct Tryz.underlying82 h
  have hl2 : cs.length = 2 := hl.trans (by kernel_rfl)
  simp only [Prod.mk.injEq, DataW.agg.injEq] at e
  obtain ⟨q0, e0⟩ := some_of e.1.symm (i := 0) rfl
  obtain ⟨q1, e1⟩ := some_of e.1.symm (i := 1) rfl
  have f0 : (cs.drop 0).take (Tryz.prog.cellsOf 3) = [.int .i64 l] := int_cells ((hf 0 _ rfl).trans e0)
  have f1 : (cs.drop 1).take (Tryz.prog.cellsOf 3) = [.int .i64 m] := int_cells ((hf 1 _ rfl).trans e1)
  have hc : Tryz.prog.cellsOf 3 = 1 := by kernel_rfl
  rw [hc] at f0 f1
  exact two_of hl2 f0 f1

theorem tform_cells {q : Nat × Nat × Nat × Bool} (h : DataW.trod enc Tryz.prog w base sp held fuel 84 cs = some (frmD q, p)) : cs = [.int .i64 q.1, .int .i64 q.2.1, .int .i64 q.2.2.1, .bool q.2.2.2] := by
  unfold frmD at h
  obtain ⟨xs, n, _, e, hl, _, hf⟩ := DataW.trod_struct Tryz.underlying84 h
  have hl2 : cs.length = 4 := hl.trans (by kernel_rfl)
  simp only [Prod.mk.injEq, DataW.agg.injEq] at e
  obtain ⟨q0, e0⟩ := some_of e.1.symm (i := 0) rfl
  obtain ⟨q1, e1⟩ := some_of e.1.symm (i := 1) rfl
  obtain ⟨q2, e2⟩ := some_of e.1.symm (i := 2) rfl
  have f0 : (cs.drop 0).take (Tryz.prog.cellsOf 3) = [.int .i64 q.1] := int_cells ((hf 0 _ rfl).trans e0)
  have f1 : (cs.drop 1).take (Tryz.prog.cellsOf 82) = [.int .i64 q.2.1, .int .i64 q.2.2.1] := span_cells ((hf 1 _ rfl).trans e1)
  have f2 : (cs.drop 3).take (Tryz.prog.cellsOf 4) = [.bool q.2.2.2] := bool_cells ((hf 2 _ rfl).trans e2)
  have hc : Tryz.prog.cellsOf 3 = 1 := by kernel_rfl
  have hc2 : Tryz.prog.cellsOf 82 = 2 := by kernel_rfl
  have hc3 : Tryz.prog.cellsOf 4 = 1 := by kernel_rfl
  rw [hc] at f0
  rw [hc2] at f1
  rw [hc3] at f2
  exact four_of hl2 f0 f1 f2

theorem nform_cells {q : Nat × Nat × Nat × Nat × Nat × Nat × Bool} (h : DataW.trod enc Tryz.prog w base sp held fuel 107 cs = some (frmN q, p)) : cs = [.int .i64 q.1, .int .i64 q.2.1, .int .i64 q.2.2.1, .int .i64 q.2.2.2.1, .int .i64 q.2.2.2.2.1, .int .i64 q.2.2.2.2.2.1, .bool q.2.2.2.2.2.2] := by
  unfold frmN at h
  obtain ⟨xs, n, _, e, hl, _, hf⟩ := DataW.trod_struct Tryz.underlying107 h
  have hl2 : cs.length = 7 := hl.trans (by kernel_rfl)
  simp only [Prod.mk.injEq, DataW.agg.injEq] at e
  obtain ⟨q0, e0⟩ := some_of e.1.symm (i := 0) rfl
  obtain ⟨q1, e1⟩ := some_of e.1.symm (i := 1) rfl
  obtain ⟨q2, e2⟩ := some_of e.1.symm (i := 2) rfl
  obtain ⟨q3, e3⟩ := some_of e.1.symm (i := 3) rfl
  obtain ⟨q4, e4⟩ := some_of e.1.symm (i := 4) rfl
  have f0 : (cs.drop 0).take (Tryz.prog.cellsOf 3) = [.int .i64 q.1] := int_cells ((hf 0 _ rfl).trans e0)
  have f1 : (cs.drop 1).take (Tryz.prog.cellsOf 3) = [.int .i64 q.2.1] := int_cells ((hf 1 _ rfl).trans e1)
  have f2 : (cs.drop 2).take (Tryz.prog.cellsOf 82) = [.int .i64 q.2.2.1, .int .i64 q.2.2.2.1] := span_cells ((hf 2 _ rfl).trans e2)
  have f3 : (cs.drop 4).take (Tryz.prog.cellsOf 82) = [.int .i64 q.2.2.2.2.1, .int .i64 q.2.2.2.2.2.1] := span_cells ((hf 3 _ rfl).trans e3)
  have f4 : (cs.drop 6).take (Tryz.prog.cellsOf 4) = [.bool q.2.2.2.2.2.2] := bool_cells ((hf 4 _ rfl).trans e4)
  have hc : Tryz.prog.cellsOf 3 = 1 := by kernel_rfl
  have hc2 : Tryz.prog.cellsOf 82 = 2 := by kernel_rfl
  have hc3 : Tryz.prog.cellsOf 4 = 1 := by kernel_rfl
  rw [hc] at f0 f1
  rw [hc2] at f2 f3
  rw [hc3] at f4
  exact seven_of hl2 f0 f1 f2 f3 f4
end

theorem drop_get {cs L : List Value} {i m r : Nat} (h : (cs.drop (i * m)).take m = L) (hr : r < m) : cs[i * m + r]? = L[r]? := by
  rw [← h, List.getElem?_take, if_pos hr, List.getElem?_drop]

theorem laidL_is : laidL = [(wnm 0, Rows.laid_math_bits_deBruijn32tab), (wnm 1, Rows.laid_math_bits_deBruijn64tab), (wnm 2, Rows.laid_internal_strconv_uint64pow10), (wnm 3, .agg (wordsV.map fun t => .lit (.string t))), (wnm 4, .agg ((List.range 20).map fun k => frmN (formN k))), (wnm 5, .agg ((List.range 9).map fun k => frmD (formV k))), (wnm 6, .agg (plainL.map fun t => .lit (.string t))), (wnm 7, .agg (tagsL4.map fun t => .lit (.string t))), (wnm 8, Rows.laid_gradus_tree_boolNames), (wnm 9, .agg (opsV.map fun t => .lit (.string t))), (wnm 10, .agg (plainL.map fun t => .lit (.string t)))] := by
  rw [← words_datum, ← tags_datum, ← ops_datum, ← tforms_datum, ← nforms_datum]
  kernel_rfl

set_option maxHeartbeats 2000000 in
theorem tab_of_laid {W : World} (h : laidMetH Tryz.prog laidL W) : Tabs W := by
  rw [MakeChecks.laidMetH_plain _ _ _ (by kernel_rfl)] at h
  rw [laidL_is] at h
  obtain ⟨ps, ⟨g0, t0, cs0, f0, p0, q0, hg0, ht0, hv0, hd0, ⟨g1, t1, cs1, f1, p1, q1, hg1, ht1, hv1, hd1, ⟨g2, t2, cs2, f2, p2, q2, hg2, ht2, hv2, hd2, ⟨g3, t3, cs3, f3, p3, q3, hg3, ht3, hv3, hd3, ⟨g4, t4, cs4, f4, p4, q4, hg4, ht4, hv4, hd4, ⟨g5, t5, cs5, f5, p5, q5, hg5, ht5, hv5, hd5, ⟨g6, t6, cs6, f6, p6, q6, hg6, ht6, hv6, hd6, ⟨g7, t7, cs7, f7, p7, q7, hg7, ht7, hv7, hd7, ⟨g8, t8, cs8, f8, p8, q8, hg8, ht8, hv8, hd8, ⟨g9, t9, cs9, f9, p9, q9, hg9, ht9, hv9, hd9, ⟨g10, t10, cs10, f10, p10, q10, hg10, ht10, hv10, hd10, _, _⟩, _⟩, _⟩, _⟩, _⟩, _⟩, _⟩, _⟩, _⟩, _⟩, _⟩, _⟩ := h
  obtain rfl := Option.some.inj (words_glob.symm.trans hg3)
  obtain rfl := Option.some.inj (words_type.symm.trans ht3)
  obtain rfl := Option.some.inj (nforms_glob.symm.trans hg4)
  obtain rfl := Option.some.inj (nforms_type.symm.trans ht4)
  obtain rfl := Option.some.inj (tforms_glob.symm.trans hg5)
  obtain rfl := Option.some.inj (tforms_type.symm.trans ht5)
  obtain rfl := Option.some.inj (tplain_glob.symm.trans hg6)
  obtain rfl := Option.some.inj (tplain_type.symm.trans ht6)
  obtain rfl := Option.some.inj (tags_glob.symm.trans hg7)
  obtain rfl := Option.some.inj (tags_type.symm.trans ht7)
  obtain rfl := Option.some.inj (ops_glob.symm.trans hg9)
  obtain rfl := Option.some.inj (ops_type.symm.trans ht9)
  obtain rfl := Option.some.inj (plain_glob.symm.trans hg10)
  obtain rfl := Option.some.inj (plain_type.symm.trans ht10)
  have c3 : cs3 = (wordsV.map fun t => Value.string ⟨t.toArray⟩).toArray := by rw [← cells_of_strs Tryz.underlying124 (by kernel_rfl) (by kernel_rfl) hd3]
  have c6 : cs6 = (plainL.map fun t => Value.string ⟨t.toArray⟩).toArray := by rw [← cells_of_strs Tryz.underlying50 (by kernel_rfl) (by kernel_rfl) hd6]
  have c7 : cs7 = (tagsL4.map fun t => Value.string ⟨t.toArray⟩).toArray := by rw [← cells_of_strs Tryz.underlying59 (by kernel_rfl) (by kernel_rfl) hd7]
  have c9 : cs9 = (opsV.map fun t => Value.string ⟨t.toArray⟩).toArray := by rw [← cells_of_strs Tryz.underlying137 (by kernel_rfl) (by kernel_rfl) hd9]
  have c10 : cs10 = (plainL.map fun t => Value.string ⟨t.toArray⟩).toArray := by rw [← cells_of_strs Tryz.underlying50 (by kernel_rfl) (by kernel_rfl) hd10]
  subst c3 c6 c7 c9 c10
  refine ⟨⟨fun k hk => ?_, fun i hi => ?_, fun i hi => ?_, ?_⟩, fun k hk => ?_, fun i hi => ?_, fun i hi => ?_⟩
  · obtain ⟨xs, n, _, e, hl, _, hf⟩ := DataW.trod_array Tryz.underlying108 hd4
    simp only [Prod.mk.injEq, DataW.agg.injEq] at e
    obtain ⟨q, eq⟩ := some_of e.1.symm (i := k) (d := frmN (formN k)) (by simp [hk])
    have hc := nform_cells ((hf k hk).trans eq)
    have h7 : Tryz.prog.cellsOf 107 = 7 := by kernel_rfl
    rw [h7] at hc
    have hx : ∀ r, r < 7 → W.cell? ⟨5, k * 7 + r, none⟩ = [Value.int .i64 (formN k).1, .int .i64 (formN k).2.1, .int .i64 (formN k).2.2.1, .int .i64 (formN k).2.2.2.1, .int .i64 (formN k).2.2.2.2.1, .int .i64 (formN k).2.2.2.2.2.1, .bool (formN k).2.2.2.2.2.2][r]? := fun r hr => by
      rw [World.var?_cell nforms_glob hv4 (k * 7 + r), ← Array.getElem?_toList]
      exact drop_get hc hr
    exact ⟨hx 0 (by omega), hx 1 (by omega), hx 2 (by omega), hx 3 (by omega), hx 4 (by omega), hx 5 (by omega), hx 6 (by omega)⟩
  · rw [World.var?_cell words_glob hv3 i]
    simp only [List.getElem?_toArray, List.getElem?_map]
    rw [List.getElem?_eq_getElem (show i < wordsV.length from hi)]
    unfold wordB
    rw [List.getD_eq_getElem?_getD, List.getElem?_eq_getElem (show i < wordsV.length from hi)]
    rfl
  · rw [World.var?_cell ops_glob hv9 i]
    simp only [List.getElem?_toArray, List.getElem?_map]
    rw [List.getElem?_eq_getElem (show i < opsV.length from hi)]
    unfold opB
    rw [List.getD_eq_getElem?_getD, List.getElem?_eq_getElem (show i < opsV.length from hi)]
    rfl
  · exact World.var?_cell tags_glob hv7 2
  · obtain ⟨xs, n, _, e, hl, _, hf⟩ := DataW.trod_array Tryz.underlying85 hd5
    simp only [Prod.mk.injEq, DataW.agg.injEq] at e
    obtain ⟨q, eq⟩ := some_of e.1.symm (i := k) (d := frmD (formV k)) (by simp [hk])
    have hc := tform_cells ((hf k hk).trans eq)
    have h4 : Tryz.prog.cellsOf 84 = 4 := by kernel_rfl
    rw [h4] at hc
    have hx : ∀ r, r < 4 → W.cell? ⟨4, k * 4 + r, none⟩ = [Value.int .i64 (formV k).1, .int .i64 (formV k).2.1, .int .i64 (formV k).2.2.1, .bool (formV k).2.2.2][r]? := fun r hr => by
      rw [World.var?_cell tforms_glob hv5 (k * 4 + r), ← Array.getElem?_toList]
      exact drop_get hc hr
    exact ⟨hx 0 (by omega), hx 1 (by omega), hx 2 (by omega), hx 3 (by omega)⟩
  · rw [World.var?_cell tplain_glob hv6 i]
    have h5 : i = 0 ∨ i = 1 ∨ i = 2 ∨ i = 3 ∨ i = 4 := by omega
    rcases h5 with rfl | rfl | rfl | rfl | rfl <;> rfl
  · rw [World.var?_cell plain_glob hv10 i]
    have h5 : i = 0 ∨ i = 1 ∨ i = 2 ∨ i = 3 ∨ i = 4 := by omega
    rcases h5 with rfl | rfl | rfl | rfl | rfl <;> rfl

theorem string_reach {s : ByteArray} (h : s.data.toList.length ≤ reachBytes) : s.size ≤ 140737488351232 := by
  rw [byteArray_len] at h
  exact h
end Go.Proofs.YtmpcjcjacpjilabGreatDoor
