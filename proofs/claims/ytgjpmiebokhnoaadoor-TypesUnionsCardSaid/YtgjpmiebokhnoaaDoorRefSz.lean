/- gradusref03.Size and Height by contracts. -/
import Derived.Test.YtgjpmiebokhnoaaDoorTySz
import Derived.Test.YtgjpmiebokhnoaaDoorTyMore
namespace Go.Proofs.YtgjpmiebokhnoaaDoor
open Go.RowKit

set_option maxHeartbeats 1000000 in
theorem many_c (n : Nat) : ∀ (v : Value) (D : Ty) (w : World) (most : Nat), TyAt w false n v D → 1 ≤ most → most ≤ 201 →
    Calls Tryd.prog 28 #[v, .int .i64 most] w fun e w' => e = .returned (.int .i64 (min (sizeT n D) most : Nat)) ∧ Below w.heap.size w w' := by
  induction n with
  | zero => intro v D w most h; exact h.elim
  | succ n ih =>
    intro v D w most h h1 h2
    obtain ⟨k, nm, na, nc, ka, kc, ns, ks, rfl, rfl, _, _, _, ⟨_, hnl⟩, ⟨_, hkl⟩, _, hks⟩ := h
    have hkl' : ks.length ≤ 140737488351232 := hkl
    rw [sizeT, kids_mk]
    have HK := hideP hks
    clear hks hnl hkl
    go_enter Tryd.func28, Tryd.ntmps28
    go_wp2_with fail
    go_loopw [5, 6] (fun s i wr => ∃ (j m : Nat), s = .int .i64 m ∧ i = .int .i64 j ∧ j ≤ ks.length ∧ m ≤ most ∧ 1 ≤ m ∧ Hid (m = min (1 + ((ks.take j).map (sizeT n)).sum) most) ∧
      Hid (Below (w.heap.size + 1) (w.alloc (tyO k nm na ns.length nc ka ks.length kc)) wr)) (fun _ i _ => ks.length - (intOf i).toNat)
    case atStart => exact ⟨0, 1, rfl, rfl, Nat.zero_le _, h1, Nat.le_refl _, show _ = _ by simp; omega, Below.refl _ _⟩
    case round =>
      obtain ⟨j, m, rfl, rfl, hj, hm, hm1, hs, hb⟩ := hrel
      obtain ⟨_, _, _, b3⟩ := box_at hb.out (Nat.lt_succ_self _)
      by_cases hlt : j < ks.length
      · have hjl : (j : Int) < (ks.length : Int) := by omega
        by_cases he : m < most
        · have hne : (m : Int) < (most : Int) := by omega
          obtain ⟨b, o, k', nm', na', nl', nc', la', ll', lc', rfl, hbl, q0, q1, q2, q3, ht⟩ := kid_at HK.out hlt
          have hb0 : Below w.heap.size w wr := (bl_alloc _ _).trans (hb.out.mono (Nat.le_succ _))
          have r0 := (hb0.cell (p := ⟨b, o + j * 4, none⟩) hbl).trans q0
          have r1 := (hb0.cell (p := ⟨b, o + j * 4 + 1, none⟩) hbl).trans q1
          have r2 := (hb0.cell (p := ⟨b, o + j * 4 + 2, none⟩) hbl).trans q2
          have r3 := (hb0.cell (p := ⟨b, o + j * 4 + 3, none⟩) hbl).trans q3
          have HT := hideP (ty_below ht hb0)
          have hsz : w.heap.size + 1 ≤ wr.heap.size := by have := hb.out.size; simpa using this
          clear q0 q1 q2 q3 ht hb0
          go_wp2_with fail
          have hc := ih _ _ _ (most - m) HT.out (by omega) (by omega)
          rw [show ((most - m : Nat) : Int) = (most : Int) - (m : Int) by omega] at hc
          refine hc.mono ?_
          rintro e w' ⟨rfl, hb'⟩
          have HB := hideP hb'
          obtain ⟨x, hx⟩ : ∃ x : Nat, x = min (sizeT n ks[j]) (most - m) := ⟨_, rfl⟩
          rw [← hx]
          have HX := hideP hx
          have hxb : m + x ≤ most := by omega
          clear hb' hc hx
          go_wp2_with fail
          refine ⟨⟨j + 1, m + x, by go_num, by go_num, by omega, hxb, by omega, show _ = _ from ?_, hb.out.trans (HB.out.mono hsz)⟩, by simp [intOf]; omega⟩
          rw [sum_take _ _ _ hlt, HX.out]
          have := hs.out
          omega
        · have hne : ¬ (m : Int) < (most : Int) := by omega
          clear HK
          go_wp2_with fail
          go_ret
          refine ⟨ret_int ?_, (bl_alloc _ _).trans (hb.out.mono (Nat.le_succ _))⟩
          have := hs.out
          have h4 : ((ks.take j).map (sizeT n)).sum ≤ (ks.map (sizeT n)).sum := by
            have h5 := List.take_append_drop j ks
            conv => rhs; rw [← h5, List.map_append, List.sum_append]
            omega
          omega
      · have hjl : ¬ (j : Int) < (ks.length : Int) := by omega
        clear HK
        go_wp2_with fail
        go_ret
        refine ⟨ret_int ?_, (bl_alloc _ _).trans (hb.out.mono (Nat.le_succ _))⟩
        have e2 := hs.out
        rw [List.take_of_length_le (by omega)] at e2
        omega

theorem max_take {α : Type} (f : α → Nat) (l : List α) (j : Nat) (h : j < l.length) : maxL ((l.take (j + 1)).map f) = max (maxL ((l.take j).map f)) (f l[j]) := by
  have happ : ∀ (a : List Nat) (x : Nat), maxL (a ++ [x]) = max (maxL a) x := by
    intro a x
    induction a with
    | nil => simp [maxL]
    | cons y r ih => simp only [List.cons_append, maxL, ih]; omega
  rw [List.take_succ_eq_append_getElem h, List.map_append]
  exact happ _ _

set_option maxHeartbeats 1000000 in
theorem high_c (n : Nat) : ∀ (v : Value) (D : Ty) (w : World) (most : Nat), TyAt w false n v D → 1 ≤ most → most ≤ 17 →
    Calls Tryd.prog 30 #[v, .int .i64 most] w fun e w' => e = .returned (.int .i64 (min (heightT n D) most : Nat)) ∧ Below w.heap.size w w' := by
  induction n with
  | zero => intro v D w most h; exact h.elim
  | succ n ih =>
    intro v D w most h h1 h2
    obtain ⟨k, nm, na, nc, ka, kc, ns, ks, rfl, rfl, _, _, _, ⟨_, hnl⟩, ⟨_, hkl⟩, _, hks⟩ := h
    have hkl' : ks.length ≤ 140737488351232 := hkl
    rw [heightT, kids_mk]
    have HK := hideP hks
    clear hks hnl hkl
    by_cases hm : most = 1
    · subst hm
      clear HK
      go_enter Tryd.func30, Tryd.ntmps30
      go_wp2_with fail
      go_ret
      exact ⟨ret_int (by omega), bl_alloc _ _⟩
    · have hm1 : ¬ (most : Int) ≤ 1 := by omega
      go_enter Tryd.func30, Tryd.ntmps30
      go_wp2_with fail
      go_loopw [5, 6] (fun s i wr => ∃ (j m : Nat), s = .int .i64 m ∧ i = .int .i64 j ∧ j ≤ ks.length ∧ m ≤ most - 1 ∧ Hid (m = min (maxL ((ks.take j).map (heightT n))) (most - 1)) ∧
        Hid (Below (w.heap.size + 1) (w.alloc (tyO k nm na ns.length nc ka ks.length kc)) wr)) (fun _ i _ => ks.length - (intOf i).toNat)
      case atStart => exact ⟨0, 0, rfl, rfl, Nat.zero_le _, by omega, show _ = _ by simp [maxL], Below.refl _ _⟩
      case round =>
        obtain ⟨j, m, rfl, rfl, hj, hmm, hs, hb⟩ := hrel
        obtain ⟨_, _, _, b3⟩ := box_at hb.out (Nat.lt_succ_self _)
        by_cases hlt : j < ks.length
        · have hjl : (j : Int) < (ks.length : Int) := by omega
          obtain ⟨b, o, k', nm', na', nl', nc', la', ll', lc', rfl, hbl, q0, q1, q2, q3, ht⟩ := kid_at HK.out hlt
          have hb0 : Below w.heap.size w wr := (bl_alloc _ _).trans (hb.out.mono (Nat.le_succ _))
          have r0 := (hb0.cell (p := ⟨b, o + j * 4, none⟩) hbl).trans q0
          have r1 := (hb0.cell (p := ⟨b, o + j * 4 + 1, none⟩) hbl).trans q1
          have r2 := (hb0.cell (p := ⟨b, o + j * 4 + 2, none⟩) hbl).trans q2
          have r3 := (hb0.cell (p := ⟨b, o + j * 4 + 3, none⟩) hbl).trans q3
          have HT := hideP (ty_below ht hb0)
          have hsz : w.heap.size + 1 ≤ wr.heap.size := by have := hb.out.size; simpa using this
          clear q0 q1 q2 q3 ht hb0
          go_wp2_with fail
          have hc := ih _ _ _ (most - 1) HT.out (by omega) (by omega)
          rw [show ((most - 1 : Nat) : Int) = (most : Int) - 1 by omega] at hc
          refine hc.mono ?_
          rintro e w' ⟨rfl, hb'⟩
          have HB := hideP hb'
          obtain ⟨x, hx⟩ : ∃ x : Nat, x = min (heightT n ks[j]) (most - 1) := ⟨_, rfl⟩
          rw [← hx]
          have HX := hideP hx
          clear hb' hc
          by_cases hgt : m < x
          · have hgt' : (m : Int) < (x : Int) := by omega
            clear hx
            go_wp2_with fail
            refine ⟨⟨j + 1, x, by go_num, by go_num, by omega, by have := HX.out; omega, show _ = _ from ?_, hb.out.trans (HB.out.mono hsz)⟩, by simp [intOf]; omega⟩
            have e1 := HX.out
            have e2 := hs.out
            rw [max_take _ _ _ hlt]
            omega
          · have hgt' : ¬ (m : Int) < (x : Int) := by omega
            clear hx
            go_wp2_with fail
            refine ⟨⟨j + 1, m, by go_num, by go_num, by omega, by omega, show _ = _ from ?_, hb.out.trans (HB.out.mono hsz)⟩, by simp [intOf]; omega⟩
            have e1 := HX.out
            have e2 := hs.out
            rw [max_take _ _ _ hlt]
            omega
        · have hjl : ¬ (j : Int) < (ks.length : Int) := by omega
          clear HK
          go_wp2_with fail
          go_ret
          refine ⟨ret_int ?_, (bl_alloc _ _).trans (hb.out.mono (Nat.le_succ _))⟩
          have e2 := hs.out
          rw [List.take_of_length_le (by omega)] at e2
          omega

theorem rsize_c (n : Nat) (v : Value) (D : Ty) (w : World) (h : TyAt w false n v D) :
    Calls Tryd.prog 15 #[v] w fun e w' => e = .returned (.int .i64 (min (sizeT n D) 201 : Nat)) ∧ Below w.heap.size w w' := by
  have hh := h
  cases n with
  | zero => exact h.elim
  | succ n =>
    obtain ⟨k, nm, na, nc, ka, kc, ns, ks, rfl, rfl, _⟩ := hh
    have HT := hideP (ty_below h (bl_alloc w (tyO k nm na ns.length nc ka ks.length kc)))
    clear h
    go_enter Tryd.func15, Tryd.ntmps15
    go_wp2_with fail
    refine (many_c _ _ _ _ 201 HT.out (by omega) (by omega)).mono ?_
    rintro e w' ⟨rfl, hb'⟩
    have HB := hideP (below_next (bl_alloc w _) hb')
    clear hb'
    go_wp2_with fail
    go_ret
    exact ⟨rfl, HB.out⟩

theorem rheight_c (n : Nat) (v : Value) (D : Ty) (w : World) (h : TyAt w false n v D) :
    Calls Tryd.prog 17 #[v] w fun e w' => e = .returned (.int .i64 (min (heightT n D) 17 : Nat)) ∧ Below w.heap.size w w' := by
  have hh := h
  cases n with
  | zero => exact h.elim
  | succ n =>
    obtain ⟨k, nm, na, nc, ka, kc, ns, ks, rfl, rfl, _⟩ := hh
    have HT := hideP (ty_below h (bl_alloc w (tyO k nm na ns.length nc ka ks.length kc)))
    clear h
    go_enter Tryd.func17, Tryd.ntmps17
    go_wp2_with fail
    refine (high_c _ _ _ _ 17 HT.out (by omega) (by omega)).mono ?_
    rintro e w' ⟨rfl, hb'⟩
    have HB := hideP (below_next (bl_alloc w _) hb')
    clear hb'
    go_wp2_with fail
    go_ret
    exact ⟨rfl, HB.out⟩
end Go.Proofs.YtgjpmiebokhnoaaDoor
