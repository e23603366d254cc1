/- types.Size by a contract. -/
import Derived.Test.YtmpcjcjacpjilaaDoorTyC
namespace Go.Proofs.YtmpcjcjacpjilaaDoor
open Go.RowKit

set_option maxHeartbeats 1000000 in
theorem sizeUpTo_c (n : Nat) : ∀ (v : Value) (D : Ty) (w : World) (most : Nat), TyAt w false n v D → 1 ≤ most → most ≤ 201 →
    Calls Tryd.prog 41 #[v, .int .i64 most] w fun e w' => e = .returned (.int .i64 (min (sizeT n D) most : Nat)) ∧ Below w.heap.size w w' := by
  induction n with
  | zero => intro v D w most h; exact h.elim
  | succ n ih =>
    intro v D w most h h1 h2
    obtain ⟨k, nm, na, nc, ka, kc, ns, ks, rfl, rfl, _, _, _, ⟨_, hnl⟩, ⟨_, hkl⟩, _, hks⟩ := h
    have hkl' : ks.length ≤ 140737488351232 := hkl
    rw [sizeT, kids_mk]
    have HK := hideP hks
    clear hks hnl hkl
    go_enter Tryd.func41, Tryd.ntmps41
    go_wp2_with fail
    go_loopw [5, 11] (fun s i wr => ∃ (j m : Nat), s = .int .i64 m ∧ i = .int .i64 j ∧ j ≤ ks.length ∧ m ≤ most ∧ 1 ≤ m ∧ Hid (m = min (1 + ((ks.take j).map (sizeT n)).sum) most) ∧
      Hid (Below (w.heap.size + 1) (w.alloc (tyO k nm na ns.length nc ka ks.length kc)) wr)) (fun _ i _ => ks.length - (intOf i).toNat)
    case atStart => exact ⟨0, 1, rfl, rfl, Nat.zero_le _, h1, Nat.le_refl _, show _ = _ by simp; omega, Below.refl _ _⟩
    case round =>
      obtain ⟨j, m, rfl, rfl, hj, hm, hm1, hs, hb⟩ := hrel
      by_cases hlt : j < ks.length
      · have hjl : (j : Int) < (ks.length : Int) := by omega
        obtain ⟨b, o, k', nm', na', nl', nc', la', ll', lc', rfl, hbl, q0, q1, q2, q3, ht⟩ := kid_at HK.out hlt
        have hb0 : Below w.heap.size w wr := (bl_alloc _ _).trans (hb.out.mono (Nat.le_succ _))
        have r0 := (hb0.cell (p := ⟨b, o + j * 4, none⟩) hbl).trans q0
        have r1 := (hb0.cell (p := ⟨b, o + j * 4 + 1, none⟩) hbl).trans q1
        have r2 := (hb0.cell (p := ⟨b, o + j * 4 + 2, none⟩) hbl).trans q2
        have r3 := (hb0.cell (p := ⟨b, o + j * 4 + 3, none⟩) hbl).trans q3
        have HT := hideP (ty_below (ty_below ht hb0) (bl_alloc wr (tyO k' nm' na' nl' nc' la' ll' lc')))
        have hsz : w.heap.size + 1 ≤ wr.heap.size := by have := hb.out.size; simpa using this
        clear q0 q1 q2 q3 ht hb0
        by_cases he : m = most
        · subst he
          go_wp2_with fail
          go_ret
          refine ⟨ret_int ?_, ((bl_alloc _ _).trans (hb.out.mono (Nat.le_succ _))).alloc (by omega) _⟩
          have := hs.out
          have h3 := sum_take (sizeT n) ks j hlt
          have h4 : ((ks.take (j + 1)).map (sizeT n)).sum ≤ (ks.map (sizeT n)).sum := by
            have h5 := List.take_append_drop (j + 1) ks
            conv => rhs; rw [← h5, List.map_append, List.sum_append]
            omega
          omega
        · have hne : ((m : Int) == (most : Int)) = false := by rw [beq_eq_false_iff_ne]; omega
          go_wp2_with fail
          have hc := ih _ _ _ (most - m) HT.out (by omega) (by omega)
          rw [show ((most - m : Nat) : Int) = (most : Int) - (m : Int) by omega] at hc
          refine hc.mono ?_
          rintro e w' ⟨rfl, hb'⟩
          have HB := hideP hb'
          obtain ⟨x, hx⟩ : ∃ x : Nat, x = min (sizeT n ks[j]) (most - m) := ⟨_, rfl⟩
          rw [← hx]
          have HX := hideP hx
          have hxb : m + x ≤ most := by omega
          clear hb' hc hx
          go_wp2_with fail
          refine ⟨⟨j + 1, m + x, by go_num, by go_num, by omega, hxb, by omega, show _ = _ from ?_, hb.out.trans (((Below.refl _ _).alloc hsz _).trans (HB.out.mono (by simp; omega)))⟩, by simp [intOf]; omega⟩
          rw [sum_take _ _ _ hlt, HX.out]
          have := hs.out
          omega
      · have hjl : ¬ (j : Int) < (ks.length : Int) := by omega
        clear HK
        go_wp2_with fail
        go_ret
        refine ⟨ret_int ?_, (bl_alloc _ _).trans (hb.out.mono (Nat.le_succ _))⟩
        have e2 := hs.out
        rw [List.take_of_length_le (by omega)] at e2
        omega

theorem size_c (n : Nat) (v : Value) (D : Ty) (w : World) (h : TyAt w false n v D) :
    Calls Tryd.prog 26 #[v] w fun e w' => e = .returned (.int .i64 (min (sizeT n D) 201 : Nat)) ∧ Below w.heap.size w w' := by
  have hh := h
  cases n with
  | zero => exact h.elim
  | succ n =>
    obtain ⟨k, nm, na, nc, ka, kc, ns, ks, rfl, rfl, _⟩ := hh
    have HT := hideP (ty_below h (bl_alloc w (tyO k nm na ns.length nc ka ks.length kc)))
    clear h
    go_enter Tryd.func26, Tryd.ntmps26
    go_wp2_with fail
    refine (sizeUpTo_c _ _ _ _ 201 HT.out (by omega) (by omega)).mono ?_
    rintro e w' ⟨rfl, hb'⟩
    have HB := hideP (below_next (bl_alloc w _) hb')
    clear hb'
    go_wp2_with fail
    go_ret
    exact ⟨rfl, HB.out⟩
end Go.Proofs.YtmpcjcjacpjilaaDoor
