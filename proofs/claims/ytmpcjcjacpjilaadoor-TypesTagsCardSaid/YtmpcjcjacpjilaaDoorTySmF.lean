/- graduslaw03.small by a contract: where it answers more than nothing, no node has many names or kids. -/
import Derived.Test.YtmpcjcjacpjilaaDoorTyC
import Derived.Test.YtmpcjcjacpjilaaDoorTyCp
namespace Go.Proofs.YtmpcjcjacpjilaaDoor
open Go.RowKit

set_option maxHeartbeats 1000000 in
theorem small_f (n : Nat) : ∀ (v : Value) (D : Ty) (w : World) (most : Int), TyAt w false n v D → 1 ≤ most → most ≤ 2000 →
    Calls Tryd.prog 8 #[v, .int .i64 most] w fun e w' => (∃ r : Int, e = .returned (.int .i64 r) ∧ 0 ≤ r ∧ r < most ∧ (0 < r → FewT n D)) ∧ Below w.heap.size w w' := by
  induction n with
  | zero => intro v D w most h; exact h.elim
  | succ n ih =>
    intro v D w most h h1 h2
    obtain ⟨k, nm, na, nc, ka, kc, ns, ks, rfl, rfl, _, _, _, ⟨_, hnl⟩, ⟨_, hkl⟩, _, hks⟩ := h
    have hnl' : ns.length ≤ 140737488351232 := hnl
    have hkl' : ks.length ≤ 140737488351232 := hkl
    clear hnl hkl
    by_cases c1 : most < (ks.length : Int)
    · clear hks
      go_enter Tryd.func8, Tryd.ntmps8
      go_wp2_with fail
      go_ret
      exact ⟨⟨0, rfl, by omega, by omega, fun h => absurd h (by omega)⟩, bl_alloc _ _⟩
    by_cases c2 : (1000 : Int) < (ns.length : Int)
    · clear hks
      go_enter Tryd.func8, Tryd.ntmps8
      go_wp2_with fail
      go_ret
      exact ⟨⟨0, rfl, by omega, by omega, fun h => absurd h (by omega)⟩, bl_alloc _ _⟩
    have HK := hideP hks
    clear hks
    go_enter Tryd.func8, Tryd.ntmps8
    go_wp2_with fail
    go_loopw [1, 5] (fun m i wr => ∃ (mm : Int) (j : Nat), m = .int .i64 mm ∧ i = .int .i64 j ∧ j ≤ ks.length ∧ 0 ≤ mm ∧ mm < most ∧ Hid (0 < mm → ∀ x ∈ ks.take j, FewT n x) ∧
      Hid (Below (w.heap.size + 1) (w.alloc (tyO k nm na ns.length nc ka ks.length kc)) wr)) (fun _ i _ => ks.length - (intOf i).toNat)
    case atStart => exact ⟨most - 1, 0, rfl, rfl, Nat.zero_le _, by omega, by omega, fun _ x hx => by simp at hx, Below.refl _ _⟩
    case round =>
      obtain ⟨mm, j, rfl, rfl, hj, hm0, hm1, hs, hb⟩ := hrel
      obtain ⟨_, _, _, b3⟩ := box_at hb.out (Nat.lt_succ_self _)
      by_cases hlt : j < ks.length
      · have hjl : (j : Int) < (ks.length : Int) := by omega
        by_cases hp : 0 < mm
        · obtain ⟨b, o, k', nm', na', nl', nc', la', ll', lc', rfl, hbl, q0, q1, q2, q3, ht⟩ := kid_at HK.out hlt
          have hb0 : Below w.heap.size w wr := (bl_alloc _ _).trans (hb.out.mono (Nat.le_succ _))
          have r0 := (hb0.cell (p := ⟨b, o + j * 4, none⟩) hbl).trans q0
          have r1 := (hb0.cell (p := ⟨b, o + j * 4 + 1, none⟩) hbl).trans q1
          have r2 := (hb0.cell (p := ⟨b, o + j * 4 + 2, none⟩) hbl).trans q2
          have r3 := (hb0.cell (p := ⟨b, o + j * 4 + 3, none⟩) hbl).trans q3
          have HT := hideP (ty_below ht hb0)
          have hsz : w.heap.size + 1 ≤ wr.heap.size := by have := hb.out.size; simpa using this
          clear q0 q1 q2 q3 ht hb0
          go_wp2_with fail
          refine (ih _ _ _ _ HT.out (by omega) (by omega)).mono ?_
          rintro e w' ⟨⟨r, rfl, hr0, hr1, hr2⟩, hb'⟩
          have HR := hideP hr2
          have HB := hideP hb'
          clear hr2 hb'
          go_wp2_with fail
          refine ⟨⟨r, j + 1, rfl, by go_num, by omega, hr0, by omega, fun hr x hx => ?_, hb.out.trans (HB.out.mono hsz)⟩, by simp [intOf]; omega⟩
          rw [List.take_succ_eq_append_getElem hlt, List.mem_append] at hx
          rcases hx with hx | hx
          · exact hs.out hp x hx
          · rw [List.mem_singleton] at hx
            rw [hx]
            exact HR.out hr
        · have hm : ¬ (0 : Int) < mm := hp
          clear HK
          go_wp2_with fail
          go_ret
          exact ⟨⟨mm, rfl, hm0, hm1, fun h => absurd h (by omega)⟩, (bl_alloc _ _).trans (hb.out.mono (Nat.le_succ _))⟩
      · have hjl : ¬ (j : Int) < (ks.length : Int) := by omega
        clear HK
        go_wp2_with fail
        go_ret
        refine ⟨⟨mm, rfl, hm0, hm1, fun h => ?_⟩, (bl_alloc _ _).trans (hb.out.mono (Nat.le_succ _))⟩
        have e2 := hs.out h
        rw [List.take_of_length_le (by omega)] at e2
        exact ⟨by rw [names_mk]; omega, by rw [kids_mk]; omega, by rw [kids_mk]; exact e2⟩
end Go.Proofs.YtmpcjcjacpjilaaDoor
