/- (*scanner).signLength by a contract. -/
import Derived.Test.YtgoppgopnhmhfaaDoorSignR
namespace Go.Proofs.YtgoppgopnhmhfaaDoor
open Go.RowKit Go.Maps

set_option maxHeartbeats 4000000 in
set_option maxRecDepth 100000 in
theorem signLength_c (S : ByteArray) (hS : S.size ≤ 65536) (sb mb k : Nat) (li ls : Int) (hk0 : k < S.size) (w : World) (hsc : Scan w sb S k li ls mb) (D : DataW Unit) (hown : w.ownsMap Tryd.prog 52 unitElem mb 8 D) (hD : PairsD D) :
    Calls Tryd.prog 44 #[.pointer (some ⟨sb, 0, none⟩)] w fun e w' => e = .returned (.int .i64 (signV (S.data.toList.drop k))) ∧ w.grownBy w' none := by
  obtain ⟨r, hr⟩ : ∃ r, r = signV (S.data.toList.drop k) := ⟨_, rfl⟩
  rw [← hr]
  have HR := hideP hr
  clear hr
  have hone := hideP (oneSign_c S[k])
  have hmem := hideP (oneX_mem S[k])
  obtain ⟨x, hx⟩ : ∃ x, x = oneX S[k] := ⟨_, rfl⟩
  rw [← hx] at hone hmem
  clear hx
  have c0 := hsc.c0
  have c1 := hsc.c1
  have c4 := hsc.c4
  have hx0 : 0 ≤ x ∨ x < 0 := by omega
  by_cases hk : k + 1 < S.size
  · have hk1 : (k : Int) + 1 < (S.size : Int) := by omega
    have hk2 : (0 : Int) ≤ (k : Int) + 1 := by omega
    obtain ⟨v, hv⟩ : ∃ v, v = twoV.contains (S[k], S[k + 1]) := ⟨_, rfl⟩
    have hl : ∀ n, (Instr.lookup 37 (.map (some mb)) (.agg #[.int .u8 S[k].toNat, .int .u8 S[k + 1].toNat]) true).run Tryd.prog (w.drewN n) = .ok (.tuple #[.agg #[], .bool v]) (w.drewN n) :=
      fun n => pair_look (w := w.drewN n) hown hD _ _ hv.symm
    have hl2 : ∀ n, (Instr.lookup 37 (.map (some mb)) (.agg #[.int .u8 S[k].toNat, .int .u8 S[k + 1].toNat]) true).run Tryd.prog ((w.drewN n).alloc (.cells #[] 53)) = .ok (.tuple #[.agg #[], .bool v]) ((w.drewN n).alloc (.cells #[] 53)) :=
      fun n => pair_look (hown.kept (later_grown w n _) (by simp)) hD _ _ hv.symm
    have d0 : ∀ n, ((w.drewN n).alloc (.cells #[] 53)).cell? ⟨sb, 0, none⟩ = some (.string S) := fun n => (hsc.kept (later_grown w n _) (by simp)).c0
    have d1 : ∀ n, ((w.drewN n).alloc (.cells #[] 53)).cell? ⟨sb, 1, none⟩ = some (.int .i64 k) := fun n => (hsc.kept (later_grown w n _) (by simp)).c1
    have d4 : ∀ n, ((w.drewN n).alloc (.cells #[] 53)).cell? ⟨sb, 4, none⟩ = some (.map (some mb)) := fun n => (hsc.kept (later_grown w n _) (by simp)).c4
    have HV := hideP hv
    clear hsc hown hD hv
    cases v
    · have e1 := sign_one hk0 (fun _ => HV.out.symm)
      rw [← HR.out] at e1
      have e3 : (0 ≤ x ∧ r = 1) ∨ (x < 0 ∧ r = 0) := by
        rcases hx0 with h | h
        · exact .inl ⟨h, by rw [e1, hmem.out.1 h]; rfl⟩
        · refine .inr ⟨h, ?_⟩
          rw [e1, if_neg]
          intro hh
          have := hmem.out.2 hh
          omega
      clear e1 hx0
      go_enter Tryd.func44, Tryd.ntmps44
      go_wp2
      go_quiet (fail)
      go_wp2
      go_region
      all_goals
        clear hl hl2 c0 c1 c4
        rcases e3 with ⟨h, rfl⟩ | ⟨h, rfl⟩
        · go_wp2
          go_quiet ((go_at_call 32; refine Calls.quiet_of_same (hone.out _)))
          go_wp2
          go_ret
          exact ⟨rfl, grown_drewN (later_grown _ _ _) _⟩
        · go_wp2
          go_quiet ((go_at_call 32; refine Calls.quiet_of_same (hone.out _)))
          go_wp2
          go_ret
          exact ⟨rfl, grown_drewN (later_grown _ _ _) _⟩
    · have e1 := sign_two hk HV.out.symm
      rw [← HR.out] at e1
      subst e1
      go_enter Tryd.func44, Tryd.ntmps44
      go_wp2
      go_quiet (fail)
      go_wp2
      go_region
      all_goals
        go_wp2
        go_ret
        exact ⟨rfl, later_grown _ _ _⟩
  · have hk1 : ¬ (k : Int) + 1 < (S.size : Int) := by omega
    have e1 := sign_one hk0 (fun h => absurd h hk)
    rw [← HR.out] at e1
    have e3 : (0 ≤ x ∧ r = 1) ∨ (x < 0 ∧ r = 0) := by
      rcases hx0 with h | h
      · exact .inl ⟨h, by rw [e1, hmem.out.1 h]; rfl⟩
      · refine .inr ⟨h, ?_⟩
        rw [e1, if_neg]
        intro hh
        have := hmem.out.2 hh
        omega
    clear hsc hown hD c4 e1 hx0
    have C0 := hideP c0
    have C1 := hideP c1
    go_enter Tryd.func44, Tryd.ntmps44
    go_wp2
    go_quiet (fail)
    go_wp2
    generalize hw1 : World.drewN w _ = w1
    have hg : Hid (w.grownBy w1 none) := by rw [← hw1]; exact grown_drewN (World.grownBy.refl _ _) _
    have d0 : w1.cell? ⟨sb, 0, none⟩ = some (.string S) := by rw [← hw1]; exact C0.out
    have d1 : w1.cell? ⟨sb, 1, none⟩ = some (.int .i64 k) := by rw [← hw1]; exact C1.out
    clear c0 c1 hw1
    rcases e3 with ⟨h, rfl⟩ | ⟨h, rfl⟩
    · go_quiet ((go_at_call 32; refine Calls.quiet_of_same (hone.out _)))
      go_wp2
      go_ret
      exact ⟨rfl, grown_drewN hg.out _⟩
    · go_quiet ((go_at_call 32; refine Calls.quiet_of_same (hone.out _)))
      go_wp2
      go_ret
      exact ⟨rfl, grown_drewN hg.out _⟩
end Go.Proofs.YtgoppgopnhmhfaaDoor
