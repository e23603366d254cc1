/- What is divided, times the divisor, and what is left are the number again; what is left has its sign, and is less than the divisor: graduslaw01.WordDivides returns true for every two numbers of 64 bits; the listed tables of Go's library read as its text lays them. -/
import Derived.Test.YtdlkkflenphkfaaDoorLaid
namespace Go.Proofs.YtdlkkflenphkfaaDoor
open Go.ChangeShapes Go.WideShapes Go.ChangeAt Go.RowKit
open Go.ChangeMaps (open_string shut_string)

theorem div_again (a b : Int) (h0 : -9223372036854775808 ≤ a) (h1 : a ≤ 9223372036854775807) : wrap64 (wrap64 (wrap64 (a.tdiv b) * b) + a.tmod b) = a := by
  have e := Int.mul_tdiv_add_tmod a b
  have e2 : wrap64 (wrap64 (wrap64 (a.tdiv b) * b) + a.tmod b) = wrap64 a := by
    apply wrap64_congr
    have e3 : (wrap64 (a.tdiv b) * b) % 18446744073709551616 = (a.tdiv b * b) % 18446744073709551616 := by
      rw [Int.mul_emod, wrap64_mod, ← Int.mul_emod]
    have e4 := wrap64_mod (wrap64 (a.tdiv b) * b)
    rw [Int.mul_comm] at e
    omega
  rw [e2, wrap64_id h0 h1]

/-- What is left: nought, or of the number's sign and less than the divisor. -/
theorem rem_facts (a b : Int) (hb : b ≠ 0) : (0 ≤ a → 0 ≤ a.tmod b) ∧ (a < 0 → a.tmod b ≤ 0) ∧ (0 < b → a.tmod b < b ∧ -b < a.tmod b) ∧ (b < 0 → b < a.tmod b ∧ a.tmod b < -b) := by
  have key : ∀ c d : Int, 0 ≤ c → 0 < d → 0 ≤ c.tmod d ∧ c.tmod d < d := fun c d hc hd => ⟨Int.tmod_nonneg d hc, Int.tmod_lt_of_pos c hd⟩
  by_cases ha : 0 ≤ a
  · by_cases hp : 0 < b
    · have := key a b ha hp
      omega
    · have := key a (-b) ha (by omega)
      rw [Int.tmod_neg] at this
      omega
  · have e : a.tmod b = -((-a).tmod b) := by rw [Int.neg_tmod, Int.neg_neg]
    by_cases hp : 0 < b
    · have := key (-a) b (by omega) hp
      omega
    · have := key (-a) (-b) (by omega) (by omega)
      rw [Int.tmod_neg] at this
      omega

theorem wordDivides_zero (a : Int) (w : World) (htab : Tab w) :
    Calls Tryd.prog 4 #[.int .i64 a, .int .i64 0] w fun e w' => e = .returned (.bool true) ∧ Below w.heap.size w w' := by
  have HT := hideP htab
  clear htab
  go_enter Tryd.func4, Tryd.ntmps4
  go_wp2_with fail
  refine (awake_c _ HT.out).mono ?_
  rintro e w1 ⟨rfl, hB⟩
  go_wp2
  go_ret
  exact ⟨rfl, hB⟩

theorem wordDivides_core (a b q m p : Int) (w : World) (htab : Tab w) (hb : (b == 0) = false) (hb0 : -9223372036854775808 ≤ b) (hb1 : b ≤ 9223372036854775807) (hm0 : -9223372036854775807 ≤ m) (hm1 : m ≤ 9223372036854775807)
    (b1 : ∀ w, Calls Tryd.prog 10 #[.int .i64 3, .int .i64 a, .int .i64 b] w fun e w' => e = .returned (.tuple #[.int .i64 q, .int .i64 0]) ∧ w' = w)
    (b2 : ∀ w, Calls Tryd.prog 10 #[.int .i64 4, .int .i64 a, .int .i64 b] w fun e w' => e = .returned (.tuple #[.int .i64 m, .int .i64 0]) ∧ w' = w)
    (b3 : ∀ w, Calls Tryd.prog 10 #[.int .i64 2, .int .i64 q, .int .i64 b] w fun e w' => e = .returned (.tuple #[.int .i64 p, .int .i64 0]) ∧ w' = w)
    (b4 : ∀ w, Calls Tryd.prog 10 #[.int .i64 0, .int .i64 p, .int .i64 m] w fun e w' => e = .returned (.tuple #[.int .i64 a, .int .i64 0]) ∧ w' = w)
    (way : (m == 0) = true ∨
      ((m == 0) = false ∧ 0 < b ∧ m < b ∧ -b < m ∧ ((m < 0 ∧ a < 0) ∨ (0 < m ∧ 0 ≤ a))) ∨
      ((m == 0) = false ∧ b < 0 ∧ ((m < 0 ∧ a < 0 ∧ b < m) ∨ (0 < m ∧ 0 ≤ a ∧ b < -m)))) :
    Calls Tryd.prog 4 #[.int .i64 a, .int .i64 b] w fun e w' => e = .returned (.bool true) ∧ Below w.heap.size w w' := by
  have HT := hideP htab
  have B1 := hideP b1
  have B2 := hideP b2
  have B3 := hideP b3
  have B4 := hideP b4
  clear htab b1 b2 b3 b4
  rcases way with h | ⟨h, h1, h2, h3, ⟨h4, h5⟩ | ⟨h4, h5⟩⟩ | ⟨h, h1, ⟨h4, h5, h6⟩ | ⟨h4, h5, h6⟩⟩
  all_goals
    go_enter Tryd.func4, Tryd.ntmps4
    go_wp2_with fail
    refine (awake_c _ HT.out).mono ?_
    rintro e w1 ⟨rfl, hB⟩
    go_wp2_with fail
    refine (B1.out _).mono ?_
    rintro e w' ⟨rfl, rfl⟩
    go_wp2_with fail
    refine (B2.out _).mono ?_
    rintro e w' ⟨rfl, rfl⟩
    go_wp2_with fail
    refine (B3.out _).mono ?_
    rintro e w' ⟨rfl, rfl⟩
    go_wp2_with fail
    refine (B4.out _).mono ?_
    rintro e w' ⟨rfl, rfl⟩
    go_wp2
    go_ret
    exact ⟨rfl, hB⟩

theorem wordDivides_walk (a b : Int) (w : World) (htab : Tab w) (wa : (Lit.int .i64 a).wf = true) (wb : (Lit.int .i64 b).wf = true) :
    Calls Tryd.prog 4 #[.int .i64 a, .int .i64 b] w fun e w' => e = .returned (.bool true) ∧ Below w.heap.size w w' := by
  have ha := bounds_i64 wa
  have hbb := bounds_i64 wb
  by_cases hb : b = 0
  · subst hb
    exact wordDivides_zero a w htab
  have hr := rem_facts a b hb
  refine wordDivides_core a b (wrap64 (a.tdiv b)) (a.tmod b) (wrap64 (wrap64 (a.tdiv b) * b)) w htab (by simpa using hb) hbb.1 hbb.2 (by omega) (by omega) (bin_div a b hb) (bin_mod a b hb) (bin_mul _ b) ?_ ?_
  · have h := bin_add (wrap64 (wrap64 (a.tdiv b) * b)) (a.tmod b)
    rw [div_again a b ha.1 ha.2] at h
    exact h
  · by_cases hm : a.tmod b = 0
    · exact Or.inl (by simpa using hm)
    · have hm1 : (a.tmod b == 0) = false := by simpa using hm
      by_cases hp : 0 < b
      · exact Or.inr (Or.inl ⟨hm1, hp, by omega, by omega, by omega⟩)
      · exact Or.inr (Or.inr ⟨hm1, by omega, by omega⟩)

set_option maxRecDepth 100000 in
theorem wordDivides_lifted (os : Os) (started : os.Started) (H : Type) (enc : TypeId × Value → H) :
    ReturnsInHanded {} Tryd.checked os 4 .any (fun w args => (Rows.wordDividesSpec.pre enc Tryd.prog Tryd.f4 [] false w args ∧ laidMetH Tryd.prog laidL w) ∧ sizedMet enc Tryd.prog Tryd.f4 (OpenSpec.ofChange Rows.wordDividesSpec) false w args)
      (Rows.wordDividesSpec.post enc Tryd.prog Tryd.f4 false true false false) := by
  refine returnsInHanded_of_change_and (C := Tryd.checked) (X := fun w _ => laidMetH Tryd.prog laidL w) (fun _ _ _ hh h => h.of_heap hh) own started (by kernel_rfl) Tryd.func4
    (ChangeSpec.witness_shaped (enc := enc) (C := Tryd.checked) (os := os) (X := fun w _ => laidMetH Tryd.prog laidL w) false (World.doorLaid Tryd.prog 24 os) #[.int .i64 0, .int .i64 0] 8 rfl (World.shaped_of_RefB (by kernel_rfl) (by kernel_rfl)) (by kernel_rfl) (by kernel_rfl) (by kernel_rfl) (door_met os _)) ?_
  intro W base args ds gs before hval0 hW _ hsz0 hL _
  have htab := tab_of_laid hL
  have hval : ∀ (j : Nat) t v, Tryd.f4.params[j]? = some t → args[j]? = some v → Value.okWide Tryd.prog W .any base t v := hval0
  have hW' := hW
  obtain ⟨p, q, hA0, hV, rfl, hfz, hnd⟩ := hW
  have hA : DataW.TrodAll enc Tryd.prog W 0 (fun _ => true) true Tryd.f4.params.toList args.toList ds p := hA0
  rw [Tryd.params4] at hA hval
  obtain ⟨v0, vs0, d0, ds0, p0, q0, hargs, rfl, rfl, h0, r0⟩ := trodAll_cons hA
  obtain ⟨v1, vs1, d1, ds1, p1, q1, rfl, rfl, rfl, h1, r1⟩ := trodAll_cons r0
  obtain ⟨rfl, rfl, rfl⟩ := trodAll_nil r1
  obtain rfl : args = #[v0, v1] := by cases args; simp_all
  obtain ⟨rfl, rfl⟩ := trodVars_none hV
  obtain ⟨a0, rfl, rfl, rfl, w0⟩ := open_int Tryd.underlying3 (hval 0 3 v0 rfl rfl) h0
  obtain ⟨a1, rfl, rfl, rfl, w1⟩ := open_int Tryd.underlying3 (hval 1 3 v1 rfl rfl) h1
  clear hA0 hval0
  refine (wordDivides_walk a0 a1 W htab w0 w1).mono fun e W' ⟨he, bel⟩ => ?_
  subst he
  exact ⟨_, rfl, _, _, _, [], _, [], hW', trodAll_mk1 (shut_bool Tryd.underlying4 _), (trodAll_cons_mk (shut_int Tryd.underlying3 w0) (trodAll_cons_mk (shut_int Tryd.underlying3 w1) trodAll_mk0)), rfl, bel.frame _, fun h => by cases h⟩

theorem wordDivides_over : Rows.WordDividesSaid :=
  OpenClaim.holds_of_wide 4 Tryd.f4 rfl rfl rfl rfl rfl rfl rfl ⟨rfl, rfl, rfl, rfl, rfl⟩ rfl rfl rfl rfl rfl (by kernel_rfl) Tryd.func4 (by kernel_rfl)
    (of_decide_eq_true (by kernel_rfl)) (by unfold Func.isWrapper; rw [if_neg (of_decide_eq_false (by kernel_rfl))]; exact ⟨rfl, rfl⟩)
    (fun os started H enc _ => wordDivides_lifted os started H enc)

theorem wordDivides_card : Rows.WordDividesCardSaid :=
  Claim7.holds_tied_plain_at .later [] [.data, .data, .data] true Rows.wordDividesCard.stood.harness false
    wordDivides_over (fun _ h => by cases h) (by kernel_rfl) (fun _ h => by cases h) wordDivides_row_tie rfl ⟨rfl, rfl⟩ (by kernel_rfl) (by kernel_rfl)
    (fun f fn hf hfn => by
      obtain rfl : f = 4 := Option.some.inj ((show Tryd.prog.funcNamed Rows.wordDividesRow.func = some 4 by kernel_rfl).symm.trans hf) |>.symm
      obtain rfl : fn = Tryd.f4 := (Option.some.inj (Tryd.func4.symm.trans hfn)).symm
      exact ⟨by kernel_rfl, fun j t ht => by
        rw [Tryd.params4] at ht
        have hm : t ∈ [3, 3] := by simpa using Array.mem_of_getElem? ht
        have hall : ([3, 3].all fun u => !Tryd.prog.wantsStandIn u) = true := by kernel_rfl
        exact (show Tryd.prog.wantsStandIn t = false by simpa using List.all_eq_true.1 hall t hm)⟩)
    (by kernel_rfl)
end Go.Proofs.YtdlkkflenphkfaaDoor
