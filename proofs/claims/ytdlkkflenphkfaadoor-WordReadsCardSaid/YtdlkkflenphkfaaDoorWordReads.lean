/- What is shown of a number of 0 or more is that number, of one below none: graduslaw01.WordReads returns true for every number of 64 bits; the listed tables of Go's library read as its text lays them. -/
import Derived.Test.YtdlkkflenphkfaaDoorLaid
import Derived.Test.YtdlkkflenphkfaaDoorDecV
import Derived.Lib.ItoaLen
namespace Go.Proofs.YtdlkkflenphkfaaDoor
open Go.ChangeShapes Go.WideShapes Go.ChangeAt Go.RowKit
open Go.ChangeMaps (open_string shut_string)

theorem wordReads_core (n m : Int) (is : Bool) (S : ByteArray) (w : World) (htab : Tab w)
    (s1 : ∀ w, Tab w → Calls Tryd.prog 14 #[.int .i64 n] w fun e w' => e = .returned (.string S) ∧ Below w.heap.size w w')
    (p1 : ∀ w, Calls Tryd.prog 12 #[.string S] w fun e w' => e = .returned (.tuple #[.int .i64 m, .bool is]) ∧ w' = w)
    (way : (0 ≤ n ∧ is = true ∧ (m == n) = true) ∨ (n < 0 ∧ is = false ∧ (m == 0) = true)) :
    Calls Tryd.prog 6 #[.int .i64 n] w fun e w' => e = .returned (.bool true) ∧ Below w.heap.size w w' := by
  have HT := hideP htab
  have S1 := hideP s1
  clear htab s1
  rcases way with ⟨h1, rfl, h3⟩ | ⟨h1, rfl, h3⟩
  all_goals
    have P1 := hideP p1
    clear p1
    go_enter Tryd.func6, Tryd.ntmps6
    go_wp2_with fail
    refine (awake_c _ HT.out).mono ?_
    rintro e w1 ⟨rfl, hB⟩
    go_wp2_with fail
    refine (S1.out _ (HT.out.below hB)).mono ?_
    rintro e w2 ⟨rfl, hB2⟩
    go_wp2_with fail
    refine (P1.out _).mono ?_
    rintro e w' ⟨rfl, rfl⟩
    go_wp2
    go_ret
    exact ⟨rfl, hB.trans (hB2.mono hB.size)⟩

theorem wordReads_walk (n : Int) (w : World) (htab : Tab w) (wn : (Lit.int .i64 n).wf = true) :
    Calls Tryd.prog 6 #[.int .i64 n] w fun e w' => e = .returned (.bool true) ∧ Below w.heap.size w w' := by
  have hn := bounds_i64 wn
  have hp := parse_c ⟨(Lib.itoa n).toArray⟩ (by
    have := Lib.itoa_length_le n hn.1 hn.2
    show (Lib.itoa n).toArray.size ≤ _
    simp only [List.size_toArray]
    omega)
  have e : (ByteArray.mk (Lib.itoa n).toArray).data.toList = Lib.itoa n := rfl
  rw [e, parse_itoa n hn.2] at hp
  by_cases h : n < 0
  · rw [if_pos h] at hp
    exact wordReads_core n 0 false _ w htab (fun w ht => show_c n hn.1 hn.2 w ht) hp (Or.inr ⟨h, rfl, rfl⟩)
  · rw [if_neg h] at hp
    exact wordReads_core n n true _ w htab (fun w ht => show_c n hn.1 hn.2 w ht) hp (Or.inl ⟨by omega, rfl, by simp⟩)

set_option maxRecDepth 100000 in
theorem wordReads_lifted (os : Os) (started : os.Started) (H : Type) (enc : TypeId × Value → H) :
    ReturnsInHanded {} Tryd.checked os 6 .any (fun w args => (Rows.wordReadsSpec.pre enc Tryd.prog Tryd.f6 [] false w args ∧ laidMetH Tryd.prog laidL w) ∧ sizedMet enc Tryd.prog Tryd.f6 (OpenSpec.ofChange Rows.wordReadsSpec) false w args)
      (Rows.wordReadsSpec.post enc Tryd.prog Tryd.f6 false true false false) := by
  refine returnsInHanded_of_change_and (C := Tryd.checked) (X := fun w _ => laidMetH Tryd.prog laidL w) (fun _ _ _ hh h => h.of_heap hh) own started (by kernel_rfl) Tryd.func6
    (ChangeSpec.witness_shaped (enc := enc) (C := Tryd.checked) (os := os) (X := fun w _ => laidMetH Tryd.prog laidL w) false (World.doorLaid Tryd.prog 24 os) #[.int .i64 0] 8 rfl (World.shaped_of_RefB (by kernel_rfl) (by kernel_rfl)) (by kernel_rfl) (by kernel_rfl) (by kernel_rfl) (door_met os _)) ?_
  intro W base args ds gs before hval0 hW _ hsz0 hL _
  have htab := tab_of_laid hL
  have hval : ∀ (j : Nat) t v, Tryd.f6.params[j]? = some t → args[j]? = some v → Value.okWide Tryd.prog W .any base t v := hval0
  have hW' := hW
  obtain ⟨p, q, hA0, hV, rfl, hfz, hnd⟩ := hW
  have hA : DataW.TrodAll enc Tryd.prog W 0 (fun _ => true) true Tryd.f6.params.toList args.toList ds p := hA0
  rw [Tryd.params6] at hA hval
  obtain ⟨v0, vs0, d0, ds0, p0, q0, hargs, rfl, rfl, h0, r0⟩ := trodAll_cons hA
  obtain ⟨rfl, rfl, rfl⟩ := trodAll_nil r0
  obtain rfl : args = #[v0] := by cases args; simp_all
  obtain ⟨rfl, rfl⟩ := trodVars_none hV
  obtain ⟨a0, rfl, rfl, rfl, w0⟩ := open_int Tryd.underlying3 (hval 0 3 v0 rfl rfl) h0
  clear hA0 hval0
  refine (wordReads_walk a0 W htab w0).mono fun e W' ⟨he, bel⟩ => ?_
  subst he
  exact ⟨_, rfl, _, _, _, [], _, [], hW', trodAll_mk1 (shut_bool Tryd.underlying4 _), (trodAll_cons_mk (shut_int Tryd.underlying3 w0) trodAll_mk0), rfl, bel.frame _, fun h => by cases h⟩

theorem wordReads_over : Rows.WordReadsSaid :=
  OpenClaim.holds_of_wide 6 Tryd.f6 rfl rfl rfl rfl rfl rfl rfl ⟨rfl, rfl, rfl, rfl, rfl⟩ rfl rfl rfl rfl rfl (by kernel_rfl) Tryd.func6 (by kernel_rfl)
    (of_decide_eq_true (by kernel_rfl)) (by unfold Func.isWrapper; rw [if_neg (of_decide_eq_false (by kernel_rfl))]; exact ⟨rfl, rfl⟩)
    (fun os started H enc _ => wordReads_lifted os started H enc)

theorem wordReads_card : Rows.WordReadsCardSaid :=
  Claim7.holds_tied_plain_at .later [] [.data, .data, .data] true Rows.wordReadsCard.stood.harness false
    wordReads_over (fun _ h => by cases h) (by kernel_rfl) (fun _ h => by cases h) wordReads_row_tie rfl ⟨rfl, rfl⟩ (by kernel_rfl) (by kernel_rfl)
    (fun f fn hf hfn => by
      obtain rfl : f = 6 := Option.some.inj ((show Tryd.prog.funcNamed Rows.wordReadsRow.func = some 6 by kernel_rfl).symm.trans hf) |>.symm
      obtain rfl : fn = Tryd.f6 := (Option.some.inj (Tryd.func6.symm.trans hfn)).symm
      exact ⟨by kernel_rfl, fun j t ht => by
        rw [Tryd.params6] at ht
        have hm : t ∈ [3] := by simpa using Array.mem_of_getElem? ht
        have hall : ([3].all fun u => !Tryd.prog.wantsStandIn u) = true := by kernel_rfl
        exact (show Tryd.prog.wantsStandIn t = false by simpa using List.all_eq_true.1 hall t hm)⟩)
    (by kernel_rfl)
end Go.Proofs.YtdlkkflenphkfaaDoor
