/- What is shifted to the left and back is what fits into the bits that are left: graduslaw01.WordShifts returns true for every two numbers of 64 bits; the listed tables of Go's library read as its text lays them. -/
import Derived.Test.YtdlkkflenphkfabDoorLaid
import Derived.Test.YtdlkkflenphkfabDoorBins
import Derived.Test.YtdlkkflenphkfabDoorRing
namespace Go.Proofs.YtdlkkflenphkfabDoor
open Go.ChangeShapes Go.WideShapes Go.ChangeAt Go.RowKit
open Go.ChangeMaps (open_string shut_string)

theorem wordShifts_out (n k : Int) (w : World) (htab : Tab w) (hk : k < 0 ∨ 63 < k) :
    Calls Tryd.prog 7 #[.int .i64 n, .int .i64 k] w fun e w' => e = .returned (.bool true) ∧ Below w.heap.size w w' := by
  have HT := hideP htab
  clear htab
  rcases hk with hk | hk
  all_goals
    go_enter Tryd.func7, Tryd.ntmps7
    go_wp2_with fail
    refine (awake_c _ HT.out).mono ?_
    rintro e w1 ⟨rfl, hB⟩
    go_wp2
    go_ret
    exact ⟨rfl, hB⟩

theorem wordShifts_in (n k : Int) (w : World) (htab : Tab w) (hk0 : 0 ≤ k) (hk1 : k ≤ 63) :
    Calls Tryd.prog 7 #[.int .i64 n, .int .i64 k] w fun e w' => e = .returned (.bool true) ∧ Below w.heap.size w w' := by
  have HT := hideP htab
  clear htab
  have hm : k % 64 = k := by omega
  have hm2 : (k + 64) % 64 = k := by omega
  obtain ⟨l, hl⟩ : ∃ l, l = wrap64 (n * 2 ^ k.toNat) := ⟨_, rfl⟩
  obtain ⟨r, hr⟩ : ∃ r, r = l / 2 ^ k.toNat := ⟨_, rfl⟩
  have b1 := fun w => binL (bin_shl n k w)
  have b2 := fun w => binL (bin_shr l k (by rw [hl]; exact wrap64_lo _) (by rw [hl]; exact wrap64_hi _) w)
  have b3 := fit_c n (64 - k)
  have b4 := fun w => binL (bin_shl n (k + 64) w)
  have b5 := fun w => binL (bin_and l (2 ^ k.toNat - 1) w)
  rw [hm, ← hl] at b1
  rw [hm, ← hr] at b2
  rw [shift_back n k hk0 hk1, ← hl, ← hr] at b3
  rw [hm2, ← hl] at b4
  rw [show bits .and .i64 l (2 ^ k.toNat - 1) = 0 by rw [hl]; exact and_mask n k.toNat (by omega)] at b5
  have em := mask k.toNat (by omega)
  have B1 := hideP b1
  have B2 := hideP b2
  have B3 := hideP b3
  have B4 := hideP b4
  have B5 := hideP b5
  clear b1 b2 b3 b4 b5 hl hr hm hm2
  go_enter Tryd.func7, Tryd.ntmps7
  go_wp2_with fail
  refine (awake_c _ HT.out).mono ?_
  rintro e w1 ⟨rfl, hB⟩
  go_wp2_with fail
  refine (B1.out _).mono ?_
  rintro e w' ⟨rfl, rfl⟩
  go_wp2_with fail
  refine (B2.out _).mono ?_
  rintro e w' ⟨rfl, rfl⟩
  go_wp2_with fail
  refine (B3.out _).mono ?_
  rintro e w' ⟨rfl, rfl⟩
  go_wp2_with fail
  refine (B4.out _).mono ?_
  rintro e w' ⟨rfl, rfl⟩
  go_wp2_with fail
  refine (B5.out _).mono ?_
  rintro e w' ⟨rfl, rfl⟩
  go_wp2
  go_ret
  exact ⟨rfl, hB⟩

theorem wordShifts_walk (n k : Int) (w : World) (htab : Tab w) (_wa : (Lit.int .i64 n).wf = true) (_wb : (Lit.int .i64 k).wf = true) :
    Calls Tryd.prog 7 #[.int .i64 n, .int .i64 k] w fun e w' => e = .returned (.bool true) ∧ Below w.heap.size w w' := by
  by_cases h : k < 0 ∨ 63 < k
  · exact wordShifts_out n k w htab h
  · exact wordShifts_in n k w htab (by omega) (by omega)

set_option maxRecDepth 100000 in
theorem wordShifts_lifted (os : Os) (started : os.Started) (H : Type) (enc : TypeId × Value → H) :
    ReturnsInHanded {} Tryd.checked os 7 .any (fun w args => (Rows.wordShiftsSpec.pre enc Tryd.prog Tryd.f7 [] false w args ∧ laidMetH Tryd.prog laidL w) ∧ sizedMet enc Tryd.prog Tryd.f7 (OpenSpec.ofChange Rows.wordShiftsSpec) false w args)
      (Rows.wordShiftsSpec.post enc Tryd.prog Tryd.f7 false true false false) := by
  refine returnsInHanded_of_change_and (C := Tryd.checked) (X := fun w _ => laidMetH Tryd.prog laidL w) (fun _ _ _ hh h => h.of_heap hh) own started (by kernel_rfl) Tryd.func7
    (ChangeSpec.witness_shaped (enc := enc) (C := Tryd.checked) (os := os) (X := fun w _ => laidMetH Tryd.prog laidL w) false (World.doorLaid Tryd.prog 24 os) #[.int .i64 0, .int .i64 0] 8 rfl (World.shaped_of_RefB (by kernel_rfl) (by kernel_rfl)) (by kernel_rfl) (by kernel_rfl) (by kernel_rfl) (door_met os _)) ?_
  intro W base args ds gs before hval0 hW _ hsz0 hL _
  have htab := tab_of_laid hL
  have hval : ∀ (j : Nat) t v, Tryd.f7.params[j]? = some t → args[j]? = some v → Value.okWide Tryd.prog W .any base t v := hval0
  have hW' := hW
  obtain ⟨p, q, hA0, hV, rfl, hfz, hnd⟩ := hW
  have hA : DataW.TrodAll enc Tryd.prog W 0 (fun _ => true) true Tryd.f7.params.toList args.toList ds p := hA0
  rw [Tryd.params7] at hA hval
  obtain ⟨v0, vs0, d0, ds0, p0, q0, hargs, rfl, rfl, h0, r0⟩ := trodAll_cons hA
  obtain ⟨v1, vs1, d1, ds1, p1, q1, rfl, rfl, rfl, h1, r1⟩ := trodAll_cons r0
  obtain ⟨rfl, rfl, rfl⟩ := trodAll_nil r1
  obtain rfl : args = #[v0, v1] := by cases args; simp_all
  obtain ⟨rfl, rfl⟩ := trodVars_none hV
  obtain ⟨a0, rfl, rfl, rfl, w0⟩ := open_int Tryd.underlying3 (hval 0 3 v0 rfl rfl) h0
  obtain ⟨a1, rfl, rfl, rfl, w1⟩ := open_int Tryd.underlying3 (hval 1 3 v1 rfl rfl) h1
  clear hA0 hval0
  refine (wordShifts_walk a0 a1 W htab w0 w1).mono fun e W' ⟨he, bel⟩ => ?_
  subst he
  exact ⟨_, rfl, _, _, _, [], _, [], hW', trodAll_mk1 (shut_bool Tryd.underlying4 _), (trodAll_cons_mk (shut_int Tryd.underlying3 w0) (trodAll_cons_mk (shut_int Tryd.underlying3 w1) trodAll_mk0)), rfl, bel.frame _, fun h => by cases h⟩

theorem wordShifts_over : Rows.WordShiftsSaid :=
  OpenClaim.holds_of_wide 7 Tryd.f7 rfl rfl rfl rfl rfl rfl rfl ⟨rfl, rfl, rfl, rfl, rfl⟩ rfl rfl rfl rfl rfl (by kernel_rfl) Tryd.func7 (by kernel_rfl)
    (of_decide_eq_true (by kernel_rfl)) (by unfold Func.isWrapper; rw [if_neg (of_decide_eq_false (by kernel_rfl))]; exact ⟨rfl, rfl⟩)
    (fun os started H enc _ => wordShifts_lifted os started H enc)

theorem wordShifts_card : Rows.WordShiftsCardSaid :=
  Claim7.holds_tied_plain_at .later [] [.data, .data, .data] true Rows.wordShiftsCard.stood.harness false
    wordShifts_over (fun _ h => by cases h) (by kernel_rfl) (fun _ h => by cases h) wordShifts_row_tie rfl ⟨rfl, rfl⟩ (by kernel_rfl) (by kernel_rfl)
    (fun f fn hf hfn => by
      obtain rfl : f = 7 := Option.some.inj ((show Tryd.prog.funcNamed Rows.wordShiftsRow.func = some 7 by kernel_rfl).symm.trans hf) |>.symm
      obtain rfl : fn = Tryd.f7 := (Option.some.inj (Tryd.func7.symm.trans hfn)).symm
      exact ⟨by kernel_rfl, fun j t ht => by
        rw [Tryd.params7] at ht
        have hm : t ∈ [3, 3] := by simpa using Array.mem_of_getElem? ht
        have hall : ([3, 3].all fun u => !Tryd.prog.wantsStandIn u) = true := by kernel_rfl
        exact (show Tryd.prog.wantsStandIn t = false by simpa using List.all_eq_true.1 hall t hm)⟩)
    (by kernel_rfl)
end Go.Proofs.YtdlkkflenphkfabDoor
