/- Any text may be a name, or not, as the document says, and the words are those that it lists: graduslaw02.LexNames returns true for every text; the package's table of words reads as its text lays it. -/
import Derived.Test.YtgoppgopnhmhfaaDoorLaidL
import Derived.Test.YtgoppgopnhmhfaaDoorWordsC
import Derived.Test.YtgoppgopnhmhfaaDoorWordR
import Derived.BigQuiet
namespace Go.Proofs.YtgoppgopnhmhfaaDoor
open Go.ChangeShapes Go.WideShapes Go.ChangeAt Go.RowKit
open Go.ChangeMaps (open_string shut_string)

theorem word_none : ∀ k, k < 25 → nameV (wordB k).data.toList = false := by decide +kernel
theorem word_size : ∀ k, k < 25 → (wordB k).size ≤ 32 := by decide +kernel

theorem below_drewN {B : Nat} {a w : World} (h : Below B a w) (n : Nat) : Below B a (w.drewN n) := ⟨h.os, h.tape, h.output, h.size, h.block⟩

set_option maxHeartbeats 8000000 in
set_option maxRecDepth 100000 in
theorem lexNames_walk (S : ByteArray) (w : World) (htab : Words w) (hS : S.size ≤ 140737488351232) :
    Calls Tryd.prog 4 #[.string S] w fun e w' => e = .returned (.bool true) ∧ Below w.heap.size w w' := by
  have HT := hideP htab
  clear htab
  have hn1 := name_c S hS
  have hn2 := nameR_c S hS
  generalize nameV S.data.toList = b at hn1 hn2
  have HN1 := hideP hn1
  have HN2 := hideP hn2
  clear hn1 hn2
  go_enter Tryd.func4, Tryd.ntmps4
  go_wp2_with fail
  refine (awake_c _ HT.out).mono ?_
  rintro e w1 ⟨rfl, hB⟩
  have HB := hideP hB
  have HT1 := hideP (HT.out.below hB)
  clear hB
  go_wp2_with fail
  refine (words_c _ HT1.out).mono ?_
  rintro e w2 ⟨rfl, hb2, hc2⟩
  have HB2 := hideP hb2
  have HC2 := hideP hc2
  clear hb2 hc2
  go_wp2_with fail
  refine (wordsR_c _).mono ?_
  rintro e w3 ⟨rfl, hb3, hc3⟩
  have hl1 : w1.heap.size < w2.heap.size := World.block_lt_of_cell? w2 _ (HC2.out 0 (by omega))
  have HC3 : Hid (∀ i, i < 25 → w3.cell? ⟨w1.heap.size, i, none⟩ = some (.string (wordB i))) := fun i hi => (hb3.cell (p := ⟨w1.heap.size, i, none⟩) hl1).trans (HC2.out i hi)
  have HC4 := hideP hc3
  have HB3 := hideP (below_next (below_next HB.out HB2.out) hb3)
  have HW3 := hideP (HT.out.below HB3.out)
  clear hb3 hc3 hl1 HB HT1 HB2 HC2 HT
  go_wp2
  go_loopw [6] (fun i wr => ∃ k n : Nat, k ≤ 25 ∧ i = .int .i64 k ∧ wr = w3.drewN n) (fun i _ => 25 - (intOf i).toNat)
  case atStart => exact ⟨0, 0, by omega, rfl, rfl⟩
  case round =>
    obtain ⟨k, n, hk, rfl, rfl⟩ := hrel
    by_cases hlt : k < 25
    · have c3 := HC3.out k hlt
      have c4 := HC4.out k hlt
      have hnm := name_c (wordB k) (Nat.le_trans (word_size k hlt) (by decide))
      rw [word_none k hlt] at hnm
      obtain ⟨U, hU⟩ : ∃ U, U = wordB k := ⟨_, rfl⟩
      rw [← hU] at c3 c4 hnm
      have HNM := hideP hnm
      have hkI : (k : Int) < 25 := by omega
      have x2 : (U.toList == U.toList) = true := by simp
      clear hnm hU
      go_wp2
      go_quiet ((go_at_call 15; exact (HNM.out _ (by exact HW3.out)).mono fun _ _ h => ⟨h.1, _, h.2⟩))
      go_wp2
      go_roundw
      case rel => exact ⟨k + 1, _, by omega, by go_num, rfl⟩
      case measure => simp [intOf]; omega
    · have x2 : (b == b) = true := by simp
      go_wp2_with fail
      refine (HN1.out _ (by exact HW3.out)).mono ?_
      rintro e w' ⟨rfl, rfl⟩
      go_wp2_with fail
      refine (HN2.out _).mono ?_
      rintro e w' ⟨rfl, hb5⟩
      have HF := hideP (below_next (below_drewN HB3.out n) hb5)
      clear hb5
      go_wp2
      go_ret
      exact ⟨rfl, HF.out⟩

set_option maxRecDepth 100000 in
theorem lexNames_lifted (os : Os) (started : os.Started) (H : Type) (enc : TypeId × Value → H) :
    ReturnsInHanded {} Tryd.checked os 4 .any (fun w args => (Rows.lexNamesSpec.pre enc Tryd.prog Tryd.f4 [] false w args ∧ laidMetH Tryd.prog laidL w) ∧ sizedMet enc Tryd.prog Tryd.f4 (OpenSpec.ofChange Rows.lexNamesSpec) false w args)
      (Rows.lexNamesSpec.post enc Tryd.prog Tryd.f4 false true false false) := by
  refine returnsInHanded_of_change_and (C := Tryd.checked) (X := fun w _ => laidMetH Tryd.prog laidL w) (fun _ _ _ hh h => h.of_heap hh) own started (by kernel_rfl) Tryd.func4
    (ChangeSpec.witness_shaped (enc := enc) (C := Tryd.checked) (os := os) (X := fun w _ => laidMetH Tryd.prog laidL w) false (World.doorLaid Tryd.prog 24 os) #[.string ByteArray.empty] 8 rfl (World.shaped_of_RefB (by kernel_rfl) (by kernel_rfl)) (by kernel_rfl) (by kernel_rfl) (by kernel_rfl) (door_met os _)) ?_
  intro W base args ds gs before hval0 hW _ hsz0 hL _
  have htab := tab_of_laid hL
  have hval : ∀ (j : Nat) t v, Tryd.f4.params[j]? = some t → args[j]? = some v → Value.okWide Tryd.prog W .any base t v := hval0
  have hW' := hW
  obtain ⟨p, q, hA0, hV, rfl, hfz, hnd⟩ := hW
  have hA : DataW.TrodAll enc Tryd.prog W 0 (fun _ => true) true Tryd.f4.params.toList args.toList ds p := hA0
  have hsz : (DataW.weightsEach Tryd.prog (Tryd.f4.params.toList ++ Rows.lexNamesSpec.plain.varTypes Tryd.prog) (ds ++ gs)).all (· ≤ reachBytes) = true := hsz0
  rw [Tryd.params4] at hA hval hsz
  obtain ⟨v0, vs0, d0, ds0, p0, q0, hargs, rfl, rfl, h0, r0⟩ := trodAll_cons hA
  obtain ⟨rfl, rfl, rfl⟩ := trodAll_nil r0
  obtain rfl : args = #[v0] := by cases args; simp_all
  obtain ⟨rfl, rfl⟩ := trodVars_none hV
  obtain ⟨a0, rfl, rfl, rfl, w0⟩ := open_string Tryd.underlying9 (hval 0 9 v0 rfl rfl) h0
  have s0 : a0.size ≤ 140737488351232 := string_reach (sized_string hsz (j := 0) (t := 9) rfl rfl)
  clear hA0 hval0
  refine (lexNames_walk a0 W htab s0).mono fun e W' ⟨he, bel⟩ => ?_
  subst he
  exact ⟨_, rfl, _, _, _, [], _, [], hW', trodAll_mk1 (shut_bool Tryd.underlying4 _), (trodAll_cons_mk (shut_string Tryd.underlying9 w0) trodAll_mk0), rfl, bel.frame _, fun h => by cases h⟩

theorem lexNames_over : Rows.LexNamesSaid :=
  OpenClaim.holds_of_wide 4 Tryd.f4 rfl rfl rfl rfl rfl rfl rfl ⟨rfl, rfl, rfl, rfl, rfl⟩ rfl rfl rfl rfl rfl (by kernel_rfl) Tryd.func4 (by kernel_rfl)
    (of_decide_eq_true (by kernel_rfl)) (by unfold Func.isWrapper; rw [if_neg (of_decide_eq_false (by kernel_rfl))]; exact ⟨rfl, rfl⟩)
    (fun os started H enc _ => lexNames_lifted os started H enc)

theorem lexNames_card : Rows.LexNamesCardSaid :=
  Claim7.holds_tied_plain_at .later [] [.data] true Rows.lexNamesCard.stood.harness false
    lexNames_over (fun _ h => by cases h) (by kernel_rfl) (fun _ h => by cases h) lexNames_row_tie rfl ⟨rfl, rfl⟩ (by kernel_rfl) (by kernel_rfl)
    (fun f fn hf hfn => by
      obtain rfl : f = 4 := Option.some.inj ((show Tryd.prog.funcNamed Rows.lexNamesRow.func = some 4 by kernel_rfl).symm.trans hf) |>.symm
      obtain rfl : fn = Tryd.f4 := (Option.some.inj (Tryd.func4.symm.trans hfn)).symm
      exact ⟨by kernel_rfl, fun j t ht => by
        rw [Tryd.params4] at ht
        have hm : t ∈ [9] := by simpa using Array.mem_of_getElem? ht
        have hall : ([9].all fun u => !Tryd.prog.wantsStandIn u) = true := by kernel_rfl
        exact (show Tryd.prog.wantsStandIn t = false by simpa using List.all_eq_true.1 hall t hm)⟩)
    (by kernel_rfl)
end Go.Proofs.YtgoppgopnhmhfaaDoor
