/- A number is read from any bytes as the document says: graduslaw01.WordGets returns true for every slice of bytes; the listed tables of Go's library read as its text lays them. -/
import Derived.Test.YtdlkkflenphkfabDoorLaid
import Derived.Test.YtdlkkflenphkfabDoorReads
import Derived.Test.YtdlkkflenphkfabDoorGetR
namespace Go.Proofs.YtdlkkflenphkfabDoor
open Go.ChangeShapes Go.WideShapes Go.ChangeAt Go.RowKit
open Go.ChangeMaps (open_string shut_string)

theorem getR_none (len cap : Nat) (a : Option Addr) (hlen : len = 0) (w : World) : Calls Tryd.prog 10 #[.slice a len cap] w fun e w' => e = .returned (gotten (getV [])) ∧ w' = w := by
  subst hlen
  go_enter Tryd.func10, Tryd.ntmps10
  go_wp2
  refine wp_loop_rounds 1 ?_
  rw [rounds_succ]
  go_wp2
  go_ret2
  exact ⟨rfl, rfl⟩

theorem wordGets_core (v : Value) (o : Option (Int × Nat)) (w : World) (htab : Tab w)
    (g1 : ∀ w', Below w.heap.size w w' → Calls Tryd.prog 9 #[v] w' fun e w'' => e = .returned (gotten o) ∧ w'' = w')
    (g2 : ∀ w', Below w.heap.size w w' → Calls Tryd.prog 10 #[v] w' fun e w'' => e = .returned (gotten o) ∧ w'' = w') :
    Calls Tryd.prog 3 #[v] w fun e w' => e = .returned (.bool true) ∧ Below w.heap.size w w' := by
  obtain ⟨n, k, hnk⟩ : ∃ n k, gotten o = .tuple #[.int .i64 n, .int .i64 k] := by
    cases o with
    | none => exact ⟨0, 0, rfl⟩
    | some p => exact ⟨_, _, rfl⟩
  rw [hnk] at g1 g2
  have HT := hideP htab
  have G1 := hideP g1
  have G2 := hideP g2
  clear htab g1 g2 hnk
  go_enter Tryd.func3, Tryd.ntmps3
  go_wp2_with fail
  refine (awake_c _ HT.out).mono ?_
  rintro e w1 ⟨rfl, hB⟩
  go_wp2_with fail
  refine (G1.out _ hB).mono ?_
  rintro e w' ⟨rfl, hw⟩
  subst hw
  go_wp2_with fail
  refine (G2.out _ hB).mono ?_
  rintro e w' ⟨rfl, hw⟩
  subst hw
  go_wp2
  go_ret
  exact ⟨rfl, hB⟩

theorem wordGets_walk (a : Option Addr) (len cap : Nat) (zs : List Int) (w : World) (htab : Tab w) (hrow : IsRow w a len cap zs) :
    Calls Tryd.prog 3 #[.slice a len cap] w fun e w' => e = .returned (.bool true) ∧ Below w.heap.size w w' := by
  rcases row_cells hrow with h0 | ⟨b, off, rfl, hb, hl, hby, hlen, hc⟩
  · exact wordGets_core _ _ w htab (fun w' _ => get_none len cap a h0 w') (fun w' _ => getR_none len cap a h0 w')
  · have hc' : ∀ w', Below w.heap.size w w' → ∀ i, i < len → w'.cell? ⟨b, off + i, none⟩ = some (.int .u8 ((zs.take len).getD i 0)) := fun w' hB i hi => (hB.cell (by exact hb)).trans (hc i hi)
    exact wordGets_core _ _ w htab (fun w' hB => get_c b off len cap _ hl hby hlen w' (hc' w' hB)) (fun w' hB => getR_c b off len cap _ hl hby hlen w' (hc' w' hB))

set_option maxRecDepth 100000 in
theorem wordGets_lifted (os : Os) (started : os.Started) (H : Type) (enc : TypeId × Value → H) :
    ReturnsInHanded {} Tryd.checked os 3 .any (fun w args => (Rows.wordGetsSpec.pre enc Tryd.prog Tryd.f3 [] false w args ∧ laidMetH Tryd.prog laidL w) ∧ sizedMet enc Tryd.prog Tryd.f3 (OpenSpec.ofChange Rows.wordGetsSpec) false w args)
      (Rows.wordGetsSpec.post enc Tryd.prog Tryd.f3 false true false false) := by
  refine returnsInHanded_of_change_and (C := Tryd.checked) (X := fun w _ => laidMetH Tryd.prog laidL w) (fun _ _ _ hh h => h.of_heap hh) own started (by kernel_rfl) Tryd.func3
    (ChangeSpec.witness_shaped (enc := enc) (C := Tryd.checked) (os := os) (X := fun w _ => laidMetH Tryd.prog laidL w) false (World.doorLaid Tryd.prog 24 os) #[.slice none 0 0] 8 rfl (World.shaped_of_RefB (by kernel_rfl) (by kernel_rfl)) (by kernel_rfl) (by kernel_rfl) (by kernel_rfl) (door_met os _)) ?_
  intro W base args ds gs before hval0 hW _ hsz0 hL _
  have htab := tab_of_laid hL
  have hval : ∀ (j : Nat) t v, Tryd.f3.params[j]? = some t → args[j]? = some v → Value.okWide Tryd.prog W .any base t v := hval0
  have hW' := hW
  obtain ⟨p, q, hA0, hV, rfl, hfz, hnd⟩ := hW
  have hA : DataW.TrodAll enc Tryd.prog W 0 (fun _ => true) true Tryd.f3.params.toList args.toList ds p := hA0
  have hsz : (DataW.weightsEach Tryd.prog (Tryd.f3.params.toList ++ Rows.wordGetsSpec.plain.varTypes Tryd.prog) (ds ++ gs)).all (· ≤ reachBytes) = true := hsz0
  rw [Tryd.params3] at hA hval hsz
  obtain ⟨v0, vs0, d0, ds0, p0, q0, hargs, rfl, rfl, h0, r0⟩ := trodAll_cons hA
  obtain ⟨rfl, rfl, rfl⟩ := trodAll_nil r0
  obtain rfl : args = #[v0] := by cases args; simp_all
  obtain ⟨rfl, rfl⟩ := trodVars_none hV
  obtain ⟨a0, len0, cap0, rfl⟩ := okWide_slice Tryd.underlying22 (hval 0 22 v0 rfl rfl)
  have k0 := h0
  have lt0 : ∀ x ∈ p0, x.block < W.heap.size := by obtain ⟨m, hm⟩ := k0; exact DataW.trod_lt m _ _ _ hm
  obtain ⟨z0, w0⟩ := row_of_trod h0 (fun es sp hd => by subst hd; exact sized_slice hsz (j := 0) (t := 22) (e := 5) rfl rfl Tryd.underlying22)
  clear hA0 hval0
  refine (wordGets_walk a0 len0 cap0 z0 W htab w0).mono fun e W' ⟨he, bel⟩ => ?_
  subst he
  exact ⟨_, rfl, _, _, _, [], _, [], hW', trodAll_mk1 (shut_bool Tryd.underlying4 _), (trodAll_cons_mk (Below.trod laidOut (by kernel_rfl) (of_decide_eq_true (by kernel_rfl)) k0 bel lt0) trodAll_mk0), rfl, bel.frame _, fun h => by cases h⟩

theorem wordGets_over : Rows.WordGetsSaid :=
  OpenClaim.holds_of_wide 3 Tryd.f3 rfl rfl rfl rfl rfl rfl rfl ⟨rfl, rfl, rfl, rfl, rfl⟩ rfl rfl rfl rfl rfl (by kernel_rfl) Tryd.func3 (by kernel_rfl)
    (of_decide_eq_true (by kernel_rfl)) (by unfold Func.isWrapper; rw [if_neg (of_decide_eq_false (by kernel_rfl))]; exact ⟨rfl, rfl⟩)
    (fun os started H enc _ => wordGets_lifted os started H enc)

theorem wordGets_card : Rows.WordGetsCardSaid :=
  Claim7.holds_tied_plain_at .later [] [.data, .data, .data] true Rows.wordGetsCard.stood.harness false
    wordGets_over (fun _ h => by cases h) (by kernel_rfl) (fun _ h => by cases h) wordGets_row_tie rfl ⟨rfl, rfl⟩ (by kernel_rfl) (by kernel_rfl)
    (fun f fn hf hfn => by
      obtain rfl : f = 3 := Option.some.inj ((show Tryd.prog.funcNamed Rows.wordGetsRow.func = some 3 by kernel_rfl).symm.trans hf) |>.symm
      obtain rfl : fn = Tryd.f3 := (Option.some.inj (Tryd.func3.symm.trans hfn)).symm
      exact ⟨by kernel_rfl, fun j t ht => by
        rw [Tryd.params3] at ht
        have hm : t ∈ [22] := by simpa using Array.mem_of_getElem? ht
        have hall : ([22].all fun u => !Tryd.prog.wantsStandIn u) = true := by kernel_rfl
        exact (show Tryd.prog.wantsStandIn t = false by simpa using List.all_eq_true.1 hall t hm)⟩)
    (by kernel_rfl)
end Go.Proofs.YtdlkkflenphkfabDoor
