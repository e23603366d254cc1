/- The tag of any type, and its member of any tag, are what the document says: graduslaw03.TypesTags returns true for every type and every tag. -/
import Derived.Test.YtmpcjcjacpjilaaDoorTyAw
import Derived.Test.YtmpcjcjacpjilaaDoorTySmF
import Derived.Test.YtmpcjcjacpjilaaDoorTyMb
import Derived.Test.YtmpcjcjacpjilaaDoorRefSame
import Derived.BigQuiet
import Derived.Deep.RegionWith
import Derived.RegionTactic
import Derived.Deep.Cut
import Derived.Deep.CutRange
import Derived.Deep.RegionHeld
import Derived.Test.YtmpcjcjacpjilaaDoorLaid3
namespace Go.Proofs.YtmpcjcjacpjilaaDoor
open Go.ChangeShapes Go.WideShapes Go.ChangeAt Go.RowKit
open Go.ChangeMaps (open_string shut_string)

theorem zTy_at (w : World) (n : Nat) : TyAt w false (n + 1) zTy (mkT 0 [] [] []) :=
  ⟨0, ⟨#[]⟩, none, 0, none, 0, [], [], rfl, rfl, by decide, by decide, by simp, ⟨Nat.le_refl _, by simp [reachBytes]⟩, ⟨Nat.le_refl _, by simp [reachBytes]⟩, .inl rfl, .inl rfl⟩

/-- The member of a tag, or none, and whether there is one. -/
def memV (D : Ty) (tag : Int) : Ty × Bool := match memberV D tag with
  | none => (mkT 0 [] [] [], false)
  | some E => (E, true)

theorem mb_one {w w' : World} {n : Nat} {D : Ty} {tag : Int} {e : Ending} (h : MbPost w (n + 1) D tag e w') : Below w.heap.size w w' ∧ ∃ (k : Int) (nm : ByteArray) (na : Option Addr) (nl nc : Nat) (ka : Option Addr) (kl kc : Nat), e = .returned (.tuple #[.agg #[.int .i64 k, .string nm, .slice na nl nc, .slice ka kl kc], .bool (memV D tag).2]) ∧
    TyAt w' false (n + 1) (.agg #[.int .i64 k, .string nm, .slice na nl nc, .slice ka kl kc]) (memV D tag).1 := by
  obtain ⟨hb, h⟩ := h
  refine ⟨hb, ?_⟩
  unfold memV
  rcases h with ⟨hn, rfl⟩ | ⟨E, k, nm, na, nl, nc, ka, kl, kc, hn, rfl, hF⟩
  · rw [hn]
    exact ⟨0, ⟨#[]⟩, none, 0, 0, none, 0, 0, rfl, zTy_at w' n⟩
  · rw [hn]
    exact ⟨k, nm, na, nl, nc, ka, kl, kc, rfl, ty_forget (tyF_at hF)⟩

theorem rb_one {w w' : World} {n : Nat} {D : Ty} {tag : Int} {e : Ending} (h : RbPost w (n + 1) D tag e w') : Below w.heap.size w w' ∧ ∃ (k : Int) (nm : ByteArray) (na : Option Addr) (nl nc : Nat) (ka : Option Addr) (kl kc : Nat), e = .returned (.tuple #[.agg #[.int .i64 k, .string nm, .slice na nl nc, .slice ka kl kc], .bool (memV D tag).2]) ∧
    TyAt w' false (n + 1) (.agg #[.int .i64 k, .string nm, .slice na nl nc, .slice ka kl kc]) (memV D tag).1 := by
  obtain ⟨hb, h⟩ := h
  refine ⟨hb, ?_⟩
  unfold memV
  rcases h with ⟨hn, rfl⟩ | ⟨E, k, nm, na, nl, nc, ka, kl, kc, hn, rfl, hF⟩
  · rw [hn]
    exact ⟨0, ⟨#[]⟩, none, 0, 0, none, 0, 0, rfl, zTy_at w' n⟩
  · rw [hn]
    exact ⟨k, nm, na, nl, nc, ka, kl, kc, rfl, hF⟩

set_option maxHeartbeats 8000000 in
set_option maxRecDepth 100000 in
theorem typesTags_walk (N : Nat) (D : Ty) (k : Int) (nm : ByteArray) (na : Option Addr) (nl nc : Nat) (ka : Option Addr) (kl kc : Nat) (tag : Int) (w : World) (hw : Words w ∧ Plain w)
    (h : TyAt w false N (.agg #[.int .i64 k, .string nm, .slice na nl nc, .slice ka kl kc]) D) (_ : (Lit.int .i64 tag).wf = true) :
    Calls Tryd.prog 3 #[.agg #[.int .i64 k, .string nm, .slice na nl nc, .slice ka kl kc], .int .i64 tag] w fun e w' => e = .returned (.bool true) ∧ Below w.heap.size w w' := by
  have HT := hideP h
  obtain ⟨N, rfl⟩ : ∃ m, N = m + 1 := by
    cases N with
    | zero => exact h.elim
    | succ m => exact ⟨m, rfl⟩
  have hb0 := bl_alloc w (tyO k nm na nl nc ka kl kc)
  have HBX : Hid ((w.alloc (tyO k nm na nl nc ka kl kc)).heap[w.heap.size]? = some (tyO k nm na nl nc ka kl kc)) := heap_alloc_last w _
  have HC1 := hideP (awake_c _ (hw.1.below hb0) (hw.2.below hb0))
  have HB0 := hideP hb0
  clear h hw hb0
  go_enter Tryd.func3, Tryd.ntmps3
  go_wp2_with fail
  refine HC1.out.mono ?_
  rintro e w1 ⟨rfl, hb1⟩
  have HB1 := hideP (below_next HB0.out hb1)
  have HBX1 := hideP ((hb1.block _ (lt_of_block HBX.out)).trans HBX.out)
  obtain ⟨⟨x0, x1, x2, x3⟩, _, hltx⟩ := res_facts HBX1.out
  have HC2 := hideP (small_f (N + 1) _ D _ 2000 (ty_below HT.out HB1.out) (by decide) (by decide))
  clear hb1
  go_wp2_with fail
  refine HC2.out.mono ?_
  rintro e w2 ⟨⟨r, rfl, hr0, hr1, hr2⟩, hb2⟩
  have HB2 := hideP (below_next HB1.out hb2)
  have HBX2 := hideP ((hb2.block _ (lt_of_block HBX1.out)).trans HBX1.out)
  have HR := hideP hr2
  clear x0 x1 x2 x3 hltx hb2 hr2
  obtain ⟨⟨x0, x1, x2, x3⟩, _, hltx⟩ := res_facts HBX2.out
  by_cases hr : r = 0
  · subst hr
    go_wp2_with fail
    go_ret
    exact ⟨rfl, HB2.out⟩
  have hre : (r == 0) = false := by rw [beq_eq_false_iff_ne]; exact hr
  have HFW := hideP (HR.out (by omega))
  have HC3 := hideP (member_c (N + 1) _ D w2 tag (ty_below HT.out HB2.out) HFW.out)
  clear hr
  go_wp2_with fail
  refine HC3.out.mono ?_
  intro e w3 hpost
  obtain ⟨hb3, g1, g2, g3, g4, g5, g6, g7, g8, rfl, hM3⟩ := mb_one hpost
  have HB3 := hideP (below_next HB2.out hb3)
  have HBX3 := hideP ((hb3.block _ (lt_of_block HBX2.out)).trans HBX2.out)
  obtain ⟨E, hE⟩ : ∃ E, E = (memV D tag).1 := ⟨_, rfl⟩
  obtain ⟨f, hf⟩ : ∃ f, f = (memV D tag).2 := ⟨_, rfl⟩
  rw [← hE] at hM3
  rw [← hf]
  have HE := hideP hE
  have HF := hideP hf
  have HM3 := hideP hM3
  clear hb3 hpost hM3 hE hf x0 x1 x2 x3 hltx
  obtain ⟨⟨x0, x1, x2, x3⟩, _, hltx⟩ := res_facts HBX3.out
  have hb4 := bl_alloc w3 (tyO g1 g2 g3 g4 g5 g6 g7 g8)
  have HC4 := hideP (rmember_c (N + 1) _ D _ tag (ty_below HT.out (below_next HB3.out hb4)))
  have HB4 := hideP hb4
  have HMX : Hid ((w3.alloc (tyO g1 g2 g3 g4 g5 g6 g7 g8)).heap[w3.heap.size]? = some (tyO g1 g2 g3 g4 g5 g6 g7 g8)) := heap_alloc_last w3 _
  clear hb4
  go_wp2_with fail
  refine HC4.out.mono ?_
  intro e w5 hpost
  obtain ⟨hb5, d1, d2, d3, d4, d5, d6, d7, d8, rfl, hM5⟩ := rb_one hpost
  rw [← HE.out] at hM5
  rw [← HF.out]
  have HB5 := hideP (below_next HB4.out hb5)
  have HMX5 := hideP ((hb5.block _ (lt_of_block HMX.out)).trans HMX.out)
  have HBX5 := hideP ((HB5.out.block _ (lt_of_block HBX3.out)).trans HBX3.out)
  have hb6 := bl_alloc w5 (tyO d1 d2 d3 d4 d5 d6 d7 d8)
  have HC6 := hideP (rsame_c (N + 1) _ _ E E _ (ty_below HM3.out (below_next HB5.out hb6)) (ty_below hM5 hb6))
  have HBX6 := hideP ((hb6.block _ (lt_of_block HBX5.out)).trans HBX5.out)
  have HB6 := hideP (below_next HB5.out hb6)
  clear hb5 hpost hM5 hb6 x0 x1 x2 x3 hltx
  obtain ⟨⟨x0, x1, x2, x3⟩, _, hltx⟩ := res_facts HMX5.out
  go_wp2_with fail
  refine HC6.out.mono ?_
  rintro e w7 ⟨⟨rr, rfl, hrr⟩, hb7⟩
  obtain rfl : rr = true := hrr.2 rfl
  have HB7 := hideP (below_next HB6.out hb7)
  have HBX7 := hideP ((hb7.block _ (lt_of_block HBX6.out)).trans HBX6.out)
  have HBW := hideP (below_next HB3.out HB7.out)
  clear hb7 hrr x0 x1 x2 x3 hltx
  obtain ⟨⟨x0, x1, x2, x3⟩, _, hltx⟩ := res_facts HBX7.out
  go_wp2_with fail
  have HC8 : Hid (∀ wx, Below w7.heap.size w7 wx → Calls Tryd.prog 12 #[.agg #[.int .i64 k, .string nm, .slice na nl nc, .slice ka kl kc]] wx fun e w' => e = .returned (.int .i64 (tagV k)) ∧ Below w7.heap.size w7 w') := fun wx hwx => (tag_c k nm na nl nc ka kl kc wx).mono fun e w' ⟨e1, e2⟩ => ⟨e1, by rw [e2]; exact below_next hwx (bl_alloc _ _)⟩
  have HC9 : Hid (∀ wx, Below w7.heap.size w7 wx → Calls Tryd.prog 13 #[.agg #[.int .i64 k, .string nm, .slice na nl nc, .slice ka kl kc]] wx fun e w' => e = .returned (.int .i64 (tagV k)) ∧ Below w7.heap.size w7 w') := fun wx hwx => (rtag_c k nm na nl nc ka kl kc wx).mono fun e w' ⟨e1, e2⟩ => ⟨e1, by rw [e2]; exact below_next hwx (bl_alloc _ _)⟩
  have HCELL : Hid (∀ wx, Below w7.heap.size w7 wx → (wx.cell? ⟨w.heap.size, 0, none⟩ = some (.int .i64 k) ∧ wx.cell? ⟨w.heap.size, 1, none⟩ = some (.string nm) ∧ wx.cell? ⟨w.heap.size, 2, none⟩ = some (.slice na nl nc) ∧ wx.cell? ⟨w.heap.size, 3, none⟩ = some (.slice ka kl kc)) ∧ w.heap.size < wx.heap.size) := fun wx hwx => by
    have h := (hwx.block _ (lt_of_block HBX7.out)).trans HBX7.out
    exact ⟨(res_facts h).1, lt_of_block h⟩
  have et : (tagV k == tagV k) = true := by simp
  have ef : (f == f) = true := by simp
  have hS0 : w7.drew.cell? ⟨w.heap.size, 0, none⟩ = some (.int .i64 k) ∧ w7.drew.cell? ⟨w.heap.size, 1, none⟩ = some (.string nm) ∧ w7.drew.cell? ⟨w.heap.size, 2, none⟩ = some (.slice na nl nc) ∧ w7.drew.cell? ⟨w.heap.size, 3, none⟩ = some (.slice ka kl kc) := ⟨x0, x1, x2, x3⟩
  go_region_held (fun W => W.cell? ⟨w.heap.size, 0, none⟩ = some (.int .i64 k) ∧ W.cell? ⟨w.heap.size, 1, none⟩ = some (.string nm) ∧ W.cell? ⟨w.heap.size, 2, none⟩ = some (.slice na nl nc) ∧ W.cell? ⟨w.heap.size, 3, none⟩ = some (.slice ka kl kc)) (assumption) (first
      | (go_at_call 12; refine (HC8.out _ (by first | exact Below.refl _ _ | exact below_drewN (Below.refl _ _) _ | exact (Below.refl _ _).drew)).mono ?_; rintro e w8 ⟨rfl, hb8⟩; have t0 := (HCELL.out _ hb8).1; have HB8 := hideP hb8; clear hb8)
      | (go_at_call 13; refine (HC9.out _ (by first | exact HB8.out | exact below_drewN HB8.out _ | exact HB8.out.drew)).mono ?_; rintro e w9 ⟨rfl, hb9⟩; have t9 := (HCELL.out _ hb9).1; have HB9 := hideP hb9; clear hb9))
  all_goals go_wp2_with fail
  all_goals go_ret
  all_goals exact ⟨rfl, below_next HBW.out HB9.out⟩

set_option maxRecDepth 100000 in
theorem typesTags_lifted (os : Os) (started : os.Started) (H : Type) (enc : TypeId × Value → H) :
    ReturnsInHanded {} Tryd.checked os 3 .any (fun w args => (Rows.typesTagsSpec.pre enc Tryd.prog Tryd.f3 [] false w args ∧ laidMetH Tryd.prog laidL w) ∧ sizedMet enc Tryd.prog Tryd.f3 (OpenSpec.ofChange Rows.typesTagsSpec) false w args)
      (Rows.typesTagsSpec.post enc Tryd.prog Tryd.f3 false true false false) := by
  refine returnsInHanded_of_change_and (C := Tryd.checked) (X := fun w _ => laidMetH Tryd.prog laidL w) (fun _ _ _ hh h => h.of_heap hh) own started (by kernel_rfl) Tryd.func3
    (ChangeSpec.witness_shaped (enc := enc) (C := Tryd.checked) (os := os) (X := fun w _ => laidMetH Tryd.prog laidL w) false (World.doorLaid Tryd.prog 150 os) #[.agg #[.int .i64 0, .string ByteArray.empty, .slice none 0 0, .slice none 0 0], .int .i64 0] 8 rfl (World.shaped_of_RefB (by kernel_rfl) (by kernel_rfl)) (by kernel_rfl) (by kernel_rfl) (by kernel_rfl) (door_met os _)) ?_
  intro W base args ds gs before hval0 hW _ hsz0 hL _
  have htab := tab_of_laid hL
  have hval : ∀ (j : Nat) t v, Tryd.f3.params[j]? = some t → args[j]? = some v → Value.okWide Tryd.prog W .any base t v := hval0
  have hW' := hW
  obtain ⟨p, q, hA0, hV, rfl, hfz, hnd⟩ := hW
  have hA : DataW.TrodAll enc Tryd.prog W 0 (fun _ => true) true Tryd.f3.params.toList args.toList ds p := hA0
  have hsz : (DataW.weightsEach Tryd.prog (Tryd.f3.params.toList ++ Rows.typesTagsSpec.plain.varTypes Tryd.prog) (ds ++ gs)).all (· ≤ reachBytes) = true := hsz0
  rw [Tryd.params3] at hA hval hsz
  obtain ⟨v0, vs0, d0, ds0, p0, q0, hargs, rfl, rfl, h0, r0⟩ := trodAll_cons hA
  obtain ⟨v1, vs1, d1, ds1, p1, q1, rfl, rfl, rfl, h1, r1⟩ := trodAll_cons r0
  obtain ⟨rfl, rfl, rfl⟩ := trodAll_nil r1
  obtain rfl : args = #[v0, v1] := by cases args; simp_all
  obtain ⟨rfl, rfl⟩ := trodVars_none hV
  obtain ⟨cs0, rfl, _⟩ := okWide_struct Tryd.underlying25 (hval 0 25 v0 rfl rfl)
  have k0 := h0
  have lt0 : ∀ x ∈ p0, x.block < W.heap.size := by obtain ⟨m, hm⟩ := k0; exact DataW.trod_lt m _ _ _ hm
  obtain ⟨N0, D0, T0⟩ : ∃ N D, TyAt W false N (.agg cs0) D := by
    obtain ⟨m, hm⟩ := k0
    obtain ⟨D, hD⟩ := ty_of_trod tyRow m hm (fun x hx => of_decide_eq_true (List.all_eq_true.1 hsz x (DataW.weights_mem_each (j := 0) (t := 25) rfl rfl x hx))) (fun b off hm => hfz b off (by simp [hm]))
    exact ⟨m, D, by simpa [Value.cells] using hD⟩
  obtain ⟨a0k, a0n, a0na, a0nl, a0nc, a0ka, a0kl, a0kc, e0, _⟩ := ty_form T0
  injection e0 with e0
  subst e0
  obtain ⟨a1, rfl, rfl, rfl, w1⟩ := open_int Tryd.underlying3 (hval 1 3 v1 rfl rfl) h1
  clear hA0 hval0
  refine (typesTags_walk N0 D0 a0k a0n a0na a0nl a0nc a0ka a0kl a0kc a1 W htab T0 w1).mono fun e W' ⟨he, bel⟩ => ?_
  subst he
  exact ⟨_, rfl, _, _, _, [], _, [], hW', trodAll_mk1 (shut_bool Tryd.underlying4 _), (trodAll_cons_mk (Below.trod laidOut (by kernel_rfl) (of_decide_eq_true (by kernel_rfl)) k0 bel lt0) (trodAll_cons_mk (shut_int Tryd.underlying3 w1) trodAll_mk0)), rfl, bel.frame _, fun h => by cases h⟩

theorem typesTags_over : Rows.TypesTagsSaid :=
  OpenClaim.holds_of_wide 3 Tryd.f3 rfl rfl rfl rfl rfl rfl rfl ⟨rfl, rfl, rfl, rfl, rfl⟩ rfl rfl rfl rfl rfl (by kernel_rfl) Tryd.func3 (by kernel_rfl)
    (of_decide_eq_true (by kernel_rfl)) (by unfold Func.isWrapper; rw [if_neg (of_decide_eq_false (by kernel_rfl))]; exact ⟨rfl, rfl⟩)
    (fun os started H enc _ => typesTags_lifted os started H enc)

theorem typesTags_card : Rows.TypesTagsCardSaid :=
  Claim7.holds_tied_plain_at .later [] [.data, .data] true Rows.typesTagsCard.stood.harness false
    typesTags_over (fun _ h => by cases h) (by kernel_rfl) (fun _ h => by cases h) typesTags_row_tie rfl ⟨rfl, rfl⟩ (by kernel_rfl) (by kernel_rfl)
    (fun f fn hf hfn => by
      obtain rfl : f = 3 := Option.some.inj ((show Tryd.prog.funcNamed Rows.typesTagsRow.func = some 3 by kernel_rfl).symm.trans hf) |>.symm
      obtain rfl : fn = Tryd.f3 := (Option.some.inj (Tryd.func3.symm.trans hfn)).symm
      exact ⟨by kernel_rfl, fun j t ht => by
        rw [Tryd.params3] at ht
        have hm : t ∈ [25, 3] := by simpa using Array.mem_of_getElem? ht
        have hall : ([25, 3].all fun u => !Tryd.prog.wantsStandIn u) = true := by kernel_rfl
        exact (show Tryd.prog.wantsStandIn t = false by simpa using List.all_eq_true.1 hall t hm)⟩)
    (by kernel_rfl)
end Go.Proofs.YtmpcjcjacpjilaaDoor
