/- Any text has the tokens, each with its place, or the fault, that the document says: graduslaw02.LexTokens returns true for every text; the package's table of words reads as its text lays it. -/
import Derived.Test.YtgoppgopnhmhfaaDoorLaidL
import Derived.Test.YtgoppgopnhmhfaaDoorLexR
import Derived.Test.YtgoppgopnhmhfaaDoorChainV
import Derived.Test.YtgoppgopnhmhfaaDoorTokAt
import Derived.BigQuiet
namespace Go.Proofs.YtgoppgopnhmhfaaDoor
open Go.ChangeShapes Go.WideShapes Go.ChangeAt Go.RowKit
open Go.ChangeMaps (open_string shut_string)

set_option maxRecDepth 100000 in
theorem tokens_none (w : World) : Calls Tryd.prog 12 #[.slice none 0 0, .slice none 0 0] w fun e w' => e = .returned (.bool true) ∧ w' = w := by
  go_enter Tryd.func12, Tryd.ntmps12
  go_wp2
  go_loop [5] (fun i => i = .int .i64 0) (fun _ => 0)
  case atStart => rfl
  case round =>
    subst hrel
    go_wp2
    go_ret
    exact ⟨rfl, rfl⟩

set_option maxHeartbeats 4000000 in
set_option maxRecDepth 100000 in
theorem tokens_same (ts : List Tok) (hl : ts.length ≤ 70001) (w : World) (g1 c1 g2 c2 : Nat) (h1 : ToksAt w g1 ts) (h2 : ToksAt w g2 ts) :
    Calls Tryd.prog 12 #[.slice (some ⟨g1, 0, none⟩) ts.length c1, .slice (some ⟨g2, 0, none⟩) ts.length c2] w fun e w' => e = .returned (.bool true) ∧ ∃ n, w' = w.drewN n := by
  have H1 := hideP h1
  have H2 := hideP h2
  clear h1 h2
  go_enter Tryd.func12, Tryd.ntmps12
  go_wp2
  go_loopw [5] (fun i wr => ∃ (j n : Nat), j ≤ ts.length ∧ i = .int .i64 j ∧ wr = w.drewN n) (fun i _ => ts.length - (intOf i).toNat)
  case atStart => exact ⟨0, 0, Nat.zero_le _, rfl, rfl⟩
  case round =>
    obtain ⟨j, n, hj, rfl, rfl⟩ := hrel
    by_cases hlt : j < ts.length
    · obtain ⟨a0, a1, a2, a3⟩ := H1.out j hlt
      obtain ⟨b0, b1, b2, b3⟩ := H2.out j hlt
      obtain ⟨kd, hkd⟩ : ∃ kd, kd = ts[j].kind := ⟨_, rfl⟩
      obtain ⟨U, hU⟩ : ∃ U : ByteArray, U = ⟨ts[j].text.toArray⟩ := ⟨_, rfl⟩
      obtain ⟨L2, hL2⟩ : ∃ L2, L2 = ts[j].line := ⟨_, rfl⟩
      obtain ⟨C2, hC2⟩ : ∃ C2, C2 = ts[j].col := ⟨_, rfl⟩
      rw [← hkd] at a0 b0
      rw [← hU] at a1 b1
      rw [← hL2] at a2 b2
      rw [← hC2] at a3 b3
      have i1 : (j : Int) < (ts.length : Int) := by omega
      have x2 : (U.toList == U.toList) = true := by simp
      clear hkd hU hL2 hC2
      go_wp2
      go_quiet (fail)
      go_wp2
      go_roundw
      case rel => exact ⟨j + 1, _, by omega, by go_num, rfl⟩
      case measure => simp [intOf]; omega
    · go_wp2
      go_ret
      exact ⟨rfl, n, rfl⟩

theorem dg_cells (w : World) (li co e : Int) : (w.alloc (dgO li co e)).cell? ⟨w.heap.size, 0, none⟩ = some (.int .i64 0) ∧ (w.alloc (dgO li co e)).cell? ⟨w.heap.size, 1, none⟩ = some (.int .i64 li) ∧
    (w.alloc (dgO li co e)).cell? ⟨w.heap.size, 2, none⟩ = some (.int .i64 co) ∧ (w.alloc (dgO li co e)).cell? ⟨w.heap.size, 3, none⟩ = some (.int .i64 e) := by
  unfold dgO
  refine ⟨?_, ?_, ?_, ?_⟩
  · rw [cell_of_row _ _ 0 _ 26 (0, 0) (heap_alloc_last w _)]; rfl
  · rw [cell_of_row _ _ 1 _ 26 (0, 0) (heap_alloc_last w _)]; rfl
  · rw [cell_of_row _ _ 2 _ 26 (0, 0) (heap_alloc_last w _)]; rfl
  · rw [cell_of_row _ _ 3 _ 26 (0, 0) (heap_alloc_last w _)]; rfl

theorem cells_below {w w' : World} {b : Nat} {x0 x1 x2 x3 : Value} (h : w.cell? ⟨b, 0, none⟩ = some x0 ∧ w.cell? ⟨b, 1, none⟩ = some x1 ∧ w.cell? ⟨b, 2, none⟩ = some x2 ∧ w.cell? ⟨b, 3, none⟩ = some x3) (hb : Below w.heap.size w w') (hl : b < w.heap.size) :
    w'.cell? ⟨b, 0, none⟩ = some x0 ∧ w'.cell? ⟨b, 1, none⟩ = some x1 ∧ w'.cell? ⟨b, 2, none⟩ = some x2 ∧ w'.cell? ⟨b, 3, none⟩ = some x3 :=
  ⟨(hb.cell (p := ⟨b, 0, none⟩) hl).trans h.1, (hb.cell (p := ⟨b, 1, none⟩) hl).trans h.2.1, (hb.cell (p := ⟨b, 2, none⟩) hl).trans h.2.2.1, (hb.cell (p := ⟨b, 3, none⟩) hl).trans h.2.2.2⟩

theorem below_drewN {B : Nat} {a w : World} (h : Below B a w) (n : Nat) : Below B a (w.drewN n) := ⟨h.os, h.tape, h.output, h.size, h.block⟩

set_option maxHeartbeats 8000000 in
set_option maxRecDepth 100000 in
theorem lexTokens_walk (S : ByteArray) (w : World) (htab : Words w) (hS : S.size ≤ 140737488351232) :
    Calls Tryd.prog 3 #[.string S] w fun e w' => e = .returned (.bool true) ∧ Below w.heap.size w w' := by
  have HT := hideP htab
  clear htab
  by_cases hbig : 70000 < S.size
  · go_enter Tryd.func3, Tryd.ntmps3
    go_wp2_with fail
    refine (awake_c _ HT.out).mono ?_
    rintro e w1 ⟨rfl, hB⟩
    have HB := hideP hB
    clear hB
    go_wp2
    go_ret
    exact ⟨rfl, HB.out⟩
  have hla := lex_c S hS
  have hlr := lexR_c S hS
  cases hR : lexV S.data.toList with
  | inr q =>
    obtain ⟨x, li, co⟩ := q
    rw [hR] at hla hlr
    have HLA := hideP hla
    have HLR := hideP hlr
    clear hla hlr hR
    go_enter Tryd.func3, Tryd.ntmps3
    go_wp2_with fail
    refine (awake_c _ HT.out).mono ?_
    rintro e w1 ⟨rfl, hB⟩
    have HB := hideP hB
    clear hB
    go_wp2_with fail
    refine (HLA.out _ (HT.out.below HB.out)).mono ?_
    intro e w2 hp
    obtain ⟨rfl, hb2⟩ := lexP_bad hp
    have HB2 := hideP (below_next (below_next HB.out hb2) (bl_alloc w2 (dgO li co x)))
    have HD2 := hideP (dg_cells w2 li co x)
    unfold dgO at HB2 HD2
    clear hp hb2
    go_wp2_with fail
    refine (HLR.out _).mono ?_
    intro e w3 hp
    obtain ⟨rfl, hb3⟩ := lexP_bad hp
    have X := below_next hb3 (bl_alloc w3 (dgO li co x))
    have HB3 := hideP (below_next HB2.out X)
    have hd1 := cells_below HD2.out X (by simp)
    have hd2 := dg_cells w3 li co x
    unfold dgO at HB3 hd1 hd2
    obtain ⟨a0, a1, a2, a3⟩ := hd1
    obtain ⟨b0, b1, b2, b3⟩ := hd2
    clear hp hb3 X HD2
    go_wp2_with fail
    refine (tokens_none _).mono ?_
    rintro e w' ⟨rfl, rfl⟩
    go_wp2
    go_ret
    exact ⟨rfl, HB3.out⟩
  | inl ts =>
    obtain ⟨hch, _, hlen⟩ := chain_of_lex hR
    have hcl := chain_len hch
    rw [byteArray_len] at hcl
    rw [hR] at hla hlr
    have HLA := hideP hla
    have HLR := hideP hlr
    clear hla hlr hR hch
    go_enter Tryd.func3, Tryd.ntmps3
    go_wp2_with fail
    refine (awake_c _ HT.out).mono ?_
    rintro e w1 ⟨rfl, hB⟩
    have HB := hideP hB
    clear hB
    go_wp2_with fail
    refine (HLA.out _ (HT.out.below HB.out)).mono ?_
    intro e w2 hp
    obtain ⟨g, cap, rfl, ho, hb2⟩ := lexP_toks hp
    have hgl := tok_lt ho (by omega)
    have HTA := hideP ((toksAt ho).below (bl_alloc w2 (dgO 0 0 0)) hgl)
    have HB2 := hideP (below_next (below_next HB.out hb2) (bl_alloc w2 (dgO 0 0 0)))
    have HD2 := hideP (dg_cells w2 0 0 0)
    have hgl2 : g < (w2.alloc (dgO 0 0 0)).heap.size := by simp; omega
    unfold dgO at HB2 HD2 HTA hgl2
    clear hp hb2 ho hgl
    go_wp2_with fail
    refine (HLR.out _).mono ?_
    intro e w3 hp
    obtain ⟨g2, cap2, rfl, ho2, hb3⟩ := lexP_toks hp
    have X := below_next hb3 (bl_alloc w3 (dgO 0 0 0))
    have HTA3 := hideP (HTA.out.below X hgl2)
    have HTB3 := hideP ((toksAt ho2).below (bl_alloc w3 (dgO 0 0 0)) (tok_lt ho2 (by omega)))
    have HB3 := hideP (below_next HB2.out X)
    have hd1 := cells_below HD2.out X (by simp)
    have hd2 := dg_cells w3 0 0 0
    unfold dgO at HB3 hd1 hd2 HTA3 HTB3
    obtain ⟨a0, a1, a2, a3⟩ := hd1
    obtain ⟨b0, b1, b2, b3⟩ := hd2
    clear hp hb3 X HD2 ho2 HTA
    go_wp2_with fail
    refine (tokens_same ts (by omega) _ g cap g2 cap2 HTA3.out HTB3.out).mono ?_
    rintro e w' ⟨rfl, n, rfl⟩
    go_wp2
    go_ret
    exact ⟨rfl, below_drewN HB3.out n⟩

set_option maxRecDepth 100000 in
theorem lexTokens_lifted (os : Os) (started : os.Started) (H : Type) (enc : TypeId × Value → H) :
    ReturnsInHanded {} Tryd.checked os 3 .any (fun w args => (Rows.lexTokensSpec.pre enc Tryd.prog Tryd.f3 [] false w args ∧ laidMetH Tryd.prog laidL w) ∧ sizedMet enc Tryd.prog Tryd.f3 (OpenSpec.ofChange Rows.lexTokensSpec) false w args)
      (Rows.lexTokensSpec.post enc Tryd.prog Tryd.f3 false true false false) := by
  refine returnsInHanded_of_change_and (C := Tryd.checked) (X := fun w _ => laidMetH Tryd.prog laidL w) (fun _ _ _ hh h => h.of_heap hh) own started (by kernel_rfl) Tryd.func3
    (ChangeSpec.witness_shaped (enc := enc) (C := Tryd.checked) (os := os) (X := fun w _ => laidMetH Tryd.prog laidL w) false (World.doorLaid Tryd.prog 24 os) #[.string ByteArray.empty] 8 rfl (World.shaped_of_RefB (by kernel_rfl) (by kernel_rfl)) (by kernel_rfl) (by kernel_rfl) (by kernel_rfl) (door_met os _)) ?_
  intro W base args ds gs before hval0 hW _ hsz0 hL _
  have htab := tab_of_laid hL
  have hval : ∀ (j : Nat) t v, Tryd.f3.params[j]? = some t → args[j]? = some v → Value.okWide Tryd.prog W .any base t v := hval0
  have hW' := hW
  obtain ⟨p, q, hA0, hV, rfl, hfz, hnd⟩ := hW
  have hA : DataW.TrodAll enc Tryd.prog W 0 (fun _ => true) true Tryd.f3.params.toList args.toList ds p := hA0
  have hsz : (DataW.weightsEach Tryd.prog (Tryd.f3.params.toList ++ Rows.lexTokensSpec.plain.varTypes Tryd.prog) (ds ++ gs)).all (· ≤ reachBytes) = true := hsz0
  rw [Tryd.params3] at hA hval hsz
  obtain ⟨v0, vs0, d0, ds0, p0, q0, hargs, rfl, rfl, h0, r0⟩ := trodAll_cons hA
  obtain ⟨rfl, rfl, rfl⟩ := trodAll_nil r0
  obtain rfl : args = #[v0] := by cases args; simp_all
  obtain ⟨rfl, rfl⟩ := trodVars_none hV
  obtain ⟨a0, rfl, rfl, rfl, w0⟩ := open_string Tryd.underlying9 (hval 0 9 v0 rfl rfl) h0
  have s0 : a0.size ≤ 140737488351232 := string_reach (sized_string hsz (j := 0) (t := 9) rfl rfl)
  clear hA0 hval0
  refine (lexTokens_walk a0 W htab s0).mono fun e W' ⟨he, bel⟩ => ?_
  subst he
  exact ⟨_, rfl, _, _, _, [], _, [], hW', trodAll_mk1 (shut_bool Tryd.underlying4 _), (trodAll_cons_mk (shut_string Tryd.underlying9 w0) trodAll_mk0), rfl, bel.frame _, fun h => by cases h⟩

theorem lexTokens_over : Rows.LexTokensSaid :=
  OpenClaim.holds_of_wide 3 Tryd.f3 rfl rfl rfl rfl rfl rfl rfl ⟨rfl, rfl, rfl, rfl, rfl⟩ rfl rfl rfl rfl rfl (by kernel_rfl) Tryd.func3 (by kernel_rfl)
    (of_decide_eq_true (by kernel_rfl)) (by unfold Func.isWrapper; rw [if_neg (of_decide_eq_false (by kernel_rfl))]; exact ⟨rfl, rfl⟩)
    (fun os started H enc _ => lexTokens_lifted os started H enc)

theorem lexTokens_card : Rows.LexTokensCardSaid :=
  Claim7.holds_tied_plain_at .later [] [.data] true Rows.lexTokensCard.stood.harness false
    lexTokens_over (fun _ h => by cases h) (by kernel_rfl) (fun _ h => by cases h) lexTokens_row_tie rfl ⟨rfl, rfl⟩ (by kernel_rfl) (by kernel_rfl)
    (fun f fn hf hfn => by
      obtain rfl : f = 3 := Option.some.inj ((show Tryd.prog.funcNamed Rows.lexTokensRow.func = some 3 by kernel_rfl).symm.trans hf) |>.symm
      obtain rfl : fn = Tryd.f3 := (Option.some.inj (Tryd.func3.symm.trans hfn)).symm
      exact ⟨by kernel_rfl, fun j t ht => by
        rw [Tryd.params3] at ht
        have hm : t ∈ [9] := by simpa using Array.mem_of_getElem? ht
        have hall : ([9].all fun u => !Tryd.prog.wantsStandIn u) = true := by kernel_rfl
        exact (show Tryd.prog.wantsStandIn t = false by simpa using List.all_eq_true.1 hall t hm)⟩)
    (by kernel_rfl)
end Go.Proofs.YtgoppgopnhmhfaaDoor
