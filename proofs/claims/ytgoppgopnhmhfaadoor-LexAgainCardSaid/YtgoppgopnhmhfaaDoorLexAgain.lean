/- A text's tokens, written one behind the other with blanks between, are the same tokens, but for their places: graduslaw02.LexAgain returns true for every text; the package's table of words reads as its text lays it. -/
import Derived.Test.YtgoppgopnhmhfaaDoorLaidL
import Derived.Test.YtgoppgopnhmhfaaDoorAgainV
import Derived.Test.YtgoppgopnhmhfaaDoorQuoteR
import Derived.Test.YtgoppgopnhmhfaaDoorTokAt
namespace Go.Proofs.YtgoppgopnhmhfaaDoor
open Go.ChangeShapes Go.WideShapes Go.ChangeAt Go.RowKit
open Go.ChangeMaps (open_string shut_string)

theorem writeAll_take {ts : List Tok} {j : Nat} (hj : j < ts.length) : writeAll (ts.take (j + 1)) = writeAll (ts.take j) ++ 32 :: writeV ts[j].kind ts[j].text := by
  rw [List.take_succ_eq_append_getElem hj]
  unfold writeAll
  rw [List.flatMap_append, List.flatMap_cons, List.flatMap_nil, List.append_nil]

theorem writeAll_take_le (ts : List Tok) (j : Nat) : (writeAll (ts.take j)).length ≤ (writeAll ts).length := by
  have e : writeAll ts = writeAll (ts.take j) ++ writeAll (ts.drop j) := by
    unfold writeAll
    rw [← List.flatMap_append, List.take_append_drop]
  rw [e, List.length_append]
  omega

theorem writeV_le (k : Int) (t : List UInt8) : t.length ≤ (writeV k t).length := by
  unfold writeV
  split
  · unfold quoteV
    have : t.length ≤ (t.flatMap escV).length := by
      induction t with
      | nil => simp
      | cons b r ih =>
        have h1 : 1 ≤ (escV b).length := by
          unfold escV
          repeat' split
          all_goals simp
        rw [List.flatMap_cons, List.length_append, List.length_cons]
        omega
    rw [List.length_cons, List.length_append]
    omega
  · exact Nat.le_refl _

theorem kt_at {xs ys : List Tok} (h : ys.map Tok.kt = xs.map Tok.kt) (j : Nat) (hj : j < xs.length) (hj2 : j < ys.length) : ys[j].kind = xs[j].kind ∧ ys[j].text = xs[j].text := by
  have h1 := congrArg (·[j]?) h
  simp only [List.getElem?_map, List.getElem?_eq_getElem hj, List.getElem?_eq_getElem hj2, Option.map_some, Option.some.injEq] at h1
  simp only [Tok.kt, Prod.mk.injEq] at h1
  exact h1

theorem below_none {w w1 : World} (h : w.grownBy w1 none) : Below w.heap.size w w1 := ⟨h.os, h.tape, h.output, h.size, fun k hk => h.block k hk (by simp)⟩
theorem below_drewN {B : Nat} {a w : World} (h : Below B a w) (n : Nat) : Below B a (w.drewN n) := ⟨h.os, h.tape, h.output, h.size, h.block⟩

set_option maxHeartbeats 8000000 in
set_option maxRecDepth 100000 in
theorem lexAgain_walk (S : ByteArray) (w : World) (htab : Words w) (hS : S.size ≤ 140737488351232) :
    Calls Tryd.prog 8 #[.string S] w fun e w' => e = .returned (.bool true) ∧ Below w.heap.size w w' := by
  have HT := hideP htab
  clear htab
  by_cases hbig : 3000 < S.size
  · go_enter Tryd.func8, Tryd.ntmps8
    go_wp2_with fail
    refine (awake_c _ HT.out).mono ?_
    rintro e w1 ⟨rfl, hB⟩
    have HB := hideP hB
    clear hB
    go_wp2
    go_ret
    exact ⟨rfl, HB.out⟩
  have hlex := lex_c S hS
  cases hR : lexV S.data.toList with
  | inr q =>
    obtain ⟨x, li, co⟩ := q
    have hx : Hid (x ≠ 0) := lexV_bad hR
    rw [hR] at hlex
    have HL := hideP hlex
    clear hlex hR
    go_enter Tryd.func8, Tryd.ntmps8
    go_wp2_with fail
    refine (awake_c _ HT.out).mono ?_
    rintro e w1 ⟨rfl, hB⟩
    have HB := hideP hB
    clear hB
    go_wp2_with fail
    refine (HL.out _ (HT.out.below HB.out)).mono ?_
    intro e w2 hp
    obtain ⟨rfl, hb2⟩ := lexP_bad hp
    have HB2 := hideP (below_next (below_next HB.out hb2) (bl_alloc w2 (dgO li co x)))
    unfold dgO at HB2
    have p1 : (x != 0) = true := by simpa using hx.out
    clear hp hb2
    go_wp2
    go_ret
    exact ⟨rfl, HB2.out⟩
  | inl ts =>
    obtain ⟨hwl, ys, hkt, hl2⟩ := lex_again hR (by rw [byteArray_len]; omega)
    have hyl : ys.length = ts.length := by simpa using congrArg List.length hkt
    have HKT := hideP (kt_at hkt)
    have HL2 := hideP hl2
    have HWL := hideP hwl
    have HYL := hideP hyl
    obtain ⟨hch, _, hlen⟩ := chain_of_lex hR
    have hcl := chain_len hch
    rw [byteArray_len] at hcl
    have h0l : 0 < ts.length := by omega
    rw [hR] at hlex
    have HL := hideP hlex
    clear hlex hR hch hkt hl2 hwl hyl
    go_enter Tryd.func8, Tryd.ntmps8
    go_wp2_with fail
    refine (awake_c _ HT.out).mono ?_
    rintro e w1 ⟨rfl, hB⟩
    have HB := hideP hB
    clear hB
    go_wp2_with fail
    refine (HL.out _ (HT.out.below HB.out)).mono ?_
    intro e w2 hp
    obtain ⟨g, cap, rfl, ho, hb2⟩ := lexP_toks hp
    have HB2 := hideP (below_next (below_next HB.out hb2) (bl_alloc w2 (dgO 0 0 0)))
    have hq := hideP ((toksAt ho).below (bl_alloc w2 (dgO 0 0 0)) (tok_lt ho (by omega)))
    have hgl : g < w2.heap.size := tok_lt ho (by omega)
    unfold dgO at HB2 hq
    clear hp hb2 ho
    go_wp2
    generalize hw3 : (w2.alloc (.cells #[.int .i64 0, .int .i64 0, .int .i64 0, .int .i64 0] 26)) = w3 at HB2 hq
    have hg3 : g < w3.heap.size := by rw [← hw3]; simp; omega
    clear hw3
    go_loopw [6, 7] (fun v i wr => ∃ (j : Nat) (T : ByteArray), j ≤ ts.length ∧ i = .int .i64 j ∧ v = .string T ∧ Hid (T.data.toList = writeAll (ts.take j)) ∧ T.size ≤ 65536 ∧ Hid (Below w3.heap.size w3 wr)) (fun _ i _ => ts.length - (intOf i).toNat)
    case atStart => exact ⟨0, _, Nat.zero_le _, rfl, rfl, rfl, by decide, Below.refl _ _⟩
    case round =>
      obtain ⟨j, T, hj, rfl, rfl, hT, hTs, hbr⟩ := hrel
      by_cases hlt : j < ts.length
      · obtain ⟨q0, q1, q2, q3⟩ := (hq.out.below hbr.out hg3) j hlt
        have hjl : (j : Int) < (ts.length : Int) := by omega
        have hnx := hideP (writeAll_take hlt)
        have hnl := writeAll_take_le ts (j + 1)
        rw [hnx.out, List.length_append, List.length_cons, ← hT.out, byteArray_len] at hnl
        have hwv := writeV_le ts[j].kind ts[j].text
        have hwl := HWL.out
        obtain ⟨kd, hkd⟩ : ∃ kd, kd = ts[j].kind := ⟨_, rfl⟩
        obtain ⟨tt, htt⟩ : ∃ tt, tt = ts[j].text := ⟨_, rfl⟩
        rw [← hkd] at q0 hnx hnl hwv
        rw [← htt] at q1 hnx hnl hwv
        obtain ⟨U, hU⟩ : ∃ U : ByteArray, U = ⟨tt.toArray⟩ := ⟨_, rfl⟩
        have hUs : U.size = tt.length := by rw [hU, str_len]
        have hUd : U.data.toList = tt := by rw [hU]
        rw [← hU] at q1
        have HUD := hideP hUd
        clear hkd htt hU hUd q2 q3
        by_cases hk4 : kd = 4
        · have b4 : (kd == 4) = true := by simp [hk4]
          have hwq : writeV kd tt = quoteV tt := by rw [writeV, if_pos hk4]
          rw [hwq] at hnx hnl hwv
          have hqc := quote_c U (by omega)
          rw [HUD.out] at hqc
          obtain ⟨Q, hQ⟩ : ∃ Q : ByteArray, Q = ⟨(quoteV tt).toArray⟩ := ⟨_, rfl⟩
          have hQs : Q.size = (quoteV tt).length := by rw [hQ, str_len]
          have hQd : Hid (Q.data.toList = quoteV tt) := by rw [hQ]; rfl
          rw [← hQ] at hqc
          have HQC := hideP hqc
          clear hqc hQ hwq hk4
          go_wp2_with fail
          refine (HQC.out _).mono ?_
          rintro e w4 ⟨rfl, hg4⟩
          have HB4 := hideP (below_next hbr.out (below_none hg4))
          clear hg4
          go_wp2
          go_roundw
          case rel =>
            refine ⟨j + 1, _, by omega, by go_num, rfl, ?_, ?_, HB4⟩
            · show _ = _
              rw [hnx.out, str_add, str_add, hT.out, hQd.out]
              simp
            · rw [str_addS, str_addS]
              show T.size + 1 + Q.size ≤ 65536
              omega
          case measure => simp [intOf]; omega
        · have b4 : (kd == 4) = false := by simpa using hk4
          have hwq : writeV kd tt = tt := by rw [writeV, if_neg hk4]
          rw [hwq] at hnx hnl hwv
          clear hwq hk4
          go_wp2
          go_roundw
          case rel =>
            refine ⟨j + 1, _, by omega, by go_num, rfl, ?_, ?_, hbr⟩
            · show _ = _
              rw [hnx.out, str_add, str_add, hT.out, HUD.out]
              simp
            · rw [str_addS, str_addS]
              show T.size + 1 + U.size ≤ 65536
              omega
          case measure => simp [intOf]; omega
      · have hjj : j = ts.length := by omega
        have hTd : T.data.toList = writeAll ts := by rw [hT.out, hjj, List.take_length]
        have hlx := lex_c T (by omega)
        rw [hTd, HL2.out] at hlx
        have HLX := hideP hlx
        clear hlx hTd hjj
        go_wp2_with fail
        refine (HLX.out _ ((HT.out.below HB2.out).below hbr.out)).mono ?_
        intro e w4 hp
        obtain ⟨g2, cap2, rfl, ho, hb4⟩ := lexP_toks hp
        have HB5 := hideP (below_next (below_next hbr.out hb4) (bl_alloc w4 (dgO 0 0 0)))
        have h02 : 0 < ys.length := by have := HYL.out; omega
        have hq5 := hideP ((toksAt ho).below (bl_alloc w4 (dgO 0 0 0)) (tok_lt ho h02))
        have hg2l : g2 < w4.heap.size := tok_lt ho h02
        have e1 : ((ys.length : Int) != (ts.length : Int)) = false := by have := HYL.out; simp; omega
        unfold dgO at HB5 hq5
        clear hp hb4 ho
        go_wp2
        generalize hw5 : (w4.alloc (.cells #[.int .i64 0, .int .i64 0, .int .i64 0, .int .i64 0] 26)) = w5 at HB5 hq5
        have hQ5 : Hid (ToksAt w5 g ts) := hq.out.below HB5.out hg3
        clear hw5
        go_loopw [10] (fun i wr => ∃ (j n : Nat), j ≤ ts.length ∧ i = .int .i64 j ∧ wr = w5.drewN n) (fun i _ => ts.length - (intOf i).toNat)
        case atStart => exact ⟨0, 0, Nat.zero_le _, rfl, rfl⟩
        case round =>
          obtain ⟨m, n, hm, rfl, rfl⟩ := hrel
          by_cases hltm : m < ts.length
          · have hlt2 : m < ys.length := by have := HYL.out; omega
            obtain ⟨q0, q1, q2, q3⟩ := hQ5.out m hltm
            obtain ⟨r0, r1, r2, r3⟩ := hq5.out m hlt2
            obtain ⟨k1, k2⟩ := HKT.out m hltm hlt2
            rw [k1] at r0
            rw [k2] at r1
            obtain ⟨kd, hkd⟩ : ∃ kd, kd = ts[m].kind := ⟨_, rfl⟩
            obtain ⟨U, hU⟩ : ∃ U : ByteArray, U = ⟨ts[m].text.toArray⟩ := ⟨_, rfl⟩
            rw [← hkd] at q0 r0
            rw [← hU] at q1 r1
            have hml : (m : Int) < (ts.length : Int) := by omega
            have hml2 : (m : Int) < (ys.length : Int) := by omega
            have x1 : (kd != kd) = false := by simp
            have x2 : (U.toList == U.toList) = true := by simp
            clear hkd hU k1 k2 q2 q3 r2 r3
            go_wp2
            go_quiet (fail)
            go_wp2
            go_roundw
            case rel => exact ⟨m + 1, _, by omega, by go_num, rfl⟩
            case measure => simp [intOf]; omega
          · have HF := hideP (below_next HB2.out (below_drewN HB5.out n))
            go_wp2
            go_ret
            exact ⟨rfl, HF.out⟩

set_option maxRecDepth 100000 in
theorem lexAgain_lifted (os : Os) (started : os.Started) (H : Type) (enc : TypeId × Value → H) :
    ReturnsInHanded {} Tryd.checked os 8 .any (fun w args => (Rows.lexAgainSpec.pre enc Tryd.prog Tryd.f8 [] false w args ∧ laidMetH Tryd.prog laidL w) ∧ sizedMet enc Tryd.prog Tryd.f8 (OpenSpec.ofChange Rows.lexAgainSpec) false w args)
      (Rows.lexAgainSpec.post enc Tryd.prog Tryd.f8 false true false false) := by
  refine returnsInHanded_of_change_and (C := Tryd.checked) (X := fun w _ => laidMetH Tryd.prog laidL w) (fun _ _ _ hh h => h.of_heap hh) own started (by kernel_rfl) Tryd.func8
    (ChangeSpec.witness_shaped (enc := enc) (C := Tryd.checked) (os := os) (X := fun w _ => laidMetH Tryd.prog laidL w) false (World.doorLaid Tryd.prog 24 os) #[.string ByteArray.empty] 8 rfl (World.shaped_of_RefB (by kernel_rfl) (by kernel_rfl)) (by kernel_rfl) (by kernel_rfl) (by kernel_rfl) (door_met os _)) ?_
  intro W base args ds gs before hval0 hW _ hsz0 hL _
  have htab := tab_of_laid hL
  have hval : ∀ (j : Nat) t v, Tryd.f8.params[j]? = some t → args[j]? = some v → Value.okWide Tryd.prog W .any base t v := hval0
  have hW' := hW
  obtain ⟨p, q, hA0, hV, rfl, hfz, hnd⟩ := hW
  have hA : DataW.TrodAll enc Tryd.prog W 0 (fun _ => true) true Tryd.f8.params.toList args.toList ds p := hA0
  have hsz : (DataW.weightsEach Tryd.prog (Tryd.f8.params.toList ++ Rows.lexAgainSpec.plain.varTypes Tryd.prog) (ds ++ gs)).all (· ≤ reachBytes) = true := hsz0
  rw [Tryd.params8] at hA hval hsz
  obtain ⟨v0, vs0, d0, ds0, p0, q0, hargs, rfl, rfl, h0, r0⟩ := trodAll_cons hA
  obtain ⟨rfl, rfl, rfl⟩ := trodAll_nil r0
  obtain rfl : args = #[v0] := by cases args; simp_all
  obtain ⟨rfl, rfl⟩ := trodVars_none hV
  obtain ⟨a0, rfl, rfl, rfl, w0⟩ := open_string Tryd.underlying9 (hval 0 9 v0 rfl rfl) h0
  have s0 : a0.size ≤ 140737488351232 := string_reach (sized_string hsz (j := 0) (t := 9) rfl rfl)
  clear hA0 hval0
  refine (lexAgain_walk a0 W htab s0).mono fun e W' ⟨he, bel⟩ => ?_
  subst he
  exact ⟨_, rfl, _, _, _, [], _, [], hW', trodAll_mk1 (shut_bool Tryd.underlying4 _), (trodAll_cons_mk (shut_string Tryd.underlying9 w0) trodAll_mk0), rfl, bel.frame _, fun h => by cases h⟩

theorem lexAgain_over : Rows.LexAgainSaid :=
  OpenClaim.holds_of_wide 8 Tryd.f8 rfl rfl rfl rfl rfl rfl rfl ⟨rfl, rfl, rfl, rfl, rfl⟩ rfl rfl rfl rfl rfl (by kernel_rfl) Tryd.func8 (by kernel_rfl)
    (of_decide_eq_true (by kernel_rfl)) (by unfold Func.isWrapper; rw [if_neg (of_decide_eq_false (by kernel_rfl))]; exact ⟨rfl, rfl⟩)
    (fun os started H enc _ => lexAgain_lifted os started H enc)

theorem lexAgain_card : Rows.LexAgainCardSaid :=
  Claim7.holds_tied_plain_at .later [] [.data] true Rows.lexAgainCard.stood.harness false
    lexAgain_over (fun _ h => by cases h) (by kernel_rfl) (fun _ h => by cases h) lexAgain_row_tie rfl ⟨rfl, rfl⟩ (by kernel_rfl) (by kernel_rfl)
    (fun f fn hf hfn => by
      obtain rfl : f = 8 := Option.some.inj ((show Tryd.prog.funcNamed Rows.lexAgainRow.func = some 8 by kernel_rfl).symm.trans hf) |>.symm
      obtain rfl : fn = Tryd.f8 := (Option.some.inj (Tryd.func8.symm.trans hfn)).symm
      exact ⟨by kernel_rfl, fun j t ht => by
        rw [Tryd.params8] at ht
        have hm : t ∈ [9] := by simpa using Array.mem_of_getElem? ht
        have hall : ([9].all fun u => !Tryd.prog.wantsStandIn u) = true := by kernel_rfl
        exact (show Tryd.prog.wantsStandIn t = false by simpa using List.all_eq_true.1 hall t hm)⟩)
    (by kernel_rfl)
end Go.Proofs.YtgoppgopnhmhfaaDoor
