/- Each token is what its kind says, and the last one alone is the end: graduslaw02.LexKinds returns true for every text; the package's table of words reads as its text lays it. -/
import Derived.Test.YtgoppgopnhmhfabDoorLaidL
import Derived.Test.YtgoppgopnhmhfabDoorChainV
import Derived.Test.YtgoppgopnhmhfabDoorWordsC
import Derived.Test.YtgoppgopnhmhfabDoorTokAt
namespace Go.Proofs.YtgoppgopnhmhfabDoor
open Go.ChangeShapes Go.WideShapes Go.ChangeAt Go.RowKit
open Go.ChangeMaps (open_string shut_string)

/-- Is it one of the first k words? -/
def ownTo (t : ByteArray) (k : Nat) : Bool := (List.range k).any fun i => (wordB i).toList == t.toList

theorem below_drewN {B : Nat} {a w : World} (h : Below B a w) (n : Nat) : Below B a (w.drewN n) := ⟨h.os, h.tape, h.output, h.size, h.block⟩

theorem nameV_le {t : List UInt8} (h : nameV t = true) : t.length ≤ 32 := by
  cases t with
  | nil => simp
  | cons b r =>
    unfold nameV at h
    simp only [Bool.and_eq_true, decide_eq_true_eq] at h
    exact h.1.1.1

theorem ownTo_succ (t : ByteArray) (k : Nat) : ownTo t (k + 1) = (ownTo t k || ((wordB k).toList == t.toList)) := by
  unfold ownTo
  rw [List.range_succ, List.any_append]
  simp

theorem ownTo_all {t : List UInt8} (h : t ∈ wordsV) : ownTo ⟨t.toArray⟩ 25 = true := by
  obtain ⟨i, hi, e⟩ := (words_mem ⟨t.toArray⟩).1 (by simpa using h)
  unfold ownTo
  rw [List.any_eq_true]
  exact ⟨i, List.mem_range.2 hi, str_eq.2 e.symm⟩

/-- What the last token and the others are. -/
theorem kinds_at {ts : List Tok} (h : ∃ ini L C, ts = ini ++ [⟨0, [], L, C⟩] ∧ ∀ t ∈ ini, KOk t.kind t.text) (j : Nat) (hj : j < ts.length) :
    (j + 1 = ts.length ∧ ts[j].kind = 0 ∧ ts[j].text = []) ∨ (j + 1 < ts.length ∧ KOk ts[j].kind ts[j].text) := by
  obtain ⟨ini, L, C, rfl, hk⟩ := h
  by_cases hl : j < ini.length
  · refine .inr ⟨by simp; omega, ?_⟩
    rw [List.getElem_append_left hl]
    exact hk _ (List.getElem_mem ..)
  · have hje : j = ini.length := by simp at hj; omega
    subst hje
    refine .inl ⟨by simp, ?_, ?_⟩ <;> simp

set_option maxHeartbeats 8000000 in
set_option maxRecDepth 100000 in
theorem lexKinds_walk (S : ByteArray) (w : World) (htab : Words w) (hS : S.size ≤ 140737488351232) :
    Calls Tryd.prog 3 #[.string S] w fun e w' => e = .returned (.bool true) ∧ Below w.heap.size w w' := by
  have HT := hideP htab
  clear htab
  by_cases hbig : 5000 < S.size
  · go_enter Tryd.func3, Tryd.ntmps3
    go_wp2_with fail
    refine (awake_c _ HT.out).mono ?_
    rintro e w1 ⟨rfl, hB⟩
    have HB := hideP hB
    clear hB
    go_wp2
    go_ret
    exact ⟨rfl, HB.out⟩
  have hlex := lex_c S hS
  cases hR : lexV S.data.toList with
  | inr q =>
    obtain ⟨x, li, co⟩ := q
    have hx : Hid (x ≠ 0) := lexV_bad hR
    rw [hR] at hlex
    have HL := hideP hlex
    clear hlex hR
    go_enter Tryd.func3, Tryd.ntmps3
    go_wp2_with fail
    refine (awake_c _ HT.out).mono ?_
    rintro e w1 ⟨rfl, hB⟩
    have HB := hideP hB
    clear hB
    go_wp2_with fail
    refine (HL.out _ (HT.out.below HB.out)).mono ?_
    intro e w2 hp
    obtain ⟨rfl, hb2⟩ := lexP_bad hp
    have HB2 := hideP (below_next (below_next HB.out hb2) (bl_alloc w2 (dgO li co x)))
    unfold dgO at HB2
    have p1 : (x != 0) = true := by simpa using hx.out
    clear hp hb2
    go_wp2
    go_ret
    exact ⟨rfl, HB2.out⟩
  | inl ts =>
    obtain ⟨hch, _, hlen⟩ := chain_of_lex hR
    have hcl := chain_len hch
    rw [byteArray_len] at hcl
    have hkinds := hideP (kinds_at (chain_kinds hch))
    rw [hR] at hlex
    have HL := hideP hlex
    clear hlex hR hch
    go_enter Tryd.func3, Tryd.ntmps3
    go_wp2_with fail
    refine (awake_c _ HT.out).mono ?_
    rintro e w1 ⟨rfl, hB⟩
    have HB := hideP hB
    clear hB
    go_wp2_with fail
    refine (HL.out _ (HT.out.below HB.out)).mono ?_
    intro e w2 hp
    obtain ⟨g, cap, rfl, ho, hb2⟩ := lexP_toks hp
    have HB2 := hideP (below_next (below_next HB.out hb2) (bl_alloc w2 (dgO 0 0 0)))
    have hgl := tok_lt ho (by omega)
    have hq := hideP ((toksAt ho).below (bl_alloc w2 (dgO 0 0 0)) hgl)
    have HW2 := hideP (HT.out.below HB2.out)
    unfold dgO at HB2 HW2 hq
    clear hp hb2 ho
    go_wp2_with fail
    refine (words_c _ HW2.out).mono ?_
    rintro e w3 ⟨rfl, hb3, hwc⟩
    have hgl2 : g < (w2.alloc (.cells #[.int .i64 0, .int .i64 0, .int .i64 0, .int .i64 0] 26)).heap.size := by simp; omega
    have HQ3 := hideP (hq.out.below hb3 hgl2)
    have HB3 := hideP (below_next HB2.out hb3)
    have HW3 := hideP (HW2.out.below hb3)
    have hgl3 : g < w3.heap.size := Nat.lt_of_lt_of_le hgl2 hb3.size
    have hbl3 : w2.heap.size + 1 < w3.heap.size := World.block_lt_of_cell? w3 _ (by have := hwc 0 (by omega); simpa using this)
    have HWC : Hid (∀ i, i < 25 → w3.cell? ⟨w2.heap.size + 1, i, none⟩ = some (.string (wordB i))) := by
      intro i hi
      have := hwc i hi
      simpa using this
    clear hq hb3 hwc hgl2
    go_wp2
    go_loopw [7] (fun i wr => ∃ j : Nat, j ≤ ts.length ∧ i = .int .i64 j ∧ Hid (Below w3.heap.size w3 wr)) (fun i _ => ts.length - (intOf i).toNat)
    case atStart => exact ⟨0, Nat.zero_le _, rfl, Below.refl _ _⟩
    case round =>
      obtain ⟨j, hj, rfl, hbr⟩ := hrel
      by_cases hlt : j < ts.length
      · obtain ⟨q0, q1, q2, q3⟩ := (HQ3.out.below hbr.out hgl3) j hlt
        have hjl : (j : Int) < (ts.length : Int) := by omega
        have hkd := hkinds.out j hlt
        obtain ⟨kd, hkd1⟩ : ∃ kd, kd = ts[j].kind := ⟨_, rfl⟩
        obtain ⟨tt, htt⟩ : ∃ tt, tt = ts[j].text := ⟨_, rfl⟩
        obtain ⟨L, hL⟩ : ∃ L, L = ts[j].line := ⟨_, rfl⟩
        obtain ⟨C, hC⟩ : ∃ C, C = ts[j].col := ⟨_, rfl⟩
        rw [← hkd1] at q0 hkd
        rw [← htt] at q1 hkd
        rw [← hL] at q2
        rw [← hC] at q3
        have HWR : Hid (∀ i, i < 25 → wr.cell? ⟨w2.heap.size + 1, i, none⟩ = some (.string (wordB i))) := fun i hi => (hbr.out.cell (p := ⟨w2.heap.size + 1, i, none⟩) hbl3).trans (HWC.out i hi)
        have HKD := hideP hkd
        obtain ⟨T, hT⟩ : ∃ T : ByteArray, T = ⟨tt.toArray⟩ := ⟨_, rfl⟩
        rw [← hT] at q1
        have HTT := hideP hT
        clear hkd hkd1 htt hL hC hT
        go_wp2
        go_loopw [8, 9] (fun b i w' => ∃ (m : Nat), m ≤ 25 ∧ i = .int .i64 m ∧ b = .bool (ownTo T m) ∧ ∃ n, w' = wr.drewN n) (fun _ i _ => 25 - (intOf i).toNat)
        case atStart => exact ⟨0, by omega, rfl, rfl, 0, rfl⟩
        case round =>
          obtain ⟨m, hm, rfl, rfl, n, rfl⟩ := hrel
          by_cases hm25 : m < 25
          · have hwm := HWR.out m hm25
            have hmI : (m : Int) < 25 := by omega
            have hsc := hideP (ownTo_succ T m)
            obtain ⟨U, hU⟩ : ∃ U, U = wordB m := ⟨_, rfl⟩
            rw [← hU] at hwm hsc
            clear hU
            obtain ⟨o2, ho2⟩ : ∃ o2, o2 = ownTo T (m + 1) := ⟨_, rfl⟩
            rw [← ho2] at hsc
            have HO2 := hideP ho2
            clear ho2
            cases hown : ownTo T m
            · rw [hown, Bool.false_or] at hsc
              clear hown
              cases hUT : (U.toList == T.toList)
              all_goals
                rw [hUT] at hsc
                go_wp2
                go_quiet (fail)
                go_wp2
                refine ⟨⟨m + 1, by omega, by go_num, by rw [← HO2.out, hsc.out], _, rfl⟩, by simp [intOf]; omega⟩
            · rw [hown, Bool.true_or] at hsc
              clear hown
              go_wp2
              go_quiet (fail)
              go_wp2
              refine ⟨⟨m + 1, by omega, by go_num, by rw [← HO2.out, hsc.out], _, rfl⟩, by simp [intOf]; omega⟩
          · have hm2 : m = 25 := by omega
            subst hm2
            generalize hw5 : World.drewN wr n = w5
            have hq5 : w5.cell? ⟨g, j * 4, none⟩ = some (.int .i64 kd) ∧ w5.cell? ⟨g, j * 4 + 1, none⟩ = some (.string T) ∧ w5.cell? ⟨g, j * 4 + 2, none⟩ = some (.int .i64 L) ∧ w5.cell? ⟨g, j * 4 + 3, none⟩ = some (.int .i64 C) := by
              rw [← hw5]
              exact ⟨q0, q1, q2, q3⟩
            have hb5 : Hid (Below w3.heap.size w3 w5) := by
              rw [← hw5]
              exact below_drewN hbr.out n
            have hg5 : g < w5.heap.size := Nat.lt_of_lt_of_le hgl3 hb5.out.size
            clear hw5 q0 q1 q2 q3 HWR
            obtain ⟨q0, q1, q2, q3⟩ := hq5
            obtain ⟨ow, how⟩ : ∃ ow, ow = ownTo T 25 := ⟨_, rfl⟩
            rw [← how]
            have HOW := hideP how
            clear how
            have hTs : T.size = tt.length := by rw [HTT.out, str_len]
            rcases HKD.out with ⟨hje, hk0, ht0⟩ | ⟨hje, hk⟩
            · have b1 : ((j : Int) == (ts.length : Int) - 1) = true := by simp; omega
              subst hk0
              clear ht0 hTs
              go_wp2
              refine ⟨⟨j + 1, by omega, by go_num, hb5.out.alloc hb5.out.size _⟩, by simp [intOf]; omega⟩
            · have b1 : ((j : Int) == (ts.length : Int) - 1) = false := by simp; omega
              rcases hk with ⟨rfl, hn⟩ | ⟨rfl, hn⟩ | ⟨rfl, b, r, hbr2, hdg⟩ | rfl | ⟨rfl, h1, h2⟩
              · have hnc := name_c T
                rw [HTT.out] at hnc
                rw [show (ByteArray.mk tt.toArray).data.toList = tt from rfl, hn, ← HTT.out] at hnc
                have hTl : T.size ≤ 140737488351232 := by
                  rw [hTs]
                  have := nameV_le hn
                  omega
                have HNC := hideP (hnc hTl)
                have HW5 := hideP (HW3.out.below (hb5.out.alloc hb5.out.size (.cells #[.int .i64 1, .string T, .int .i64 L, .int .i64 C] 32)))
                clear hnc hn hTs hTl
                go_wp2_with fail
                refine (HNC.out _ HW5.out).mono ?_
                rintro e w' ⟨rfl, rfl⟩
                go_wp2
                refine ⟨⟨j + 1, by omega, by go_num, hb5.out.alloc hb5.out.size _⟩, by simp [intOf]; omega⟩
              · have how2 : ow = true := by
                  rw [HOW.out, HTT.out]
                  exact ownTo_all hn
                subst how2
                clear hn hTs
                go_wp2
                refine ⟨⟨j + 1, by omega, by go_num, hb5.out.alloc hb5.out.size _⟩, by simp [intOf]; omega⟩
              · have hT0 : 0 < T.size := by rw [hTs, hbr2]; simp
                have hb0 : T[0] = b := by
                  have e1 := byteArray_drop T 0 hT0
                  rw [List.drop_zero] at e1
                  have e2 : T.data.toList = b :: r := by rw [HTT.out, hbr2]
                  rw [e2] at e1
                  injection e1 with e1 _
                  exact e1.symm
                have hd0 : (48 : Int) ≤ (T[0].toNat : Int) ∧ (T[0].toNat : Int) ≤ 57 := by
                  rw [hb0]
                  simp [isDig] at hdg
                  omega
                obtain ⟨d1, d2⟩ := hd0
                have z0 : ((T.size : Int) == 0) = false := by rw [beq_eq_false_iff_ne]; omega
                have z1 : (0 : Int) < (T.size : Int) := by omega
                have d3 : ¬ (T[0].toNat : Int) < 48 := Int.not_lt.2 d1
                have d4 : ¬ (57 : Int) < (T[0].toNat : Int) := Int.not_lt.2 d2
                clear hb0 hdg hTs hbr2
                go_wp2
                refine ⟨⟨j + 1, by omega, by go_num, hb5.out.alloc hb5.out.size _⟩, by simp [intOf]; omega⟩
              · clear hTs
                go_wp2
                refine ⟨⟨j + 1, by omega, by go_num, hb5.out.alloc hb5.out.size _⟩, by simp [intOf]; omega⟩
              · have z1 : ¬ (T.size : Int) < 1 := by omega
                have z2 : ¬ (2 : Int) < (T.size : Int) := by omega
                clear hTs h1 h2
                go_wp2
                refine ⟨⟨j + 1, by omega, by go_num, hb5.out.alloc hb5.out.size _⟩, by simp [intOf]; omega⟩
      · have t0 : decide (0 < ts.length) = true := by simp; omega
        have HBF := hideP (below_next HB3.out hbr.out)
        go_wp2
        go_ret
        exact ⟨rfl, HBF.out⟩

set_option maxRecDepth 100000 in
theorem lexKinds_lifted (os : Os) (started : os.Started) (H : Type) (enc : TypeId × Value → H) :
    ReturnsInHanded {} Tryd.checked os 3 .any (fun w args => (Rows.lexKindsSpec.pre enc Tryd.prog Tryd.f3 [] false w args ∧ laidMetH Tryd.prog laidL w) ∧ sizedMet enc Tryd.prog Tryd.f3 (OpenSpec.ofChange Rows.lexKindsSpec) false w args)
      (Rows.lexKindsSpec.post enc Tryd.prog Tryd.f3 false true false false) := by
  refine returnsInHanded_of_change_and (C := Tryd.checked) (X := fun w _ => laidMetH Tryd.prog laidL w) (fun _ _ _ hh h => h.of_heap hh) own started (by kernel_rfl) Tryd.func3
    (ChangeSpec.witness_shaped (enc := enc) (C := Tryd.checked) (os := os) (X := fun w _ => laidMetH Tryd.prog laidL w) false (World.doorLaid Tryd.prog 24 os) #[.string ByteArray.empty] 8 rfl (World.shaped_of_RefB (by kernel_rfl) (by kernel_rfl)) (by kernel_rfl) (by kernel_rfl) (by kernel_rfl) (door_met os _)) ?_
  intro W base args ds gs before hval0 hW _ hsz0 hL _
  have htab := tab_of_laid hL
  have hval : ∀ (j : Nat) t v, Tryd.f3.params[j]? = some t → args[j]? = some v → Value.okWide Tryd.prog W .any base t v := hval0
  have hW' := hW
  obtain ⟨p, q, hA0, hV, rfl, hfz, hnd⟩ := hW
  have hA : DataW.TrodAll enc Tryd.prog W 0 (fun _ => true) true Tryd.f3.params.toList args.toList ds p := hA0
  have hsz : (DataW.weightsEach Tryd.prog (Tryd.f3.params.toList ++ Rows.lexKindsSpec.plain.varTypes Tryd.prog) (ds ++ gs)).all (· ≤ reachBytes) = true := hsz0
  rw [Tryd.params3] at hA hval hsz
  obtain ⟨v0, vs0, d0, ds0, p0, q0, hargs, rfl, rfl, h0, r0⟩ := trodAll_cons hA
  obtain ⟨rfl, rfl, rfl⟩ := trodAll_nil r0
  obtain rfl : args = #[v0] := by cases args; simp_all
  obtain ⟨rfl, rfl⟩ := trodVars_none hV
  obtain ⟨a0, rfl, rfl, rfl, w0⟩ := open_string Tryd.underlying9 (hval 0 9 v0 rfl rfl) h0
  have s0 : a0.size ≤ 140737488351232 := string_reach (sized_string hsz (j := 0) (t := 9) rfl rfl)
  clear hA0 hval0
  refine (lexKinds_walk a0 W htab s0).mono fun e W' ⟨he, bel⟩ => ?_
  subst he
  exact ⟨_, rfl, _, _, _, [], _, [], hW', trodAll_mk1 (shut_bool Tryd.underlying4 _), (trodAll_cons_mk (shut_string Tryd.underlying9 w0) trodAll_mk0), rfl, bel.frame _, fun h => by cases h⟩

theorem lexKinds_over : Rows.LexKindsSaid :=
  OpenClaim.holds_of_wide 3 Tryd.f3 rfl rfl rfl rfl rfl rfl rfl ⟨rfl, rfl, rfl, rfl, rfl⟩ rfl rfl rfl rfl rfl (by kernel_rfl) Tryd.func3 (by kernel_rfl)
    (of_decide_eq_true (by kernel_rfl)) (by unfold Func.isWrapper; rw [if_neg (of_decide_eq_false (by kernel_rfl))]; exact ⟨rfl, rfl⟩)
    (fun os started H enc _ => lexKinds_lifted os started H enc)

theorem lexKinds_card : Rows.LexKindsCardSaid :=
  Claim7.holds_tied_plain_at .later [] [.data] true Rows.lexKindsCard.stood.harness false
    lexKinds_over (fun _ h => by cases h) (by kernel_rfl) (fun _ h => by cases h) lexKinds_row_tie rfl ⟨rfl, rfl⟩ (by kernel_rfl) (by kernel_rfl)
    (fun f fn hf hfn => by
      obtain rfl : f = 3 := Option.some.inj ((show Tryd.prog.funcNamed Rows.lexKindsRow.func = some 3 by kernel_rfl).symm.trans hf) |>.symm
      obtain rfl : fn = Tryd.f3 := (Option.some.inj (Tryd.func3.symm.trans hfn)).symm
      exact ⟨by kernel_rfl, fun j t ht => by
        rw [Tryd.params3] at ht
        have hm : t ∈ [9] := by simpa using Array.mem_of_getElem? ht
        have hall : ([9].all fun u => !Tryd.prog.wantsStandIn u) = true := by kernel_rfl
        exact (show Tryd.prog.wantsStandIn t = false by simpa using List.all_eq_true.1 hall t hm)⟩)
    (by kernel_rfl)
end Go.Proofs.YtgoppgopnhmhfabDoor
