/- Each token but a string stands in the text at its place, and places rise: graduslaw02.LexPlaces returns true for every text; the package's table of words reads as its text lays it. -/
import Derived.Test.YtgoppgopnhmhfaaDoorLaidL
import Derived.Test.YtgoppgopnhmhfaaDoorPlaceV
import Derived.Test.YtgoppgopnhmhfaaDoorTokAt
namespace Go.Proofs.YtgoppgopnhmhfaaDoor
open Go.ChangeShapes Go.WideShapes Go.ChangeAt Go.RowKit
open Go.ChangeMaps (open_string shut_string)

/-- Where the search for the tokens stands: from byte k on, at place p, the tokens from i on lie there. -/
def PlacedAt (S : ByteArray) (ts : List Tok) (i k : Nat) (p : Nat × Nat) : Prop := Placed (S.data.toList.drop k) p (ts.drop i) ∨ (i = ts.length ∧ k = S.size)

/-- The way to the next token: d bytes further on. -/
theorem placed_next {S : ByteArray} {ts : List Tok} {i k : Nat} {p : Nat × Nat} (h : PlacedAt S ts i k p) (hi : i < ts.length) (hk : k ≤ S.size) : ∃ d : List UInt8, (∃ r, S.data.toList.drop k = d ++ r) ∧ k + d.length ≤ S.size ∧
    placeV d p = (ts[i].line, ts[i].col) ∧ (ts[i].kind ≠ 4 → ts[i].text <+: S.data.toList.drop (k + d.length)) ∧ PlacedAt S ts (i + 1) (k + d.length) (ts[i].line, ts[i].col) := by
  rcases h with h | h
  · rw [List.drop_eq_getElem_cons hi] at h
    have hlen : (S.data.toList.drop k).length = S.size - k := by rw [List.length_drop, byteArray_len]
    generalize hD : S.data.toList.drop k = D at h hlen
    generalize hT : ts[i] = t at h ⊢
    generalize hR : ts.drop (i + 1) = R at h
    rcases placed_ways h with ⟨hR0, htx, hp⟩ | ⟨d, r, hdr, hp, ht, hc⟩
    · subst hR0
      refine ⟨D, ⟨[], by simp⟩, by omega, hp, ?_, ?_⟩
      · intro _
        rw [htx]
        exact List.nil_prefix
      · refine .inr ⟨?_, by omega⟩
        have := congrArg List.length hR
        rw [List.length_drop] at this
        simp at this
        omega
    · have hr : S.data.toList.drop (k + d.length) = r := by
        rw [← List.drop_drop, hD, hdr, List.drop_left']
        rfl
      refine ⟨d, ⟨r, hdr⟩, ?_, hp, ?_, .inl ?_⟩
      · rw [hdr, List.length_append] at hlen
        omega
      · rw [hr]; exact ht
      · rw [hr, hR]; exact hc
  · omega

theorem byte_at {S : ByteArray} {k j : Nat} {d : List UInt8} (h : ∃ r, S.data.toList.drop k = d ++ r) (hj : j < d.length) (hkj : k + j < S.size) : d[j] = S[k + j] := by
  obtain ⟨r, hr⟩ := h
  have h1 : (S.data.toList.drop k)[j]? = some d[j] := by
    rw [hr, List.getElem?_append_left hj, List.getElem?_eq_getElem hj]
  rw [List.getElem?_drop, List.getElem?_eq_getElem (by rw [byteArray_len]; exact hkj)] at h1
  exact (Option.some.inj h1).symm

theorem place_step {d : List UInt8} {p : Nat × Nat} {j : Nat} (hj : j < d.length) : placeV (d.take (j + 1)) p = stepP (placeV (d.take j) p) d[j] := by
  rw [List.take_succ_eq_append_getElem hj, placeV_append]
  rfl

theorem prefix_extract {S : ByteArray} {k : Nat} {t : List UInt8} (h : t <+: S.data.toList.drop k) : t.length ≤ S.size - k ∧ S.extract k (k + t.length) = ⟨t.toArray⟩ := by
  obtain ⟨r, hr⟩ := h
  have hl := congrArg List.length hr
  rw [List.length_append, List.length_drop, byteArray_len] at hl
  refine ⟨by omega, ?_⟩
  rw [extract_eq, Nat.add_sub_cancel_left, ← hr, List.take_left']
  rfl

theorem placed_done {S : ByteArray} {ts : List Tok} {j k : Nat} {p : Nat × Nat} (h : PlacedAt S ts j k p) (hj : ¬ j < ts.length) : k = S.size := by
  have hd : ts.drop j = [] := List.drop_eq_nil_of_le (by omega)
  rcases h with h | h
  · rw [hd] at h
    exact (placed_none h).elim
  · exact h.2

theorem below_drewN {B : Nat} {a w : World} (h : Below B a w) (n : Nat) : Below B a (w.drewN n) := ⟨h.os, h.tape, h.output, h.size, h.block⟩

set_option maxHeartbeats 8000000 in
set_option maxRecDepth 100000 in
theorem lexPlaces_walk (S : ByteArray) (w : World) (htab : Words w) (hS : S.size ≤ 140737488351232) :
    Calls Tryd.prog 7 #[.string S] w fun e w' => e = .returned (.bool true) ∧ Below w.heap.size w w' := by
  have HT := hideP htab
  clear htab
  by_cases hbig : 5000 < S.size
  · go_enter Tryd.func7, Tryd.ntmps7
    go_wp2_with fail
    refine (awake_c _ HT.out).mono ?_
    rintro e w1 ⟨rfl, hB⟩
    have HB := hideP hB
    clear hB
    go_wp2
    go_ret
    exact ⟨rfl, HB.out⟩
  have hlex := lex_c S hS
  cases hR : lexV S.data.toList with
  | inr q =>
    obtain ⟨x, li, co⟩ := q
    have hx : Hid (x ≠ 0) := lexV_bad hR
    rw [hR] at hlex
    have HL := hideP hlex
    clear hlex hR
    go_enter Tryd.func7, Tryd.ntmps7
    go_wp2_with fail
    refine (awake_c _ HT.out).mono ?_
    rintro e w1 ⟨rfl, hB⟩
    have HB := hideP hB
    clear hB
    go_wp2_with fail
    refine (HL.out _ (HT.out.below HB.out)).mono ?_
    intro e w2 hp
    obtain ⟨rfl, hb2⟩ := lexP_bad hp
    have HB2 := hideP (below_next (below_next HB.out hb2) (bl_alloc w2 (dgO li co x)))
    unfold dgO at HB2
    have p1 : (x != 0) = true := by simpa using hx.out
    clear hp hb2
    go_wp2
    go_ret
    exact ⟨rfl, HB2.out⟩
  | inl ts =>
    obtain ⟨hch, _, hlen⟩ := chain_of_lex hR
    have hcl := chain_len hch
    rw [byteArray_len] at hcl
    have hpl : Hid (PlacedAt S ts 0 0 (1, 1)) := .inl (by have := placed_of_chain hch [] (1, 1) rfl; simpa using this)
    rw [hR] at hlex
    have HL := hideP hlex
    clear hlex hR hch
    go_enter Tryd.func7, Tryd.ntmps7
    go_wp2_with fail
    refine (awake_c _ HT.out).mono ?_
    rintro e w1 ⟨rfl, hB⟩
    have HB := hideP hB
    clear hB
    go_wp2_with fail
    refine (HL.out _ (HT.out.below HB.out)).mono ?_
    intro e w2 hp
    obtain ⟨g, cap, rfl, ho, hb2⟩ := lexP_toks hp
    have HB2 := hideP (below_next (below_next HB.out hb2) (bl_alloc w2 (dgO 0 0 0)))
    have hq := hideP ((toksAt ho).below (bl_alloc w2 (dgO 0 0 0)) (tok_lt ho (by omega)))
    unfold dgO at HB2 hq
    clear hp hb2 ho
    go_wp2
    go_loopw [6, 7, 8, 9] (fun a b c i wr => ∃ (k j li co n : Nat), wr = (w2.alloc (.cells #[.int .i64 0, .int .i64 0, .int .i64 0, .int .i64 0] 26)).drewN n ∧ k ≤ S.size ∧ j ≤ ts.length ∧ li ≤ k + 1 ∧ co ≤ k + 1 ∧ a = .int .i64 k ∧ b = .int .i64 li ∧ c = .int .i64 co ∧ i = .int .i64 j ∧ Hid (PlacedAt S ts j k (li, co))) (fun _ _ _ i _ => ts.length - (intOf i).toNat)
    case atStart => exact ⟨0, 0, 1, 1, 0, rfl, Nat.zero_le _, Nat.zero_le _, by omega, by omega, rfl, rfl, rfl, rfl, hpl⟩
    case round =>
      obtain ⟨k, j, li, co, n, rfl, hk, hj, hli, hco, rfl, rfl, rfl, rfl, hp⟩ := hrel
      by_cases hlt : j < ts.length
      · obtain ⟨d, hd, hdl, hpv, htx, hnx⟩ := placed_next hp.out hlt hk
        have hq1 := hq.out j hlt
        have HD := hideP hd
        have HPV := hideP hpv
        have HTX := hideP htx
        have HNX := hideP hnx
        obtain ⟨kd, hkd⟩ : ∃ kd, kd = ts[j].kind := ⟨_, rfl⟩
        obtain ⟨tt, htt⟩ : ∃ tt, tt = ts[j].text := ⟨_, rfl⟩
        obtain ⟨L, hL⟩ : ∃ L, L = ts[j].line := ⟨_, rfl⟩
        obtain ⟨C, hC⟩ : ∃ C, C = ts[j].col := ⟨_, rfl⟩
        rw [← hkd, ← htt, ← hL, ← hC] at hq1
        rw [← hL, ← hC] at HPV HNX
        rw [← hkd, ← htt] at HTX
        obtain ⟨q0, q1, q2, q3⟩ := hq1
        have hjl : (j : Int) < (ts.length : Int) := by omega
        clear hd hpv htx hnx hkd htt hL hC hp
        go_wp2
        go_loop [6, 7, 8] (fun a b c => ∃ (m l2 c2 : Nat), m ≤ d.length ∧ l2 ≤ k + m + 1 ∧ c2 ≤ k + m + 1 ∧ a = .int .i64 ((k + m : Nat) : Int) ∧ b = .int .i64 l2 ∧ c = .int .i64 c2 ∧ Hid (placeV (d.take m) (li, co) = (l2, c2))) (fun a _ _ => S.size - (intOf a).toNat)
        case atStart => exact ⟨0, li, co, Nat.zero_le _, hli, hco, rfl, rfl, rfl, rfl⟩
        case round =>
          obtain ⟨m, l2, c2, hm, hl2, hc2, rfl, rfl, rfl, hpm⟩ := hrel
          by_cases hmd : m < d.length
          · have hkm : k + m < S.size := by omega
            have hltp := ltP_take d (li, co) m hmd
            rw [hpm.out, HPV.out] at hltp
            have hb := byte_at HD.out hmd hkm
            have hstep := place_step (p := (li, co)) hmd
            rw [hpm.out, hb] at hstep
            have hI : (k : Int) + (m : Int) < (S.size : Int) := by omega
            unfold ltP at hltp
            unfold stepP at hstep
            simp only at hltp hstep
            by_cases h10 : S[k + m].toNat = 10
            · have e10 : S[k + m] = 10 := UInt8.toNat_inj.1 h10
              rw [if_pos e10] at hstep
              have p10 : ((S[k + m].toNat : Int) == 10) = true := by simp; omega
              have HST := hideP hstep
              clear hstep hb e10
              rcases hltp with h1 | ⟨h1, h2⟩
              · have h1' : (l2 : Int) < (L : Int) := by omega
                go_wp2
                refine ⟨⟨m + 1, l2 + 1, 1, by omega, by omega, by omega, by go_num, by go_num, by go_num, HST.out⟩, by simp [intOf]; omega⟩
              · have h1' : ¬ (l2 : Int) < (L : Int) := by omega
                have h1'' : ((l2 : Int) == (L : Int)) = true := by simp; omega
                have h2' : (c2 : Int) < (C : Int) := by omega
                clear h1
                go_wp2
                refine ⟨⟨m + 1, l2 + 1, 1, by omega, by omega, by omega, by go_num, by go_num, by go_num, HST.out⟩, by simp [intOf]; omega⟩
            · have e10 : ¬ S[k + m] = 10 := fun e => h10 (by rw [e]; rfl)
              rw [if_neg e10] at hstep
              have p10 : ((S[k + m].toNat : Int) == 10) = false := by simp; omega
              have HST := hideP hstep
              clear hstep hb e10
              rcases hltp with h1 | ⟨h1, h2⟩
              · have h1' : (l2 : Int) < (L : Int) := by omega
                go_wp2
                refine ⟨⟨m + 1, l2, c2 + 1, by omega, by omega, by omega, by go_num, by go_num, by go_num, HST.out⟩, by simp [intOf]; omega⟩
              · have h1' : ¬ (l2 : Int) < (L : Int) := by omega
                have h1'' : ((l2 : Int) == (L : Int)) = true := by simp; omega
                have h2' : (c2 : Int) < (C : Int) := by omega
                clear h1
                go_wp2
                refine ⟨⟨m + 1, l2, c2 + 1, by omega, by omega, by omega, by go_num, by go_num, by go_num, HST.out⟩, by simp [intOf]; omega⟩
          · have hmd2 : m = d.length := by omega
            have heq := hpm.out
            rw [hmd2, List.take_length, HPV.out] at heq
            injection heq with e1 e2
            subst e1 e2
            have a1 : ¬ (L : Int) < (L : Int) := by omega
            have a2 : ¬ (C : Int) < (C : Int) := by omega
            have HM := hideP hmd2
            rw [← hmd2] at HNX HTX hdl
            have fin : Hid (PlacedAt S ts (j + 1) (k + m) (L, C)) := HNX
            clear hmd2 hmd HPV hpm HNX
            by_cases hk4 : kd = 4
            · have b4 : (kd != 4) = false := by simp [hk4]
              clear HTX hk4
              by_cases hkm : (k : Int) + (m : Int) < (S.size : Int)
              all_goals
                go_wp2
                go_quiet (fail)
                go_wp2
                go_roundw
                case rel => exact ⟨k + m, j + 1, L, C, _, rfl, by omega, by omega, by omega, by omega, by go_num, rfl, rfl, by go_num, fin⟩
                case measure => simp [intOf]; omega
            · have b4 : (kd != 4) = true := by simpa using hk4
              obtain ⟨htl, hex⟩ := prefix_extract (HTX.out hk4)
              obtain ⟨n2, hn2⟩ : ∃ n2, n2 = tt.length := ⟨_, rfl⟩
              obtain ⟨T, hT⟩ : ∃ T : ByteArray, T = ⟨tt.toArray⟩ := ⟨_, rfl⟩
              have hTs : T.size = n2 := by rw [hT, str_len, hn2]
              rw [← hn2] at htl hex
              rw [← hT] at hex q1
              have hgd : decide ((S.size : Int) - ((k : Int) + (m : Int)) < (n2 : Int)) = false := by simp; omega
              have w1' : IntKind.i64.wrap ((S.size : Int) - ((k : Int) + (m : Int))) = (S.size : Int) - ((k : Int) + (m : Int)) := by rw [IntKind.wrap_i64]; omega
              have w2' : IntKind.i64.wrap ((k : Int) + (m : Int) + (n2 : Int)) = (k : Int) + (m : Int) + (n2 : Int) := by rw [IntKind.wrap_i64]; omega
              have l1 : (k : Int) + (m : Int) + (n2 : Int) ≤ (S.size : Int) := by omega
              have l2 : (k : Int) + (m : Int) ≤ (k : Int) + (m : Int) + (n2 : Int) := by omega
              have l0 : (0 : Int) ≤ (k : Int) + (m : Int) := by omega
              have l3 : (k : Int) + (m : Int) ≤ (S.size : Int) := by omega
              have l4 : (0 : Int) ≤ (k : Int) + (m : Int) + (n2 : Int) := by omega
              have t1' : ((k : Int) + (m : Int)).toNat = k + m := by omega
              have t2' : ((k : Int) + (m : Int) + (n2 : Int)).toNat = k + m + n2 := by omega
              have hx1 : ((S.extract (k + m) (k + m + n2)).toList == T.toList) = true := str_eq.2 hex
              clear hk4 hex hn2 hT HTX
              by_cases hkm : (k : Int) + (m : Int) < (S.size : Int)
              all_goals
                go_wp2
                go_quiet (fail)
                go_wp2
                go_roundw
                case rel => exact ⟨k + m, j + 1, L, C, _, rfl, by omega, by omega, by omega, by omega, by go_num, rfl, rfl, by go_num, fin⟩
                case measure => simp [intOf]; omega
      · have hkS := placed_done hp.out hlt
        have b : ((k : Int) == (S.size : Int)) = true := by simp; omega
        have t0 : (0 : Int) < (ts.length : Int) := by omega
        clear hkS
        go_wp2
        go_ret
        exact ⟨rfl, below_drewN HB2.out _⟩

set_option maxRecDepth 100000 in
theorem lexPlaces_lifted (os : Os) (started : os.Started) (H : Type) (enc : TypeId × Value → H) :
    ReturnsInHanded {} Tryd.checked os 7 .any (fun w args => (Rows.lexPlacesSpec.pre enc Tryd.prog Tryd.f7 [] false w args ∧ laidMetH Tryd.prog laidL w) ∧ sizedMet enc Tryd.prog Tryd.f7 (OpenSpec.ofChange Rows.lexPlacesSpec) false w args)
      (Rows.lexPlacesSpec.post enc Tryd.prog Tryd.f7 false true false false) := by
  refine returnsInHanded_of_change_and (C := Tryd.checked) (X := fun w _ => laidMetH Tryd.prog laidL w) (fun _ _ _ hh h => h.of_heap hh) own started (by kernel_rfl) Tryd.func7
    (ChangeSpec.witness_shaped (enc := enc) (C := Tryd.checked) (os := os) (X := fun w _ => laidMetH Tryd.prog laidL w) false (World.doorLaid Tryd.prog 24 os) #[.string ByteArray.empty] 8 rfl (World.shaped_of_RefB (by kernel_rfl) (by kernel_rfl)) (by kernel_rfl) (by kernel_rfl) (by kernel_rfl) (door_met os _)) ?_
  intro W base args ds gs before hval0 hW _ hsz0 hL _
  have htab := tab_of_laid hL
  have hval : ∀ (j : Nat) t v, Tryd.f7.params[j]? = some t → args[j]? = some v → Value.okWide Tryd.prog W .any base t v := hval0
  have hW' := hW
  obtain ⟨p, q, hA0, hV, rfl, hfz, hnd⟩ := hW
  have hA : DataW.TrodAll enc Tryd.prog W 0 (fun _ => true) true Tryd.f7.params.toList args.toList ds p := hA0
  have hsz : (DataW.weightsEach Tryd.prog (Tryd.f7.params.toList ++ Rows.lexPlacesSpec.plain.varTypes Tryd.prog) (ds ++ gs)).all (· ≤ reachBytes) = true := hsz0
  rw [Tryd.params7] at hA hval hsz
  obtain ⟨v0, vs0, d0, ds0, p0, q0, hargs, rfl, rfl, h0, r0⟩ := trodAll_cons hA
  obtain ⟨rfl, rfl, rfl⟩ := trodAll_nil r0
  obtain rfl : args = #[v0] := by cases args; simp_all
  obtain ⟨rfl, rfl⟩ := trodVars_none hV
  obtain ⟨a0, rfl, rfl, rfl, w0⟩ := open_string Tryd.underlying9 (hval 0 9 v0 rfl rfl) h0
  have s0 : a0.size ≤ 140737488351232 := string_reach (sized_string hsz (j := 0) (t := 9) rfl rfl)
  clear hA0 hval0
  refine (lexPlaces_walk a0 W htab s0).mono fun e W' ⟨he, bel⟩ => ?_
  subst he
  exact ⟨_, rfl, _, _, _, [], _, [], hW', trodAll_mk1 (shut_bool Tryd.underlying4 _), (trodAll_cons_mk (shut_string Tryd.underlying9 w0) trodAll_mk0), rfl, bel.frame _, fun h => by cases h⟩

theorem lexPlaces_over : Rows.LexPlacesSaid :=
  OpenClaim.holds_of_wide 7 Tryd.f7 rfl rfl rfl rfl rfl rfl rfl ⟨rfl, rfl, rfl, rfl, rfl⟩ rfl rfl rfl rfl rfl (by kernel_rfl) Tryd.func7 (by kernel_rfl)
    (of_decide_eq_true (by kernel_rfl)) (by unfold Func.isWrapper; rw [if_neg (of_decide_eq_false (by kernel_rfl))]; exact ⟨rfl, rfl⟩)
    (fun os started H enc _ => lexPlaces_lifted os started H enc)

theorem lexPlaces_card : Rows.LexPlacesCardSaid :=
  Claim7.holds_tied_plain_at .later [] [.data] true Rows.lexPlacesCard.stood.harness false
    lexPlaces_over (fun _ h => by cases h) (by kernel_rfl) (fun _ h => by cases h) lexPlaces_row_tie rfl ⟨rfl, rfl⟩ (by kernel_rfl) (by kernel_rfl)
    (fun f fn hf hfn => by
      obtain rfl : f = 7 := Option.some.inj ((show Tryd.prog.funcNamed Rows.lexPlacesRow.func = some 7 by kernel_rfl).symm.trans hf) |>.symm
      obtain rfl : fn = Tryd.f7 := (Option.some.inj (Tryd.func7.symm.trans hfn)).symm
      exact ⟨by kernel_rfl, fun j t ht => by
        rw [Tryd.params7] at ht
        have hm : t ∈ [9] := by simpa using Array.mem_of_getElem? ht
        have hall : ([9].all fun u => !Tryd.prog.wantsStandIn u) = true := by kernel_rfl
        exact (show Tryd.prog.wantsStandIn t = false by simpa using List.all_eq_true.1 hall t hm)⟩)
    (by kernel_rfl)
end Go.Proofs.YtgoppgopnhmhfaaDoor
