/- Any number is put behind any bytes as the document says, and they stay as they were: graduslaw01.WordPuts returns true for every slice of bytes and every number of 64 bits; the listed tables of Go's library read as its text lays them. -/
import Derived.Test.YtdlkkflenphkfaaDoorPutR
namespace Go.Proofs.YtdlkkflenphkfaaDoor
open Go.ChangeShapes Go.WideShapes Go.ChangeAt Go.RowKit
open Go.ChangeMaps (open_string shut_string)

/-- Put behind a row of the call's own. -/
theorem put_own {w : World} {B len : Nat} {v : Value} {zs : List Int} (h : w.ownsRow B 5 1 v len (bv zs)) (n : Int) (hn0 : -9223372036854775808 ≤ n) (hn1 : n ≤ 9223372036854775807) (hlen : len ≤ 140737488351232) :
    Calls Tryd.prog 18 #[v, .int .i64 n] w fun e w' => e = .returned (.slice (some ⟨w.heap.size, 0, none⟩) (len + (putV n).length) (len + 10)) ∧
      w'.ownsRow w.heap.size 5 1 (.slice (some ⟨w.heap.size, 0, none⟩) (len + (putV n).length) (len + 10)) (len + (putV n).length) (bv (zs ++ putV n)) ∧ Below w.heap.size w w' := by
  have hl : (bv zs).length = len := by
    have := h.1
    omega
  rw [bv_append]
  rcases h.2 with ⟨rfl, h0⟩ | ⟨g, cap, cur, rfl, _⟩
  · subst h0
    exact put_c none 0 0 (bv zs) hl (bv_one _) n hn0 hn1 (by omega) w (fun w' _ hp => by omega)
  · exact put_c _ len cap (bv zs) hl (bv_one _) n hn0 hn1 (by omega) w (fun w' hB _ => ⟨_, rfl, (owns_below h hB).cells rfl⟩)

theorem owned_byte {w : World} {B g N cap k : Nat} {ys : List Int} (h : w.ownsRow B 5 1 (.slice (some ⟨g, 0, none⟩) N cap) N (bv ys)) (hk : k < N) : ∃ y, w.cell? ⟨g, k, none⟩ = some (.int .u8 y) := by
  have hl : k < ys.length := by
    have := h.1
    rw [bv_len] at this
    omega
  refine ⟨ys[k], ?_⟩
  rw [h.cellAt k (by omega)]
  simp [bv, hl]

theorem stored_byte {w : World} {B g N cap : Nat} {ys : List Int} (h : w.ownsRow B 5 1 (.slice (some ⟨g, 0, none⟩) N cap) N (bv ys)) (k : Nat) (y : Int) : ∃ ys', (w.setCell ⟨g, k, none⟩ (.int .u8 y)).ownsRow B 5 1 (.slice (some ⟨g, 0, none⟩) N cap) N (bv ys') := by
  refine ⟨ys.set k y, ?_⟩
  have h2 := (h.stored k (.int .u8 y)).1
  rw [bv, List.map_set]
  exact h2

theorem wordPuts_walk (a : Option Addr) (len cap : Nat) (zs : List Int) (n : Int) (w : World) (htab : Tab w) (hrow : IsRow w a len cap zs) (wn : (Lit.int .i64 n).wf = true) :
    Calls Tryd.prog 8 #[.slice a len cap, .int .i64 n] w fun e w' => e = .returned (.bool true) ∧ Below w.heap.size w w' := by
  have hn := bounds_i64 wn
  obtain ⟨h1, h2⟩ := hn
  obtain ⟨l1, c1, e1, n1, b1⟩ := row_le hrow
  obtain ⟨i0, hi, hz0, hz1, hz2⟩ := info_parts info_byte
  have hlen : len ≤ 140737488351232 := by omega
  have hm := putV_len n
  have HT := hideP htab
  have KR := hideP (row_kept hrow)
  have CR := hideP (conv_row hrow)
  have HL := hideP e1
  have HN := hideP n1
  have HBy := hideP b1
  obtain ⟨S, hS⟩ : ∃ S, S = strOfNums (zs.take len) := ⟨_, rfl⟩
  rw [← hS] at CR
  have HSS := hideP hS
  obtain ⟨Y, hY⟩ : ∃ Y, Y = strOfNums (zs.take len ++ putV n) := ⟨_, rfl⟩
  have HY := hideP hY
  obtain ⟨N, hN⟩ : ∃ N, N = len + (putV n).length := ⟨_, rfl⟩
  have hN1 : N ≤ len + 10 := by omega
  have hN2 : 1 ≤ N := by omega
  have HNN := hideP hN
  clear htab hrow e1 n1 b1 hS hY hN hm wn
  go_enter Tryd.func8, Tryd.ntmps8
  go_wp2_with fail
  refine (awake_c _ HT.out).mono ?_
  rintro e w1 ⟨rfl, hB1⟩
  have hs1 := hB1.size
  go_wp2_with (at_builtin; refine wpList_append_any _ rfl (.const (.slice none 0 0)) (.tmp 12) 34 rfl w1.heap.size 5 i0 (.int .u8 0) 1 Tryd.underlying34 hi hz0 hz1 hz2 rfl (.slice none 0 0) 0 [] rfl (World.ownsRow_nil _ _ _ _) a len cap (bv (zs.take len)) rfl (by rw [bv_len]; exact HL.out) HN.out (KR.out w1 hB1) (bv_one _) (by unfold maxLen; omega) (by omega) (Nat.le_refl _) ?_)
  intro v2 w2 hown2 hgrow2
  have hB2 : Below w.heap.size w w2 := hB1.grown hgrow2 hs1 (by intro k hk; cases hk)
  have hs2 := hgrow2.size
  have hown2' : w2.ownsRow w1.heap.size 5 1 v2 len (bv (zs.take len)) := by simpa using hown2
  have HO2 := hideP hown2'
  have P2 := hideP (put_own hown2' n h1 h2 hlen)
  rw [← HNN.out] at P2
  clear hown2 hgrow2 hown2'
  go_wp2_with fail
  refine P2.out.mono ?_
  rintro e w3 ⟨rfl, hown3, hB3⟩
  have hB3' : Below w.heap.size w w3 := hB2.trans (hB3.mono (Nat.le_trans hs1 hs2))
  have P3 := hideP (putR_c a len cap (zs.take len) HL.out n h1 h2 hlen w3 HN.out (KR.out w3 hB3'))
  clear P2
  go_wp2_with fail
  refine P3.out.mono ?_
  rintro e w4 ⟨v4, rfl, hown4, hB4⟩
  rw [← HNN.out, ← bv_append] at hown4
  have hc4 := conv_any hown4
  rw [← HY.out] at hc4
  have hown3' := owns_below hown3 hB4
  have hc3 := conv_own hown3'
  rw [← HY.out] at hc3
  have hB4' : Below w2.heap.size w2 w4 := hB3.trans (hB4.mono hB3.size)
  have HO3 := hideP hown3'
  clear hown3 hown3' hown4 P3
  go_wp2
  go_loopw [10] (fun i wr => ∃ (k : Nat) (ys : List Int), k ≤ N ∧ i = .int .i64 k ∧ wr.ownsRow w2.heap.size 5 1 (.slice (some ⟨w2.heap.size, 0, none⟩) N (len + 10)) N (bv ys) ∧ Below w2.heap.size w2 wr) (fun i _ => N - (intOf i).toNat)
  case atStart => exact ⟨0, zs.take len ++ putV n, Nat.zero_le _, rfl, HO3.out, hB4'⟩
  case round =>
    obtain ⟨k, ys, hk, rfl, hown, hB⟩ := hrel
    have hbw : Below w.heap.size w wr := hB2.trans (hB.mono (Nat.le_trans hs1 hs2))
    clear hc3 hc4 HO3 hB4' hB3' hB3 hB4
    by_cases hkN : k < N
    · obtain ⟨y, hy⟩ := owned_byte hown hkN
      have hfr := hown.frozenAt k
      have ST := hideP (stored_byte hown k (IntKind.u8.wrap (y + 1)))
      have HB := hideP hB
      clear hown hB hbw
      go_wp2
      go_roundw
      case rel =>
        obtain ⟨ys', h5⟩ := ST.out
        exact ⟨k + 1, ys', by omega, by go_num, h5, HB.out.setCell (Nat.le_refl _) _⟩
      case measure => simp [intOf]; omega
    · have hc5 := conv_any (owns_below HO2.out hB)
      have hc6 := CR.out wr hbw
      rw [← HSS.out] at hc5
      clear hown hB
      go_wp2
      go_ret
      exact ⟨rfl, hbw⟩

set_option maxRecDepth 100000 in
theorem wordPuts_lifted (os : Os) (started : os.Started) (H : Type) (enc : TypeId × Value → H) :
    ReturnsInHanded {} Tryd.checked os 8 .any (fun w args => (Rows.wordPutsSpec.pre enc Tryd.prog Tryd.f8 [] false w args ∧ laidMetH Tryd.prog laidL w) ∧ sizedMet enc Tryd.prog Tryd.f8 (OpenSpec.ofChange Rows.wordPutsSpec) false w args)
      (Rows.wordPutsSpec.post enc Tryd.prog Tryd.f8 false true false false) := by
  refine returnsInHanded_of_change_and (C := Tryd.checked) (X := fun w _ => laidMetH Tryd.prog laidL w) (fun _ _ _ hh h => h.of_heap hh) own started (by kernel_rfl) Tryd.func8
    (ChangeSpec.witness_shaped (enc := enc) (C := Tryd.checked) (os := os) (X := fun w _ => laidMetH Tryd.prog laidL w) false (World.doorLaid Tryd.prog 24 os) #[.slice none 0 0, .int .i64 0] 8 rfl (World.shaped_of_RefB (by kernel_rfl) (by kernel_rfl)) (by kernel_rfl) (by kernel_rfl) (by kernel_rfl) (door_met os _)) ?_
  intro W base args ds gs before hval0 hW _ hsz0 hL _
  have htab := tab_of_laid hL
  have hval : ∀ (j : Nat) t v, Tryd.f8.params[j]? = some t → args[j]? = some v → Value.okWide Tryd.prog W .any base t v := hval0
  have hW' := hW
  obtain ⟨p, q, hA0, hV, rfl, hfz, hnd⟩ := hW
  have hA : DataW.TrodAll enc Tryd.prog W 0 (fun _ => true) true Tryd.f8.params.toList args.toList ds p := hA0
  have hsz : (DataW.weightsEach Tryd.prog (Tryd.f8.params.toList ++ Rows.wordPutsSpec.plain.varTypes Tryd.prog) (ds ++ gs)).all (· ≤ reachBytes) = true := hsz0
  rw [Tryd.params8] at hA hval hsz
  obtain ⟨v0, vs0, d0, ds0, p0, q0, hargs, rfl, rfl, h0, r0⟩ := trodAll_cons hA
  obtain ⟨v1, vs1, d1, ds1, p1, q1, rfl, rfl, rfl, h1, r1⟩ := trodAll_cons r0
  obtain ⟨rfl, rfl, rfl⟩ := trodAll_nil r1
  obtain rfl : args = #[v0, v1] := by cases args; simp_all
  obtain ⟨rfl, rfl⟩ := trodVars_none hV
  obtain ⟨a0, len0, cap0, rfl⟩ := okWide_slice Tryd.underlying34 (hval 0 34 v0 rfl rfl)
  have k0 := h0
  have lt0 : ∀ x ∈ p0, x.block < W.heap.size := by obtain ⟨m, hm⟩ := k0; exact DataW.trod_lt m _ _ _ hm
  obtain ⟨z0, w0⟩ := row_of_trod h0 (fun es sp hd => by subst hd; exact sized_slice hsz (j := 0) (t := 34) (e := 5) rfl rfl Tryd.underlying34)
  obtain ⟨a1, rfl, rfl, rfl, w1⟩ := open_int Tryd.underlying3 (hval 1 3 v1 rfl rfl) h1
  clear hA0 hval0
  refine (wordPuts_walk a0 len0 cap0 z0 a1 W htab w0 w1).mono fun e W' ⟨he, bel⟩ => ?_
  subst he
  exact ⟨_, rfl, _, _, _, [], _, [], hW', trodAll_mk1 (shut_bool Tryd.underlying4 _), (trodAll_cons_mk (Below.trod laidOut (by kernel_rfl) (of_decide_eq_true (by kernel_rfl)) k0 bel lt0) (trodAll_cons_mk (shut_int Tryd.underlying3 w1) trodAll_mk0)), rfl, bel.frame _, fun h => by cases h⟩

theorem wordPuts_over : Rows.WordPutsSaid :=
  OpenClaim.holds_of_wide 8 Tryd.f8 rfl rfl rfl rfl rfl rfl rfl ⟨rfl, rfl, rfl, rfl, rfl⟩ rfl rfl rfl rfl rfl (by kernel_rfl) Tryd.func8 (by kernel_rfl)
    (of_decide_eq_true (by kernel_rfl)) (by unfold Func.isWrapper; rw [if_neg (of_decide_eq_false (by kernel_rfl))]; exact ⟨rfl, rfl⟩)
    (fun os started H enc _ => wordPuts_lifted os started H enc)

theorem wordPuts_card : Rows.WordPutsCardSaid :=
  Claim7.holds_tied_plain_at .later [] [.data, .data, .data] true Rows.wordPutsCard.stood.harness false
    wordPuts_over (fun _ h => by cases h) (by kernel_rfl) (fun _ h => by cases h) wordPuts_row_tie rfl ⟨rfl, rfl⟩ (by kernel_rfl) (by kernel_rfl)
    (fun f fn hf hfn => by
      obtain rfl : f = 8 := Option.some.inj ((show Tryd.prog.funcNamed Rows.wordPutsRow.func = some 8 by kernel_rfl).symm.trans hf) |>.symm
      obtain rfl : fn = Tryd.f8 := (Option.some.inj (Tryd.func8.symm.trans hfn)).symm
      exact ⟨by kernel_rfl, fun j t ht => by
        rw [Tryd.params8] at ht
        have hm : t ∈ [34, 3] := by simpa using Array.mem_of_getElem? ht
        have hall : ([34, 3].all fun u => !Tryd.prog.wantsStandIn u) = true := by kernel_rfl
        exact (show Tryd.prog.wantsStandIn t = false by simpa using List.all_eq_true.1 hall t hm)⟩)
    (by kernel_rfl)
end Go.Proofs.YtdlkkflenphkfaaDoor
