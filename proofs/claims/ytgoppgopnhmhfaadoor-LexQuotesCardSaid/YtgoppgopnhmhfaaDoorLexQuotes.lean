/- Any text is quoted as the document says, and one without other control bytes than line feeds and tabs is read as it was: graduslaw02.LexQuotes returns true for every text; the package's table of words reads as its text lays it. -/
import Derived.Test.YtgoppgopnhmhfaaDoorLaidL
import Derived.Test.YtgoppgopnhmhfaaDoorQuoteR
namespace Go.Proofs.YtgoppgopnhmhfaaDoor
open Go.ChangeShapes Go.WideShapes Go.ChangeAt Go.RowKit
open Go.ChangeMaps (open_string shut_string)

/-- The first k bytes may be said. -/
def saysTo (S : ByteArray) (k : Nat) : Prop := ∀ i (h : i < S.size), i < k → sayB S[i]

theorem says_all {S : ByteArray} (h : saysTo S S.size) : ∀ b ∈ S.data.toList, sayB b := by
  intro b hb
  obtain ⟨i, hi, e⟩ := List.mem_iff_getElem.1 hb
  have hi' : i < S.size := by rw [← byteArray_len]; exact hi
  have := h i hi' hi'
  rw [← e]
  exact this

theorem below_none {w w1 : World} (h : w.grownBy w1 none) : Below w.heap.size w w1 := ⟨h.os, h.tape, h.output, h.size, fun k hk => h.block k hk (by simp)⟩

set_option maxHeartbeats 4000000 in
set_option maxRecDepth 100000 in
theorem lexQuotes_walk (S : ByteArray) (w : World) (htab : Words w) (hS : S.size ≤ 140737488351232) :
    Calls Tryd.prog 5 #[.string S] w fun e w' => e = .returned (.bool true) ∧ Below w.heap.size w w' := by
  have HT := hideP htab
  clear htab
  by_cases hbig : 5000 < S.size
  · go_enter Tryd.func5, Tryd.ntmps5
    go_wp2_with fail
    refine (awake_c _ HT.out).mono ?_
    rintro e w1 ⟨rfl, hB⟩
    have HB := hideP hB
    clear hB
    go_wp2
    go_ret
    exact ⟨rfl, HB.out⟩
  have HQ := hideP (quote_c S (by omega))
  have HQR := hideP (quoteR_c S (by omega))
  have hql := quote_len S.data.toList
  rw [byteArray_len] at hql
  have hlex := lex_c ⟨(quoteV S.data.toList).toArray⟩ (by rw [str_len]; omega)
  have hlq := hideP (fun h => lex_quote S.data.toList h (by rw [byteArray_len]; omega))
  rw [byteArray_len] at hlq
  obtain ⟨X, hX⟩ : ∃ X : ByteArray, X = ⟨(quoteV S.data.toList).toArray⟩ := ⟨_, rfl⟩
  rw [← hX] at HQ HQR hlex
  have hXd : X.data.toList = quoteV S.data.toList := by rw [hX]
  rw [hXd] at hlex
  have HL := hideP hlex
  clear hX hXd hlex hql
  go_enter Tryd.func5, Tryd.ntmps5
  go_wp2_with fail
  refine (awake_c _ HT.out).mono ?_
  rintro e w1 ⟨rfl, hB⟩
  have HB := hideP hB
  clear hB
  go_wp2_with fail
  refine (HQ.out _).mono ?_
  rintro e w2 ⟨rfl, hg⟩
  have HB2 := hideP (below_next HB.out (below_none hg))
  clear hg
  go_wp2_with fail
  refine (HQR.out _).mono ?_
  rintro e w' ⟨rfl, rfl⟩
  have hxx : (X.toList == X.toList) = true := by simp
  go_wp2
  go_loop [5] (fun i => ∃ k : Nat, k ≤ S.size ∧ i = .int .i64 k ∧ Hid (saysTo S k)) (fun i => S.size - (intOf i).toNat)
  case atStart => exact ⟨0, Nat.zero_le _, rfl, fun i _ h => by omega⟩
  case round =>
    obtain ⟨k, hk, rfl, hsay⟩ := hrel
    by_cases hlt : k < S.size
    · have hways : (32 ≤ S[k].toNat ∧ sayB S[k]) ∨ (S[k].toNat = 9 ∧ sayB S[k]) ∨ (S[k].toNat = 10 ∧ sayB S[k]) ∨ (S[k].toNat < 32 ∧ S[k].toNat ≠ 9 ∧ S[k].toNat ≠ 10) := by
        by_cases h1 : 32 ≤ S[k].toNat
        · exact .inl ⟨h1, .inl h1⟩
        by_cases h2 : S[k].toNat = 9
        · exact .inr (.inl ⟨h2, .inr (.inl (UInt8.toNat_inj.1 h2))⟩)
        by_cases h3 : S[k].toNat = 10
        · exact .inr (.inr (.inl ⟨h3, .inr (.inr (UInt8.toNat_inj.1 h3))⟩))
        · exact .inr (.inr (.inr ⟨by omega, h2, h3⟩))
      have nxt : sayB S[k] → Hid (saysTo S (k + 1)) := fun h i hi hik => by
        by_cases e : i = k
        · subst e; exact h
        · exact hsay.out i hi (by omega)
      rcases hways with ⟨h1, h2⟩ | ⟨h1, h2⟩ | ⟨h1, h2⟩ | ⟨h1, h2, h3⟩
      · have N := nxt h2
        have p1 : ¬ (S[k].toNat : Int) < 32 := by omega
        clear nxt h2
        go_wp2
        exact ⟨⟨k + 1, by omega, by go_num, N⟩, by simp [intOf]; omega⟩
      · have N := nxt h2
        have p1 : (S[k].toNat : Int) < 32 := by omega
        have p2 : ((S[k].toNat : Int) == 9) = true := by simp; omega
        have p3 : ((S[k].toNat : Int) != 9) = false := by simp; omega
        clear nxt h2
        go_wp2
        exact ⟨⟨k + 1, by omega, by go_num, N⟩, by simp [intOf]; omega⟩
      · have N := nxt h2
        have p1 : (S[k].toNat : Int) < 32 := by omega
        have p2 : ((S[k].toNat : Int) != 9) = true := by simp; omega
        have p3 : ((S[k].toNat : Int) != 10) = false := by simp; omega
        clear nxt h2
        go_wp2
        exact ⟨⟨k + 1, by omega, by go_num, N⟩, by simp [intOf]; omega⟩
      · have p1 : (S[k].toNat : Int) < 32 := by omega
        have p2 : ((S[k].toNat : Int) != 9) = true := by simp; omega
        have p3 : ((S[k].toNat : Int) != 10) = true := by simp; omega
        clear nxt
        go_wp2
        go_ret
        exact ⟨rfl, HB2.out⟩
    · have hall : Hid (∀ b ∈ S.data.toList, sayB b) := says_all (by
        intro i hi _
        exact hsay.out i hi (by omega))
      have hl := hlq.out hall.out
      by_cases h256 : 256 < S.size
      · rw [if_pos h256] at hl
        have H1 := HL.out
        rw [hl] at H1
        have HL1 := hideP H1
        clear hl H1
        go_wp2_with fail
        refine (HL1.out _ (HT.out.below HB2.out)).mono ?_
        intro e w3 hp
        obtain ⟨rfl, hb3⟩ := lexP_bad hp
        have HB3 := hideP (below_next (below_next HB2.out hb3) (bl_alloc w3 (dgO 1 1 2)))
        unfold dgO at HB3
        clear hp hb3
        go_wp2
        go_ret
        exact ⟨rfl, HB3.out⟩
      · rw [if_neg h256] at hl
        have H1 := HL.out
        rw [hl] at H1
        have HL1 := hideP H1
        clear hl H1
        go_wp2_with fail
        refine (HL1.out _ (HT.out.below HB2.out)).mono ?_
        intro e w3 hp
        obtain ⟨g, cap, rfl, ho, hb3⟩ := lexP_toks hp
        have q0 := tok_at ho 0 (by simp)
        have hgl := tok_lt ho (by simp)
        have HB3 := hideP (below_next (below_next HB2.out hb3) (bl_alloc w3 (dgO 0 0 0)))
        have r0 := ((bl_alloc w3 (dgO 0 0 0)).cell (p := ⟨g, 4 * 0, none⟩) hgl).trans q0.1
        have r1 := ((bl_alloc w3 (dgO 0 0 0)).cell (p := ⟨g, 4 * 0 + 1, none⟩) hgl).trans q0.2.1
        unfold dgO at HB3 r0 r1
        simp only [List.getElem_cons_zero, Nat.mul_zero, Nat.zero_add, List.length_cons, List.length_nil] at r0 r1 ⊢
        have hss : ((ByteArray.mk S.data.toList.toArray).toList == S.toList) = true := str_eq.2 (by rw [Array.toArray_toList])
        clear hp hb3 ho q0
        go_wp2
        go_ret
        exact ⟨rfl, HB3.out⟩

set_option maxRecDepth 100000 in
theorem lexQuotes_lifted (os : Os) (started : os.Started) (H : Type) (enc : TypeId × Value → H) :
    ReturnsInHanded {} Tryd.checked os 5 .any (fun w args => (Rows.lexQuotesSpec.pre enc Tryd.prog Tryd.f5 [] false w args ∧ laidMetH Tryd.prog laidL w) ∧ sizedMet enc Tryd.prog Tryd.f5 (OpenSpec.ofChange Rows.lexQuotesSpec) false w args)
      (Rows.lexQuotesSpec.post enc Tryd.prog Tryd.f5 false true false false) := by
  refine returnsInHanded_of_change_and (C := Tryd.checked) (X := fun w _ => laidMetH Tryd.prog laidL w) (fun _ _ _ hh h => h.of_heap hh) own started (by kernel_rfl) Tryd.func5
    (ChangeSpec.witness_shaped (enc := enc) (C := Tryd.checked) (os := os) (X := fun w _ => laidMetH Tryd.prog laidL w) false (World.doorLaid Tryd.prog 24 os) #[.string ByteArray.empty] 8 rfl (World.shaped_of_RefB (by kernel_rfl) (by kernel_rfl)) (by kernel_rfl) (by kernel_rfl) (by kernel_rfl) (door_met os _)) ?_
  intro W base args ds gs before hval0 hW _ hsz0 hL _
  have htab := tab_of_laid hL
  have hval : ∀ (j : Nat) t v, Tryd.f5.params[j]? = some t → args[j]? = some v → Value.okWide Tryd.prog W .any base t v := hval0
  have hW' := hW
  obtain ⟨p, q, hA0, hV, rfl, hfz, hnd⟩ := hW
  have hA : DataW.TrodAll enc Tryd.prog W 0 (fun _ => true) true Tryd.f5.params.toList args.toList ds p := hA0
  have hsz : (DataW.weightsEach Tryd.prog (Tryd.f5.params.toList ++ Rows.lexQuotesSpec.plain.varTypes Tryd.prog) (ds ++ gs)).all (· ≤ reachBytes) = true := hsz0
  rw [Tryd.params5] at hA hval hsz
  obtain ⟨v0, vs0, d0, ds0, p0, q0, hargs, rfl, rfl, h0, r0⟩ := trodAll_cons hA
  obtain ⟨rfl, rfl, rfl⟩ := trodAll_nil r0
  obtain rfl : args = #[v0] := by cases args; simp_all
  obtain ⟨rfl, rfl⟩ := trodVars_none hV
  obtain ⟨a0, rfl, rfl, rfl, w0⟩ := open_string Tryd.underlying9 (hval 0 9 v0 rfl rfl) h0
  have s0 : a0.size ≤ 140737488351232 := string_reach (sized_string hsz (j := 0) (t := 9) rfl rfl)
  clear hA0 hval0
  refine (lexQuotes_walk a0 W htab s0).mono fun e W' ⟨he, bel⟩ => ?_
  subst he
  exact ⟨_, rfl, _, _, _, [], _, [], hW', trodAll_mk1 (shut_bool Tryd.underlying4 _), (trodAll_cons_mk (shut_string Tryd.underlying9 w0) trodAll_mk0), rfl, bel.frame _, fun h => by cases h⟩

theorem lexQuotes_over : Rows.LexQuotesSaid :=
  OpenClaim.holds_of_wide 5 Tryd.f5 rfl rfl rfl rfl rfl rfl rfl ⟨rfl, rfl, rfl, rfl, rfl⟩ rfl rfl rfl rfl rfl (by kernel_rfl) Tryd.func5 (by kernel_rfl)
    (of_decide_eq_true (by kernel_rfl)) (by unfold Func.isWrapper; rw [if_neg (of_decide_eq_false (by kernel_rfl))]; exact ⟨rfl, rfl⟩)
    (fun os started H enc _ => lexQuotes_lifted os started H enc)

theorem lexQuotes_card : Rows.LexQuotesCardSaid :=
  Claim7.holds_tied_plain_at .later [] [.data] true Rows.lexQuotesCard.stood.harness false
    lexQuotes_over (fun _ h => by cases h) (by kernel_rfl) (fun _ h => by cases h) lexQuotes_row_tie rfl ⟨rfl, rfl⟩ (by kernel_rfl) (by kernel_rfl)
    (fun f fn hf hfn => by
      obtain rfl : f = 5 := Option.some.inj ((show Tryd.prog.funcNamed Rows.lexQuotesRow.func = some 5 by kernel_rfl).symm.trans hf) |>.symm
      obtain rfl : fn = Tryd.f5 := (Option.some.inj (Tryd.func5.symm.trans hfn)).symm
      exact ⟨by kernel_rfl, fun j t ht => by
        rw [Tryd.params5] at ht
        have hm : t ∈ [9] := by simpa using Array.mem_of_getElem? ht
        have hall : ([9].all fun u => !Tryd.prog.wantsStandIn u) = true := by kernel_rfl
        exact (show Tryd.prog.wantsStandIn t = false by simpa using List.all_eq_true.1 hall t hm)⟩)
    (by kernel_rfl)
end Go.Proofs.YtgoppgopnhmhfaaDoor
