/- gradusref02.Lex by a contract: the same as lex.Lex's. -/
import Derived.Test.YtgoppgopnhmhfaaDoorTokenR2
import Derived.Test.YtgoppgopnhmhfaaDoorBlankR
namespace Go.Proofs.YtgoppgopnhmhfaaDoor
open Go.RowKit

/-- Ahead of the blanks: 'rest' is left, the tokens acc are there: the text's tokens are R. -/
def LexHd (R : Lx) (rest : List UInt8) (p : Nat × Nat) (acc : List Tok) : Prop := ∃ r q, skipV false rest p.1 p.2 = (r, q) ∧ LexAt R r q.1 q.2 acc

theorem lexHd_start {l : List UInt8} (hl : l.length ≤ 65536) : LexHd (lexV l) l (1, 1) [] :=
  ⟨(skipV false l 1 1).1, (skipV false l 1 1).2, rfl, lexAt_start hl rfl⟩

theorem lexHd_at {R : Lx} {rest : List UInt8} {p : Nat × Nat} {acc : List Tok} {n : Nat} (h : LexHd R rest p acc) (hb : BlankAt rest n) : LexAt R (rest.drop n) (placeV (rest.take n) p).1 (placeV (rest.take n) p).2 acc := by
  obtain ⟨r, q, hs, hat⟩ := h
  rw [hb.2 p] at hs
  injection hs with h1 h2
  rw [h1, h2]
  exact hat

theorem lexHd_tok {R : Lx} {rest t r2 : List UInt8} {li co : Nat} {acc : List Tok} {k : Int} (h : LexAt R rest li co acc) (hr : rest ≠ []) (he : readV rest = .tok k t r2) (hn : acc.length ≠ 8192) : LexHd R r2 (li, co + (rest.length - r2.length)) (acc ++ [⟨k, t, li, co⟩]) :=
  ⟨_, _, rfl, lexAt_tok h hr he hn rfl⟩

theorem extract_end (S : ByteArray) (k : Nat) : (S.extract k S.size).data.toList = S.data.toList.drop k := by
  rw [extract_eq]
  exact List.take_of_length_le (by rw [List.length_drop, byteArray_len]; omega)

theorem extract_endS (S : ByteArray) (k : Nat) : (S.extract k S.size).size = S.size - k := by
  rw [← byteArray_len, extract_end, List.length_drop, byteArray_len]

theorem place_dropS {S : ByteArray} {k m : Nat} (hm : k + m < S.size) (p : Nat × Nat) : placeV ((S.data.toList.drop k).take (m + 1)) p = stepP (placeV ((S.data.toList.drop k).take m) p) S[k + m] := by
  have h : m < (S.data.toList.drop k).length := by rw [List.length_drop, byteArray_len]; omega
  rw [List.take_succ_eq_append_getElem h, placeV_append]
  have e : (S.data.toList.drop k)[m] = S[k + m] := by
    rw [List.getElem_drop]
    rfl
  rw [e]
  rfl

/-- What of the call's own memory stays through a round: the Diag, the tokens so far. -/
structure CoreR (w wr : World) (v : Value) (acc : List Tok) : Prop where
  dg : DiagB wr w.heap.size 0 0 0
  bl : Below w.heap.size w wr
  ow : wr.ownsRow (w.heap.size + 1) 35 4 v acc.length (tokCells acc)
  sz : w.heap.size < wr.heap.size

section
variable {w wr wr' : World} {v : Value} {acc : List Tok}
theorem CoreR.next (h : CoreR w wr v acc) (hb : Below wr.heap.size wr wr') : CoreR w wr' v acc where
  dg := by
    unfold DiagB
    rw [hb.block _ h.sz]
    exact h.dg
  bl := h.bl.trans (hb.mono h.bl.size)
  ow := by
    obtain ⟨h1, h2⟩ := h.ow
    refine ⟨h1, ?_⟩
    rcases h2 with h2 | ⟨g, cap, cur, rfl, hg, hh, r⟩
    · exact .inl h2
    · refine .inr ⟨g, cap, cur, rfl, hg, ?_, r⟩
      rw [hb.block g (lt_of_block hh)]
      exact hh
  sz := Nat.lt_of_lt_of_le h.sz hb.size

theorem CoreR.app (h : CoreR w wr v acc) {ob : Obj} {v' : Value} {w1 : World} {t : Tok} (ho : w1.ownsRow (w.heap.size + 1) 35 4 v' (acc.length + 1) (tokCells acc ++ t.cells)) (hg : (wr.alloc ob).grownBy w1 v.ownBlock) : CoreR w w1 v' (acc ++ [t]) := by
  have hsz := h.sz
  refine ⟨?_, ?_, ?_, ?_⟩
  · unfold DiagB
    rw [hg.block _ (by simp; omega) (fun e => by have := (own_lt h.ow _ e.symm).1; omega), heap_alloc_old _ _ hsz]
    exact h.dg
  · refine (h.bl.alloc h.bl.size _).grown hg (by have := h.bl.size; simp; omega) fun j hj => ?_
    have := (own_lt h.ow _ hj).1
    omega
  · rw [List.length_append, tokCells_snoc]
    exact ho
  · have := hg.size
    simp at this
    omega
end

theorem tok_newN (W : World) (t : Tok) (ty : TypeId) {n : Nat} (hn : W.heap.size = n) : ∀ j u, t.cells[j]? = some u → (W.alloc (.cells #[.int .i64 t.kind, .string ⟨t.text.toArray⟩, .int .i64 t.line, .int .i64 t.col] ty)).cell? ((⟨n, 0, none⟩ : Addr).add j) = some u := by
  subst hn
  exact tok_new W t ty

set_option maxHeartbeats 4000000 in
set_option maxRecDepth 100000 in
theorem lexR_long (S : ByteArray) (hS : 65536 < S.size) (hS2 : S.size ≤ 140737488351232) (w : World) :
    Calls Tryd.prog 11 #[.string S] w (LexPost w (.bad 2 1 1)) := by
  go_enter Tryd.func11, Tryd.ntmps11
  go_wp2
  refine bodyPost_ret (results_tmp_cell rfl _ rfl (heap_alloc_last w _) Tryd.underlying26 diag_size) rfl ?_
  exact ⟨(Below.refl _ w).alloc (Nat.le_refl _) _, rfl⟩

set_option maxHeartbeats 8000000 in
set_option maxRecDepth 100000 in
theorem lexR_short (S : ByteArray) (hS : S.size ≤ 65536) (w : World) :
    Calls Tryd.prog 11 #[.string S] w (LexPost w (lexV S.data.toList)) := by
  obtain ⟨R, hR⟩ : ∃ R, R = lexV S.data.toList := ⟨_, rfl⟩
  rw [← hR]
  have hst : Hid (LexHd R (S.data.toList.drop 0) (1, 1) []) := by
    rw [hR, List.drop_zero]
    exact lexHd_start (by rw [byteArray_len]; exact hS)
  clear hR
  obtain ⟨i0, hi, hz0, hz1, hz2⟩ := info_parts info_tok
  have hcore : Hid (CoreR w (w.alloc (.cells #[.int .i64 0, .int .i64 0, .int .i64 0, .int .i64 0] 26)) (.slice none 0 0) []) :=
    ⟨heap_alloc_last w _, bl_alloc w _, World.ownsRow_nil _ _ _ _, by simp⟩
  go_enter Tryd.func11, Tryd.ntmps11
  go_wp2
  go_loopw [4, 5, 6, 7] (fun v a b c wr => ∃ (k li co : Nat) (acc : List Tok), Hid (CoreR w wr v acc) ∧ k ≤ S.size ∧ li ≤ k + 1 ∧ co ≤ k + 1 ∧ acc.length ≤ 8192 ∧ a = .int .i64 li ∧ b = .int .i64 co ∧ c = .int .i64 k ∧ Hid (LexHd R (S.data.toList.drop k) (li, co) acc)) (fun _ _ _ c _ => S.size - (intOf c).toNat)
  case atStart => exact ⟨0, 1, 1, [], hcore, Nat.zero_le _, by omega, by omega, by simp, rfl, rfl, rfl, hst⟩
  case round =>
    clear hcore hst
    obtain ⟨k, li, co, acc, hco, hk, hli, hcol, hal, rfl, rfl, rfl, hhd⟩ := hrel
    obtain ⟨a, cap, rfl⟩ := owns_shape hco.out.ow
    have hbc := blankR_c (S.extract k S.size) (by rw [extract_endS]; omega)
    rw [extract_end] at hbc
    have HBC := hideP hbc
    have kI : (k : Int) ≤ (S.size : Int) := by omega
    clear hbc
    go_wp2_with fail
    refine (HBC.out _).mono ?_
    rintro e w' ⟨⟨n, rfl, hbl⟩, rfl⟩
    have hnl := hbl.1
    rw [List.length_drop, byteArray_len] at hnl
    have HAT := hideP (lexHd_at hhd.out hbl)
    rw [List.drop_drop] at HAT
    clear hbl hhd HBC
    go_wp2
    go_loop [5, 6, 9] (fun a b c => ∃ (m l2 c2 : Nat), m ≤ n ∧ l2 ≤ k + m + 1 ∧ c2 ≤ k + m + 1 ∧ c = .int .i64 ((k + m : Nat) : Int) ∧ a = .int .i64 l2 ∧ b = .int .i64 c2 ∧ Hid (placeV ((S.data.toList.drop k).take m) (li, co) = (l2, c2))) (fun _ _ c => k + n - (intOf c).toNat)
    case atStart => exact ⟨0, li, co, Nat.zero_le _, by omega, by omega, rfl, rfl, rfl, rfl⟩
    case round =>
      obtain ⟨m, l2, c2, hm, hl2, hc2, rfl, rfl, rfl, hpm⟩ := hrel
      by_cases hmn : m < n
      · have hkm : k + m < S.size := by omega
        have hI : (k : Int) + (m : Int) < (S.size : Int) := by omega
        have hJ : (k : Int) + (m : Int) < (k : Int) + (n : Int) := by omega
        have hstep := place_dropS hkm (li, co)
        rw [hpm.out] at hstep
        unfold stepP at hstep
        simp only at hstep
        by_cases h10 : S[k + m].toNat = 10
        · have e10 : S[k + m] = 10 := UInt8.toNat_inj.1 h10
          rw [if_pos e10] at hstep
          have p10 : ((S[k + m].toNat : Int) == 10) = true := by simp; omega
          have HST := hideP hstep
          clear hstep e10 h10
          go_wp2
          refine ⟨⟨m + 1, l2 + 1, 1, by omega, by omega, by omega, by go_num, by go_num, by go_num, HST.out⟩, by simp [intOf]; omega⟩
        · have e10 : ¬ S[k + m] = 10 := fun e => h10 (by rw [e]; rfl)
          rw [if_neg e10] at hstep
          have p10 : ((S[k + m].toNat : Int) == 10) = false := by simp; omega
          have HST := hideP hstep
          clear hstep e10 h10
          go_wp2
          refine ⟨⟨m + 1, l2, c2 + 1, by omega, by omega, by omega, by go_num, by go_num, by go_num, HST.out⟩, by simp [intOf]; omega⟩
      · have hmn2 : m = n := by omega
        subst hmn2
        rw [hpm.out] at HAT
        have HAT2 : Hid (LexAt R (S.data.toList.drop (k + m)) l2 c2 acc) := HAT.out
        have hJ : ¬ (k : Int) + (m : Int) < (k : Int) + (m : Int) := by omega
        clear hpm HAT
        by_cases hlt : k + m < S.size
        · have hI : ¬ (S.size : Int) ≤ (k : Int) + (m : Int) := by omega
          have hI2 : (k : Int) + (m : Int) ≤ (S.size : Int) := by omega
          have htc := tokenR_c (S.extract (k + m) S.size) (by rw [extract_endS]; omega) (by rw [extract_endS]; omega)
          rw [extract_end] at htc
          have HTC := hideP htc
          have HNE : Hid (S.data.toList.drop (k + m) ≠ []) := by
            rw [byteArray_drop S (k + m) hlt]
            exact List.cons_ne_nil _ _
          clear htc
          go_wp2_with fail
          refine (HTC.out _).mono ?_
          intro e w2 hp
          have HP := hideP hp
          clear hp HTC
          cases hrd : readV (S.data.toList.drop (k + m)) with
          | inl x =>
            have hp := HP.out
            rw [hrd] at hp
            obtain ⟨hb2, hx, rfl⟩ := hp
            have hbad := lexAt_bad HAT2.out HNE.out hrd
            have hcoc := hco.out.next (below_next hb2 (bl_alloc w2 (.cells #[.int .i64 0, .string { data := #[] }, .int .i64 0, .int .i64 0] 35)))
            have hdg := hideP hcoc.dg
            have hbl := hideP hcoc.bl
            have g0 := hcoc.dg.c 0 (by omega)
            have g1 := hcoc.dg.c 1 (by omega)
            have g2 := hcoc.dg.c 2 (by omega)
            have g3 := hcoc.dg.c 3 (by omega)
            simp only [List.getD_cons_zero, List.getD_cons_succ] at g0 g1 g2 g3
            have z0 := hcoc.dg.fz 0
            have z1 := hcoc.dg.fz 1
            have z2 := hcoc.dg.fz 2
            have z3 := hcoc.dg.fz 3
            have x0 : (x == 0) = false := by simpa using hx
            have x1 : (x != 0) = true := by simpa using hx
            subst hbad
            clear hrd HP hb2 hcoc HAT2 HNE hx
            go_wp2
            refine bodyPost_ret (results_tmp_cell rfl _ rfl (hdg.out.set _ _ _) Tryd.underlying26 diag_size) rfl ?_
            exact ⟨below_diag hbl.out _ _ _ _, rfl⟩
          | inr q =>
            obtain ⟨kd, t, rest⟩ := q
            have hp := HP.out
            rw [hrd] at hp
            obtain ⟨hb2, n2, hn0, hn2, hrest, rfl⟩ := hp
            rw [extract_endS] at hn2
            rw [extract_end, List.drop_drop] at hrest
            have HREST := hideP hrest
            have HRD := hideP hrd
            have HB2 := hideP hb2
            clear hrest hrd hb2 HP
            by_cases hmany : acc.length = 8192
            · have hm1 : ((acc.length : Int) == 8192) = true := by simp; omega
              have hbad := lexAt_many HAT2.out HNE.out HRD.out hmany
              have hcoc := hco.out.next (below_next HB2.out (bl_alloc w2 (.cells #[.int .i64 kd, .string ⟨t.toArray⟩, .int .i64 0, .int .i64 0] 35)))
              have hdg := hideP hcoc.dg
              have hbl := hideP hcoc.bl
              have g0 := hcoc.dg.c 0 (by omega)
              have g1 := hcoc.dg.c 1 (by omega)
              have g2 := hcoc.dg.c 2 (by omega)
              have g3 := hcoc.dg.c 3 (by omega)
              simp only [List.getD_cons_zero, List.getD_cons_succ] at g0 g1 g2 g3
              have z0 := hcoc.dg.fz 0
              have z1 := hcoc.dg.fz 1
              have z2 := hcoc.dg.fz 2
              have z3 := hcoc.dg.fz 3
              subst hbad
              clear hcoc HAT2 HNE HRD HREST hmany
              go_wp2
              refine bodyPost_ret (results_tmp_cell rfl _ rfl (hdg.out.set _ _ _) Tryd.underlying26 diag_size) rfl ?_
              exact ⟨below_diag hbl.out _ _ _ _, rfl⟩
            · have hm1 : ((acc.length : Int) == 8192) = false := by simp; omega
              have hcoc := hideP (hco.out.next (below_next HB2.out (bl_alloc w2 (.cells #[.int .i64 kd, .string ⟨t.toArray⟩, .int .i64 l2, .int .i64 c2] 35))))
              go_wp2_with (at_builtin; refine wpList_append_own _ rfl (.tmp 76) (.tmp 78) 23 rfl (w.heap.size + 1) 35 i0 _ 4 40 Tryd.underlying23 hi hz0 hz1 hz2 rfl (by decide) _ _ _ rfl (hcoc.out.ow.alloc _) ⟨_, 0, none⟩ 1 1 (Tok.cells ⟨kd, t, l2, c2⟩) rfl rfl (tok_newN _ ⟨kd, t, l2, c2⟩ 35 (World.size_alloc _ _)) (tok_one _) (by unfold maxLen; omega) (by omega) (by have h1 := hcoc.out.sz; rw [World.size_alloc] at h1; rw [World.size_alloc, World.size_alloc]; omega) ?_)
              intro v' w3 hown' hgrow _
              have hal2 : acc.length + 1 ≤ 8192 := by omega
              have HCO3 := hideP (hcoc.out.app (t := ⟨kd, t, l2, c2⟩) hown' hgrow)
              have hhd := lexHd_tok HAT2.out HNE.out HRD.out hmany
              rw [HREST.out, List.length_drop, List.length_drop, byteArray_len, show S.size - (k + m) - (S.size - (k + m + n2)) = n2 from by omega] at hhd
              have HHD := hideP hhd
              clear hown' hgrow hhd hcoc HAT2 HNE HRD HREST hmany
              go_wp2
              refine ⟨⟨k + m + n2, l2, c2 + n2, acc ++ [⟨kd, t, l2, c2⟩], HCO3, by omega, by omega, by omega, by simp; omega, rfl, by go_num, by go_num, HHD⟩, by simp [intOf]; omega⟩
        · have hnil : S.data.toList.drop (k + m) = [] := List.drop_eq_nil_of_le (by rw [byteArray_len]; omega)
          have hend := HAT2.out
          rw [hnil] at hend
          have HEND := hideP (lexAt_end hend)
          have hI : (S.size : Int) ≤ (k : Int) + (m : Int) := by omega
          clear hnil hend HAT2
          go_wp2_with (at_builtin; refine wpList_append_own _ rfl (.tmp 44) (.tmp 48) 23 rfl (w.heap.size + 1) 35 i0 _ 4 40 Tryd.underlying23 hi hz0 hz1 hz2 rfl (by decide) _ _ _ rfl (hco.out.ow.alloc _) ⟨_, 0, none⟩ 1 1 (Tok.cells ⟨0, [], l2, c2⟩) rfl rfl (tok_new _ ⟨0, [], l2, c2⟩ 35) (tok_one _) (by unfold maxLen; omega) (by omega) (by have := hco.out.sz; simp; omega) ?_)
          intro v' w3 hown' hgrow _
          have hco3 := hco.out.app (t := ⟨0, [], l2, c2⟩) hown' hgrow
          have hdg := hideP hco3.dg
          have hbl := hideP hco3.bl
          obtain ⟨g, cap', rfl⟩ : ∃ g cap', v' = .slice (some ⟨g, 0, none⟩) (acc.length + 1) cap' := by
            rcases hown'.2 with ⟨_, h0⟩ | ⟨g, cap', cur, h1, _⟩
            · omega
            · exact ⟨g, cap', h1⟩
          have hgb := (own_lt hown' g rfl).1
          have how := hideP hco3.ow
          have g0 := hco3.dg.c 0 (by omega)
          have g1 := hco3.dg.c 1 (by omega)
          have g2 := hco3.dg.c 2 (by omega)
          have g3 := hco3.dg.c 3 (by omega)
          simp only [List.getD_cons_zero, List.getD_cons_succ] at g0 g1 g2 g3
          have z0 := hco3.dg.fz 0
          have z1 := hco3.dg.fz 1
          have z2 := hco3.dg.fz 2
          have z3 := hco3.dg.fz 3
          clear hown' hgrow hco3
          go_wp2
          refine bodyPost_ret (results_tmp_cell rfl _ rfl (hdg.out.set _ _ _) Tryd.underlying26 diag_size) rfl ?_
          rw [HEND.out]
          refine ⟨below_diag hbl.out _ _ _ _, g, cap', ?_, ?_⟩
          · simp [diagA]
          · have ho := owns_lower how.out (show w.heap.size ≤ w.heap.size + 1 by omega)
            rw [List.length_append] at ho ⊢
            have hne : ∀ o, (Value.slice (some ⟨g, 0, none⟩) (acc.length + 1) cap').ownBlock ≠ some (⟨w.heap.size, o, none⟩ : Addr).block := fun o e => by
              simp [Value.ownBlock] at e
              omega
            exact ownsRow_setCell_other (ownsRow_setCell_other (ownsRow_setCell_other (ownsRow_setCell_other ho (hne 0) _) (hne 1) _) (hne 2) _) (hne 3) _

theorem lexR_c (S : ByteArray) (hS : S.size ≤ 140737488351232) (w : World) : Calls Tryd.prog 11 #[.string S] w (LexPost w (lexV S.data.toList)) := by
  by_cases h : S.size ≤ 65536
  · exact lexR_short S h w
  · rw [lexV, if_pos (by rw [byteArray_len]; omega)]
    exact lexR_long S (by omega) hS w
end Go.Proofs.YtgoppgopnhmhfaaDoor
