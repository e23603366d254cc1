/- gradusref02.token by a contract: the token that a text begins with. -/
import Derived.Test.YtgoppgopnhmhfaaDoorWordR
import Derived.Test.YtgoppgopnhmhfaaDoorSgnR
import Derived.Test.YtgoppgopnhmhfaaDoorQuotR
import Derived.Test.YtgoppgopnhmhfaaDoorParRL
namespace Go.Proofs.YtgoppgopnhmhfaaDoor
open Go.RowKit

/-- What a call of token leaves. -/
def TokPost (S : ByteArray) (w : World) (R : Rd) (e : Ending) (w' : World) : Prop :=
  Below w.heap.size w w' ∧ match R with
  | .inl x => x ≠ 0 ∧ e = .returned (.tuple #[.agg #[.int .i64 0, .string { data := #[] }, .int .i64 0, .int .i64 0], .int .i64 0, .int .i64 x])
  | .inr (k, t, rest) => ∃ n : Nat, 0 < n ∧ n ≤ S.size ∧ rest = S.data.toList.drop n ∧ e = .returned (.tuple #[.agg #[.int .i64 k, .string ⟨t.toArray⟩, .int .i64 0, .int .i64 0], .int .i64 n, .int .i64 0])

theorem results_cell_tmps {fn : Func} {p u v : Tmp} {ty : TypeId} (h : fn.results = #[.cell p ty, .tmp u, .tmp v]) (tmps : Array Value) {P : Program} {w : World} {g : Nat} {t : TypeId} {cs : Array Value} {fr : Nat × Nat} {fs : Array Field}
    (hp : tmps.getD p undef = .pointer (some ⟨g, 0, none⟩)) (hg : w.heap[g]? = some (.cells cs t fr))
    (hu : P.underlying ty = some (.struct fs)) (hi : (P.info? ty).map (·.size) = some cs.size) :
    (results fn tmps).run P w = .ok (.tuple #[.agg cs, tmps.getD u undef, tmps.getD v undef]) w := by
  have hp' : tmps[p]?.getD undef = .pointer (some ⟨g, 0, none⟩) := by simpa using hp
  simp [results, h, hp', asAddr, run_loadVar_row w g t ty cs fr _ hg hu rfl hi]

theorem tok_size : (Tryd.prog.info? 35).map (·.size) = some 4 := by kernel_rfl

theorem TokB.set {w : World} {tb : Nat} {kind : Int} {text : ByteArray} {li co : Int} (h : TokB w tb kind text li co) (k' : Int) (t' : ByteArray) (li' co' : Int) :
    TokB ((((w.setCell ⟨tb, 0, none⟩ (.int .i64 k')).setCell ⟨tb, 1, none⟩ (.string t')).setCell ⟨tb, 2, none⟩ (.int .i64 li')).setCell ⟨tb, 3, none⟩ (.int .i64 co')) tb k' t' li' co' :=
  cells_setCell (cells_setCell (cells_setCell (cells_setCell h)))

/-- The result's block is there still. -/
theorem tok_kept {w w2 : World} (h : Below (w.alloc (.cells #[.int .i64 0, .string { data := #[] }, .int .i64 0, .int .i64 0] 35)).heap.size (w.alloc (.cells #[.int .i64 0, .string { data := #[] }, .int .i64 0, .int .i64 0] 35)) w2) : TokB w2 w.heap.size 0 { data := #[] } 0 0 := by
  unfold TokB
  rw [h.block _ (by simp)]
  exact heap_alloc_last w _

theorem let_not_dig {b : UInt8} (h : isLet b = true) : isDig b = false := by
  cases hd : isDig b
  · rfl
  · rw [let_dig hd] at h
    cases h

theorem row_take (S : ByteArray) (p : UInt8 → Bool) : (S.extract 0 (rowV S 0 p)).data.toList = S.data.toList.takeWhile p := by
  rw [extract_row, List.drop_zero]

set_option maxHeartbeats 8000000 in
set_option maxRecDepth 100000 in
theorem tokenR_let (S : ByteArray) (h0 : 0 < S.size) (hS : S.size ≤ 65536) (hl : isLet S[0] = true) (w : World) : Calls Tryd.prog 24 #[.string S] w (TokPost S w (readV S.data.toList)) := by
  have hrd := read_drop (k := 0) h0
  rw [List.drop_zero, hl, if_pos rfl] at hrd
  have hl0 := letterR_c S[0]
  have hd0 := digitR_c S[0]
  rw [hl] at hl0
  rw [let_not_dig hl] at hd0
  have HL0 := hideP hl0
  have HD0 := hideP hd0
  have hgt := row_gt (p := inNm) h0 (by simp [inNm, hl])
  have hle := rowV_le S 0 inNm (by omega)
  have htk := row_take S inNm
  have hrl : rowV S 0 inNm = (S.data.toList.takeWhile inNm).length := by unfold rowV; simp
  rw [← hrl, ← htk] at hrd
  obtain ⟨r, hr⟩ : ∃ r, r = rowV S 0 inNm := ⟨_, rfl⟩
  have hrow := hideP hr
  have hwc := wordR_c (S.extract 0 r)
  rw [← hr] at hrd hgt hle
  obtain ⟨R, hR⟩ : ∃ R, R = readV S.data.toList := ⟨_, rfl⟩
  rw [← hR] at hrd ⊢
  have HRD := hideP hrd
  have HWC := hideP hwc
  have h0I : (0 : Int) < (S.size : Int) := by omega
  clear hl0 hd0 hl hr hrd htk hrl hR hwc
  go_enter Tryd.func24, Tryd.ntmps24
  go_wp2_with fail
  refine (HL0.out _).mono ?_
  rintro e w' ⟨rfl, rfl⟩
  go_wp2_with fail
  refine (HD0.out _).mono ?_
  rintro e w' ⟨rfl, rfl⟩
  go_wp2
  go_loop [7] (fun i => ∃ m : Nat, m ≤ S.size ∧ i = .int .i64 m ∧ Hid (r = rowV S m inNm)) (fun i => S.size - (intOf i).toNat)
  case atStart => exact ⟨0, Nat.zero_le _, rfl, hrow⟩
  case round =>
    obtain ⟨m, hm, rfl, hrm⟩ := hrel
    by_cases hin : ∃ h : m < S.size, inNm S[m] = true
    · obtain ⟨hlt, hin⟩ := hin
      have hltI : (m : Int) < (S.size : Int) := by omega
      have hl1 := letterR_c S[m]
      have hd1 := digitR_c S[m]
      have N : Hid (r = rowV S (m + 1) inNm) := hrm.out.trans (rowV_on hlt hin)
      have hab : (isLet S[m] = true ∧ isDig S[m] = false) ∨ (isLet S[m] = false ∧ isDig S[m] = true) ∨ (isLet S[m] = true ∧ isDig S[m] = true) := by
        revert hin
        unfold inNm
        cases isLet S[m] <;> cases isDig S[m] <;> simp
      clear hin
      rcases hab with ⟨ha, hb⟩ | ⟨ha, hb⟩ | ⟨ha, hb⟩
      all_goals
        rw [ha] at hl1
        rw [hb] at hd1
        have HL1 := hideP hl1
        have HD1 := hideP hd1
        clear hl1 hd1 ha hb
        go_wp2_with fail
        refine (HL1.out _).mono ?_
        rintro e w' ⟨rfl, rfl⟩
        go_wp2_with fail
        refine (HD1.out _).mono ?_
        rintro e w' ⟨rfl, rfl⟩
        go_wp2
        go_round
        case rel => exact ⟨m + 1, by omega, by go_num, N⟩
        case measure => simp [intOf]; omega
    · have hmr : r = m := by
        by_cases hlt : m < S.size
        · rw [hrm.out]
          refine rowV_off hlt ?_
          cases hq : inNm S[m]
          · rfl
          · exact absurd ⟨hlt, hq⟩ hin
        · rw [hrm.out, rowV_end hlt]
      subst hmr
      have mI : (r : Int) ≤ (S.size : Int) := by omega
      have hex : (∃ h : r < S.size, (r : Int) < (S.size : Int) ∧ isLet S[r] = false ∧ isDig S[r] = false) ∨ ¬ (r : Int) < (S.size : Int) := by
        by_cases hlt : r < S.size
        · have : inNm S[r] = false := by
            cases hq : inNm S[r]
            · rfl
            · exact absurd ⟨hlt, hq⟩ hin
          unfold inNm at this
          rw [Bool.or_eq_false_iff] at this
          exact .inl ⟨hlt, by omega, this.1, this.2⟩
        · exact .inr (by omega)
      clear hin hrm hrow
      rcases hex with ⟨hlt, hltI, ha, hb⟩ | hltI
      all_goals
        first
        | (have hl1 := letterR_c S[r]
           have hd1 := digitR_c S[r]
           rw [ha] at hl1
           rw [hb] at hd1
           have HL1 := hideP hl1
           have HD1 := hideP hd1
           clear hl1 hd1 ha hb
           go_wp2_with fail
           refine (HL1.out _).mono ?_
           rintro e w' ⟨rfl, rfl⟩
           go_wp2_with fail
           refine (HD1.out _).mono ?_
           rintro e w' ⟨rfl, rfl⟩)
        | skip
        by_cases h32 : 32 < r
        · have h32I : (32 : Int) < (r : Int) := by omega
          have e1 := HRD.out
          rw [if_pos h32] at e1
          subst e1
          clear HRD
          go_wp2
          refine bodyPost_ret (results_cell_tmps rfl _ rfl (heap_alloc_last w _) Tryd.underlying35 tok_size) rfl ?_
          exact ⟨bl_alloc w _, by decide, rfl⟩
        · have h32I : ¬ (32 : Int) < (r : Int) := by omega
          have e1 := HRD.out
          rw [if_neg h32] at e1
          have HE1 := hideP e1
          clear e1 HRD
          go_wp2_with fail
          refine (HWC.out _).mono ?_
          rintro e w2 ⟨rfl, hb2⟩
          have htb := tok_kept hb2
          have HTB := hideP htb
          have c0 := htb.c0
          have c1 := htb.c1
          have c2 := htb.c2
          have c3 := htb.c3
          have f0 := htb.fz 0
          have f1 := htb.fz 1
          have f2 := htb.fz 2
          have f3 := htb.fz 3
          have HB2 := hideP (below_next (bl_alloc w _) hb2)
          obtain ⟨b, hb⟩ : ∃ b, b = wordsV.contains (S.extract 0 r).data.toList := ⟨_, rfl⟩
          rw [← hb] at HE1 ⊢
          clear hb2 htb hb
          cases b
          · go_wp2
            refine bodyPost_ret (results_cell_tmps rfl _ rfl (HTB.out.set _ _ _ _) Tryd.underlying35 tok_size) rfl ?_
            rw [HE1.out]
            exact ⟨below_diag HB2.out _ _ _ _, r, hgt, hle, rfl, rfl⟩
          · go_wp2
            refine bodyPost_ret (results_cell_tmps rfl _ rfl (HTB.out.set _ _ _ _) Tryd.underlying35 tok_size) rfl ?_
            rw [HE1.out]
            exact ⟨below_diag HB2.out _ _ _ _, r, hgt, hle, rfl, rfl⟩
end Go.Proofs.YtgoppgopnhmhfaaDoor
