/- Part. -/
import Derived.BigRegion
import Derived.Laws.BytesArg
import Derived.Shelf.Strings.Builder1
import Derived.Shelf.Strings.Builder2
import Derived.Shelf.Small.Strs
import Derived.Shelf.Strconv.Itoa0
import Derived.Shelf.Strconv.Itoa1
import Derived.Shelf.LaysM
import Derived.Shelf.Strconv.Itoa2
import Derived.Shelf.Strconv.Itoa3
import Derived.Shelf.Strings.Search1
import Derived.Test.YtlhmofphpfdjlaaGreatDoorPart37
set_option maxRecDepth 100000
set_option maxHeartbeats 4000000
/- (*scanner).skip by a contract: blanks and comments are passed over. -/
namespace Go.Proofs.YtlhmofphpfdjlaaGreatDoor.Lx
open Go.Proofs.Tryz
open Go.RowKit
/-- Where the scanner of block sb stands. -/
def atOf (w : World) (sb : Nat) : Nat := match w.cell? ⟨sb, 1, none⟩ with | some v => (intOf v).toNat | none => 0
theorem Scan.at {w : World} {sb : Nat} {S : ByteArray} {k : Nat} {li ls : Int} {mb : Nat} (h : Scan w sb S k li ls mb) : atOf w sb = k := by
  unfold atOf
  rw [h.c1]
  simp [intOf]
/-- What is left from k on, the line, the column. -/
def skipAt (S : ByteArray) (k li ls : Nat) : List UInt8 × Nat × Nat := skipV false (S.data.toList.drop k) li (k - ls + 1)
theorem skipAt_lf {S : ByteArray} {k li ls : Nat} (hk : k < S.size) (h : S[k].toNat = 10) : skipAt S k li ls = skipAt S (k + 1) (li + 1) (k + 1) := by
  have e : S[k] = 10 := UInt8.toNat_inj.1 h
  unfold skipAt
  rw [byteArray_drop S k hk, skipV, if_pos e]
  simp
theorem skipAt_blank {S : ByteArray} {k li ls : Nat} (hk : k < S.size) (hl : ls <= k) (h : S[k].toNat = 32 ∨ S[k].toNat = 9 ∨ S[k].toNat = 13) : skipAt S k li ls = skipAt S (k + 1) li ls := by
  have e : S[k] = 32 ∨ S[k] = 9 ∨ S[k] = 13 := by
    rcases h with h | h | h
    · exact .inl (UInt8.toNat_inj.1 h)
    · exact .inr (.inl (UInt8.toNat_inj.1 h))
    · exact .inr (.inr (UInt8.toNat_inj.1 h))
  unfold skipAt
  rw [byteArray_drop S k hk, skipV, if_neg (by rintro e2; rw [e2] at e; revert e; decide), if_pos e]
  rw [show k - ls + 1 + 1 = k + 1 - ls + 1 from by omega]
theorem drop_row (S : ByteArray) (k : Nat) (p : UInt8 -> Bool) : S.data.toList.drop (rowV S k p) = (S.data.toList.drop k).dropWhile p := by
  unfold rowV
  rw [<- List.drop_drop]
  generalize S.data.toList.drop k = l
  induction l with
  | nil => rfl
  | cons b r ih =>
    by_cases h : p b = true
    · rw [List.takeWhile_cons_of_pos h, List.dropWhile_cons_of_pos h, List.length_cons, List.drop_succ_cons, ih]
    · rw [List.takeWhile_cons_of_neg h, List.dropWhile_cons_of_neg h]; rfl
theorem skipAt_remark {S : ByteArray} {k li ls : Nat} (hk : k < S.size) (hl : ls <= k) (h : S[k].toNat = 35) : skipAt S k li ls = skipAt S (rowV S k notLf) li ls /\ k < rowV S k notLf := by
  have e : S[k] = 35 := UInt8.toNat_inj.1 h
  have hn : notLf S[k] = true := by rw [e]; decide
  have hr := rowV_on hk hn
  have hlt : k + 1 <= rowV S (k + 1) notLf := by unfold rowV; omega
  refine ⟨?_, by omega⟩
  rw [hr]
  unfold skipAt
  rw [drop_row, byteArray_drop S k hk, skipV, if_neg (by rw [e]; decide), if_neg (by rw [e]; decide), if_pos e, skip_comment]
  unfold rowV
  rw [show k - ls + 1 + 1 + (List.takeWhile notLf (List.drop (k + 1) S.data.toList)).length = k + 1 + (List.takeWhile notLf (List.drop (k + 1) S.data.toList)).length - ls + 1 from by omega]
theorem skipAt_stay {S : ByteArray} {k li ls : Nat} (hk : k < S.size) (h : S[k].toNat ≠ 10 /\ S[k].toNat ≠ 32 /\ S[k].toNat ≠ 9 /\ S[k].toNat ≠ 13 /\ S[k].toNat ≠ 35) : skipAt S k li ls = (S.data.toList.drop k, li, k - ls + 1) := by
  have f : ∀ n : UInt8, S[k].toNat ≠ n.toNat -> ¬ S[k] = n := fun n hn e => hn (by rw [e])
  unfold skipAt
  rw [byteArray_drop S k hk, skipV, if_neg (f 10 h.1), if_neg, if_neg (f 35 h.2.2.2.2)]
  rintro (e | e | e)
  · exact f 32 h.2.1 e
  · exact f 9 h.2.2.1 e
  · exact f 13 h.2.2.2.1 e
theorem skipAt_end {S : ByteArray} {k li ls : Nat} (hk : ¬ k < S.size) : skipAt S k li ls = (S.data.toList.drop k, li, k - ls + 1) := by
  unfold skipAt
  rw [List.drop_eq_nil_of_le (by rw [byteArray_len]; omega)]
  rfl
theorem skip_c (S : ByteArray) (hS : S.size <= 65536) (sb mb k0 li0 ls0 : Nat) (hk0 : k0 <= S.size) (hls0 : ls0 <= k0) (hli0 : li0 <= k0 + 1) (w : World) (hsc : Scan w sb S k0 li0 ls0 mb) :
    Calls prog 49 #[.pointer (some ⟨sb, 0, none⟩)] w fun e w' => e = .returned (.tuple #[]) /\ ∃ k li ls : Nat, Scan w' sb S k li ls mb /\ w.grownBy w' (some sb) /\
      k0 <= k /\ k <= S.size /\ ls <= k /\ li <= k + 1 /\ skipAt S k0 li0 ls0 = (S.data.toList.drop k, li, k - ls + 1) := by
  go_enter func49, ntmps49
  go_wp2
  go_loopw [20] (fun _ wr => ∃ k li ls : Nat, Scan wr sb S k li ls mb /\ w.grownBy wr (some sb) /\ k0 <= k /\ k <= S.size /\ ls <= k /\ li <= k + 1 /\ skipAt S k0 li0 ls0 = skipAt S k li ls) (fun _ wr => S.size - atOf wr sb)
  case atStart => exact ⟨k0, li0, ls0, hsc, World.grownBy.refl _ _, Nat.le_refl _, hk0, hls0, hli0, rfl⟩
  case round =>
    obtain ⟨k, li, ls, hs, hg, hk0', hk, hls, hli, hrel⟩ := hrel
    have HR := hideP hrel
    have HS := hideP hs
    have hat := hideP hs.at
    have c0 := hs.c0
    have c1 := hs.c1
    have c2 := hs.c2
    have c3 := hs.c3
    have f1 := hs.fz 1
    have f2 := hs.fz 2
    have f3 := hs.fz 3
    have HG := hideP hg
    clear hrel hs hg hsc
    by_cases hlt : k < S.size
    · have hlt' : (k : Int) < (S.size : Int) := by omega
      by_cases b1 : S[k].toNat = 10
      · have b1' : ((S[k].toNat : Int) == 10) = true := by simp; omega
        go_wp2
        go_quiet (fail)
        go_wp2
        go_quiet (fail)
        go_wp2
        have hs' := (((HS.out : Scan (wr.drewN (_ + _)) sb S k li ls mb).set1 (k + 1)).set2 (li + 1)).set3 (k + 1)
        refine ⟨⟨k + 1, li + 1, k + 1, hs', grown_set (grown_set (grown_set (grown_drewN HG.out _) _ _) _ _) _ _, by omega, by omega, by omega, by omega, HR.out.trans (skipAt_lf hlt b1)⟩, ?_⟩
        have e2 := Scan.at (k := k + 1) hs'
        have e1 := hat.out
        rw [e1]
        exact Nat.lt_of_le_of_lt (Nat.le_of_eq (congrArg (S.size - ·) e2)) (by omega)
      have n1 : ((S[k].toNat : Int) == 10) = false := by simp; omega
      by_cases b2 : S[k].toNat = 32 ∨ S[k].toNat = 9 ∨ S[k].toNat = 13
      · have hst := skipAt_blank (li := li) hlt hls b2
        have HST := hideP hst
        clear hst
        have b2' : ((S[k].toNat : Int) == 32) = true ∨ (((S[k].toNat : Int) == 32) = false /\ ((S[k].toNat : Int) == 9) = true) ∨ (((S[k].toNat : Int) == 32) = false /\ ((S[k].toNat : Int) == 9) = false /\ ((S[k].toNat : Int) == 13) = true) := by simp; omega
        rcases b2' with p1 | ⟨p1, p2⟩ | ⟨p1, p2, p3⟩
        all_goals
          go_wp2
          go_quiet (fail)
          go_wp2
          go_quiet (fail)
          go_wp2
          have hs' := (HS.out : Scan (wr.drewN (_ + _)) sb S k li ls mb).set1 (k + 1)
          refine ⟨⟨k + 1, li, ls, hs', grown_set (grown_drewN HG.out _) _ _, by omega, by omega, by omega, by omega, HR.out.trans HST.out⟩, ?_⟩
          have e2 := Scan.at (k := k + 1) hs'
          have e1 := hat.out
          rw [e1]
          exact Nat.lt_of_le_of_lt (Nat.le_of_eq (congrArg (S.size - ·) e2)) (by omega)
      have n2 : ((S[k].toNat : Int) == 32) = false := by simp; omega
      have n3 : ((S[k].toNat : Int) == 9) = false := by simp; omega
      have n4 : ((S[k].toNat : Int) == 13) = false := by simp; omega
      by_cases b3 : S[k].toNat = 35
      · obtain ⟨hst, hlt2⟩ := skipAt_remark (li := li) hlt hls b3
        have hle := rowV_le S k notLf hk
        have hc := rowEnd_lf S (by omega) k hk
        obtain ⟨r, hr⟩ : ∃ r, r = rowV S k notLf := ⟨_, rfl⟩
        rw [<- hr] at hst hlt2 hle hc
        have HST := hideP hst
        have HC := hideP hc
        clear hst hc hr
        have p4 : ((S[k].toNat : Int) == 35) = true := by simp; omega
        go_wp2
        go_quiet (fail)
        go_wp2
        go_quiet (fail)
        go_wp2
        go_region_with (go_at_call 84; refine (HC.out _).mono ?_; rintro e w' ⟨rfl, rfl⟩)
        all_goals
          go_wp2
          have hs' := (HS.out : Scan (wr.drewN (_ + _ + 1)) sb S k li ls mb).set1 r
          refine ⟨⟨r, li, ls, hs', grown_set (grown_drewN HG.out _) _ _, by omega, by omega, by omega, by omega, HR.out.trans HST.out⟩, ?_⟩
          have e2 := Scan.at (k := r) hs'
          have e1 := hat.out
          rw [e1]
          exact Nat.lt_of_le_of_lt (Nat.le_of_eq (congrArg (S.size - ·) e2)) (by omega)
      have n5 : ((S[k].toNat : Int) == 35) = false := by simp; omega
      have hst := skipAt_stay (li := li) (ls := ls) hlt ⟨b1, by omega, by omega, by omega, b3⟩
      have HST := hideP hst
      clear hst
      go_wp2
      go_quiet (fail)
      go_wp2
      go_quiet (fail)
      go_wp2
      first | go_end0 | (simp only [Exit.inBlock, Exit.then]; refine bodyPost_ret (results_none rfl _ _ _) rfl ?_) | refine bodyPost_ret (results_none rfl _ _ _) rfl ?_
      exact ⟨rfl, k, li, ls, HS.out, grown_drewN HG.out _, by omega, by omega, by omega, by omega, HR.out.trans HST.out⟩
    · have hst := skipAt_end (li := li) (ls := ls) hlt
      have HST := hideP hst
      clear hst
      go_wp2
      go_quiet (fail)
      go_wp2
      first | go_end0 | (simp only [Exit.inBlock, Exit.then]; refine bodyPost_ret (results_none rfl _ _ _) rfl ?_) | refine bodyPost_ret (results_none rfl _ _ _) rfl ?_
      exact ⟨rfl, k, li, ls, HS.out, grown_drewN HG.out _, by omega, by omega, by omega, by omega, HR.out.trans HST.out⟩
end Go.Proofs.YtlhmofphpfdjlaaGreatDoor.Lx
/- lex.isWord by a contract: the package's table of words lies as its text lays it. -/
namespace Go.Proofs.YtlhmofphpfdjlaaGreatDoor.Lx
open Go.Proofs.Tryz
open Go.RowKit
/-- The word with this number. -/
def wordB (i : Nat) : ByteArray := ⟨(wordsV.getD i []).toArray⟩
/-- The table of words lies where the package reads it. -/
def Words (w : World) : Prop := ∀ i, i < 25 -> w.cell? ⟨4, i, none⟩ = some (.string (wordB i))
theorem Words.lt {w : World} (h : Words w) : 4 < w.heap.size := World.block_lt_of_cell? w _ (h 0 (by decide))
theorem Words.below {w w' : World} (h : Words w) (hb : Below w.heap.size w w') : Words w' := fun i hi => (hb.cell (show 4 < w.heap.size from h.lt)).trans (h i hi)
theorem Words.grown {w w' : World} {row : Option Nat} (h : Words w) (hg : w.grownBy w' row) (hr : some 4 ≠ row) : Words w' := fun i hi => hg.cell (h i hi) hr
/-- The table's cells. -/
def wordsA : List Value := (List.range 25).map fun i => .string (wordB i)
theorem words_at (i : Nat) (hi : i < 25) : wordsA[i]? = some (.string (wordB i)) := by simp [wordsA, hi]
theorem Words.range {w : World} (h : Words w) : w.rangeAt 4 0 wordsA := by
  intro j v hv
  have hj : j < 25 := by
    have := (List.getElem?_eq_some_iff.1 hv).1
    simpa [wordsA] using this
  rw [words_at j hj] at hv
  injection hv with hv
  rw [<- hv, Nat.zero_add]
  exact h j hj
theorem words_size : (prog.info? 164).map (·.size) = some wordsA.length := by kernel_rfl
/-- No word up to here is it. -/
def noWord (s : ByteArray) (k : Nat) : Prop := ∀ i, i < k -> s ≠ wordB i
theorem words_mem (s : ByteArray) : wordsV.contains s.data.toList = true ↔ ∃ i, i < 25 /\ s = wordB i := by
  rw [List.contains_iff_mem]
  constructor
  · intro h
    obtain ⟨i, hi, e⟩ := List.mem_iff_getElem.1 h
    refine ⟨i, hi, ?_⟩
    unfold wordB
    rw [List.getD_eq_getElem?_getD, List.getElem?_eq_getElem hi, Option.getD_some, e]
  · rintro ⟨i, hi, e⟩
    rw [e]
    unfold wordB
    rw [List.getD_eq_getElem?_getD, List.getElem?_eq_getElem (show i < wordsV.length from hi), Option.getD_some]
    exact List.getElem_mem ..
theorem str_eq {s t : ByteArray} : (s.toList == t.toList) = true ↔ s = t := by
  rw [ByteArray.toList_eq, ByteArray.toList_eq, beq_iff_eq]
  constructor
  · intro h
    cases s; cases t
    simp at h
    rw [h]
  · rintro rfl; rfl
theorem str_ne {s t : ByteArray} (h : (s.toList == t.toList) = false) : s ≠ t := fun e => by
  rw [str_eq.2 e] at h
  cases h
theorem words_index {A : List Value} {k : Nat} {t : ByteArray} (hk : k < 25) (h : A[k]? = some (.string t)) (w : World) :
    (Instr.index 164 (.agg A.toArray) (.int .i64 k)).run prog w = .ok (.string t) w := by
  have hu := underlying164
  have ha := isAgg9
  have hz := sizeOf9
  simp [Instr.index, asIntOf, run_underlying hu, part, ha, hz, Result.andThen, hk]
  rw [h]
  rfl
theorem isWord_c (s : ByteArray) (w : World) (hw : Words w) :
    Calls prog 89 #[.string s] w fun e w' => e = .returned (.bool (wordsV.contains s.data.toList)) /\ w' = w := by
  obtain ⟨b, hb⟩ : ∃ b, b = wordsV.contains s.data.toList := ⟨_, rfl⟩
  rw [<- hb]
  have HB := hideP hb
  clear hb
  have hr := hideP hw.range
  obtain ⟨A, hA⟩ : ∃ A, A = wordsA := ⟨_, rfl⟩
  have hat := words_at
  have hsz := words_size
  rw [<- hA] at hr hat hsz
  clear hA hw
  have HA := hideP hat
  clear hat
  go_enter func89, ntmps89
  go_wp2_with (refine wpList_load_mid rfl 164 (.global 4) rfl 4 0 rfl A (.array 25 9) hr.out underlying164 rfl hsz ?_)
  go_loop [6] (fun i => ∃ k : Nat, k <= 25 /\ i = .int .i64 k /\ Hid (noWord s k)) (fun i => 25 - (intOf i).toNat)
  case atStart => exact ⟨0, by omega, rfl, fun i hi => by omega⟩
  case round =>
    obtain ⟨k, hk, rfl, hno⟩ := hrel
    by_cases hlt : k < 25
    · have hAk := HA.out k hlt
      obtain ⟨t, ht⟩ : ∃ t, t = wordB k := ⟨_, rfl⟩
      rw [<- ht] at hAk
      have hix := words_index hlt hAk w
      clear hAk
      have HT := hideP ht
      clear ht
      cases hq : (s.toList == t.toList)
      · have hno' : Hid (noWord s (k + 1)) := fun i hi => by
          by_cases hik : i = k
          · subst hik; rw [<- HT.out]; exact str_ne hq
          · exact hno.out i (by omega)
        go_wp2
        go_round
        case rel => exact ⟨k + 1, by omega, by go_num, hno'⟩
        case measure => simp [intOf]; omega
      · have e : b = true := by
          rw [HB.out]
          exact (words_mem s).2 ⟨k, hlt, (str_eq.1 hq).trans HT.out⟩
        subst e
        go_wp2
        go_ret
        exact ⟨rfl, rfl⟩
    · have e : b = false := by
        rw [HB.out, Bool.eq_false_iff]
        intro h
        obtain ⟨i, hi, e⟩ := (words_mem s).1 h
        exact hno.out i (by omega) e
      subst e
      go_wp2
      go_ret
      exact ⟨rfl, rfl⟩
end Go.Proofs.YtlhmofphpfdjlaaGreatDoor.Lx
/- (*scanner).row by a contract. -/
namespace Go.Proofs.YtlhmofphpfdjlaaGreatDoor.Lx
open Go.Proofs.Tryz
open Go.RowKit
theorem extract_eq (S : ByteArray) (i j : Nat) : S.extract i j = ⟨((S.data.toList.drop i).take (j - i)).toArray⟩ := by
  apply ByteArray.ext
  rw [ByteArray.data_extract]
  apply Array.toList_inj.1
  rw [Array.toList_extract]
theorem take_row (p : UInt8 -> Bool) (l : List UInt8) : l.take (l.takeWhile p).length = l.takeWhile p := by
  induction l with
  | nil => rfl
  | cons b r ih =>
    by_cases h : p b = true
    · rw [List.takeWhile_cons_of_pos h, List.length_cons, List.take_succ_cons, ih]
    · rw [List.takeWhile_cons_of_neg h]; rfl
theorem extract_row (S : ByteArray) (k : Nat) (p : UInt8 -> Bool) : S.extract k (rowV S k p) = ⟨((S.data.toList.drop k).takeWhile p).toArray⟩ := by
  rw [extract_eq]
  unfold rowV
  rw [Nat.add_sub_cancel_left, take_row]
theorem row_name (S : ByteArray) (hS : S.size <= 65536) (sb mb k li ls : Nat) (hk : k <= S.size) (w : World) (hsc : Scan w sb S k li ls mb) :
    Calls prog 87 #[.pointer (some ⟨sb, 0, none⟩), .func (.func 88) #[] #[]] w fun e w' => e = .returned (.string ⟨((S.data.toList.drop k).takeWhile inNm).toArray⟩) /\
      Scan w' sb S (rowV S k inNm) li ls mb /\ w.grownBy w' (some sb) := by
  have hle := rowV_le S k inNm hk
  have hge : k <= rowV S k inNm := by unfold rowV; omega
  have hc := rowEnd_name S (by omega) k hk
  obtain ⟨r, hr⟩ : ∃ r, r = rowV S k inNm := ⟨_, rfl⟩
  rw [<- hr] at hle hge hc ⊢
  have HC := hideP hc
  have HR := hideP hr
  have HS := hideP hsc
  have c0 := hsc.c0
  have c1 := hsc.c1
  have f1 := hsc.fz 1
  clear hc hr hsc
  go_enter func87, ntmps87
  go_wp2_with fail
  refine (HC.out _).mono ?_
  rintro e w' ⟨rfl, rfl⟩
  go_wp2
  go_quiet (fail)
  go_wp2
  go_ret
  refine ⟨?_, HS.out.set1 r, grown_drewN (grown_set (World.grownBy.refl _ _) _ _) _⟩
  rw [<- extract_row, <- HR.out]
  rfl
theorem row_digit (S : ByteArray) (hS : S.size <= 65536) (sb mb k li ls : Nat) (hk : k <= S.size) (w : World) (hsc : Scan w sb S k li ls mb) :
    Calls prog 87 #[.pointer (some ⟨sb, 0, none⟩), .func (.func 90) #[] #[]] w fun e w' => e = .returned (.string ⟨((S.data.toList.drop k).takeWhile isDig).toArray⟩) /\
      Scan w' sb S (rowV S k isDig) li ls mb /\ w.grownBy w' (some sb) := by
  have hle := rowV_le S k isDig hk
  have hge : k <= rowV S k isDig := by unfold rowV; omega
  have hc := rowEnd_digit S (by omega) k hk
  obtain ⟨r, hr⟩ : ∃ r, r = rowV S k isDig := ⟨_, rfl⟩
  rw [<- hr] at hle hge hc ⊢
  have HC := hideP hc
  have HR := hideP hr
  have HS := hideP hsc
  have c0 := hsc.c0
  have c1 := hsc.c1
  have f1 := hsc.fz 1
  clear hc hr hsc
  go_enter func87, ntmps87
  go_wp2_with fail
  refine (HC.out _).mono ?_
  rintro e w' ⟨rfl, rfl⟩
  go_wp2
  go_quiet (fail)
  go_wp2
  go_ret
  refine ⟨?_, HS.out.set1 r, grown_drewN (grown_set (World.grownBy.refl _ _) _ _) _⟩
  rw [<- extract_row, <- HR.out]
  rfl
end Go.Proofs.YtlhmofphpfdjlaaGreatDoor.Lx
/- (*scanner).here by a contract. -/
namespace Go.Proofs.YtlhmofphpfdjlaaGreatDoor.Lx
open Go.Proofs.Tryz
open Go.RowKit
/-- A token as a value. -/
def tokA (kind : Int) (text : ByteArray) (li co : Int) : Value := .agg #[.int .i64 kind, .string text, .int .i64 li, .int .i64 co]
theorem here_c (S : ByteArray) (sb mb k li ls : Nat) (hk : k <= 65536) (hls : ls <= k) (w : World) (hsc : Scan w sb S k li ls mb) :
    Calls prog 50 #[.pointer (some ⟨sb, 0, none⟩)] w fun e w' => e = .returned (tokA 0 ByteArray.empty li ((k - ls + 1 : Nat) : Int)) /\ w.grownBy w' none := by
  have hsb := hsc.lt
  have c1 := hsc.c1
  have c2 := hsc.c2
  have c3 := hsc.c3
  clear hsc
  go_enter func50, ntmps50
  go_wp2
  go_region
  all_goals
    go_wp2
    refine bodyPost_ret (results_cell_row rfl _ _ w.heap.size 98 #[.int .i64 0, .string { data := #[] }, .int .i64 li, .int .i64 ((k : Int) - (ls : Int) + 1)] (0, 0) _ rfl (heap_alloc_last w _) underlying98 rfl (by kernel_rfl)) rfl ⟨?_, ?_⟩
    · rw [show ((k - ls + 1 : Nat) : Int) = (k : Int) - (ls : Int) + 1 from by omega]
      rfl
    · exact grown_drew (World.grownBy_alloc _ _ _)
end Go.Proofs.YtlhmofphpfdjlaaGreatDoor.Lx
/- Worlds of which two blocks alone are written; rows of bytes that a call has made. -/
namespace Go.Proofs.YtlhmofphpfdjlaaGreatDoor.Lx
open Go.Proofs.Tryz
open Go.RowKit
/-- Nothing that was there has changed but the blocks a and b. -/
structure Upd (w w' : World) (a b : Nat) : Prop where
  os : w'.os = w.os
  tape : w'.tape = w.tape
  output : w'.output = w.output
  size : w.heap.size <= w'.heap.size
  block : ∀ i, i < w.heap.size -> i ≠ a -> i ≠ b -> w'.heap[i]? = w.heap[i]?
theorem Upd.refl (w : World) (a b : Nat) : Upd w w a b := ⟨rfl, rfl, rfl, Nat.le_refl _, fun _ _ _ _ => rfl⟩
theorem Upd.trans {w w1 w2 : World} {a b : Nat} (h : Upd w w1 a b) (k : Upd w1 w2 a b) : Upd w w2 a b :=
  ⟨k.os.trans h.os, k.tape.trans h.tape, k.output.trans h.output, Nat.le_trans h.size k.size, fun i hi ha hb => (k.block i (Nat.lt_of_lt_of_le hi h.size) ha hb).trans (h.block i hi ha hb)⟩
theorem Upd.ofNone {w w' : World} (h : w.grownBy w' none) (a b : Nat) : Upd w w' a b := ⟨h.os, h.tape, h.output, h.size, fun i hi _ _ => h.block i hi (by simp)⟩
theorem Upd.ofL {w w' : World} {a : Nat} (h : w.grownBy w' (some a)) (b : Nat) : Upd w w' a b := ⟨h.os, h.tape, h.output, h.size, fun i hi ha _ => h.block i hi (by simpa using ha)⟩
theorem Upd.ofR {w w' : World} {b : Nat} (h : w.grownBy w' (some b)) (a : Nat) : Upd w w' a b := ⟨h.os, h.tape, h.output, h.size, fun i hi _ hb => h.block i hi (by simpa using hb)⟩
theorem Upd.setL {w w' : World} {a b : Nat} (h : Upd w w' a b) (o : Nat) (v : Value) : Upd w (w'.setCell ⟨a, o, none⟩ v) a b := h.trans (.ofL (grown_set (World.grownBy.refl _ _) o v) b)
theorem Upd.setR {w w' : World} {a b : Nat} (h : Upd w w' a b) (o : Nat) (v : Value) : Upd w (w'.setCell ⟨b, o, none⟩ v) a b := h.trans (.ofR (grown_set (World.grownBy.refl _ _) o v) a)
theorem Upd.drewN {w w' : World} {a b : Nat} (h : Upd w w' a b) (n : Nat) : Upd w (w'.drewN n) a b := ⟨h.os, h.tape, h.output, h.size, h.block⟩
theorem Upd.drew {w w' : World} {a b : Nat} (h : Upd w w' a b) : Upd w w'.drew a b := ⟨h.os, h.tape, h.output, h.size, h.block⟩
theorem Upd.below {w w' : World} {a b B : Nat} (h : Upd w w' a b) (hB : B <= w.heap.size) (ha : B <= a) (hb : B <= b) : Below B w w' :=
  ⟨h.os, h.tape, h.output, h.size, fun i hi => h.block i (by omega) (by omega) (by omega)⟩
theorem Upd.words {w w' : World} {a b : Nat} (h : Upd w w' a b) (hw : Words w) (ha : 4 ≠ a) (hb : 4 ≠ b) : Words w' := fun i hi => by
  have := hw i hi
  rw [World.cell?_of_block (w := w) (h.block 4 hw.lt ha hb)]
  exact this
theorem Upd.map {w w' : World} {a b mb n : Nat} {D : DataW Unit} (h : Upd w w' a b) (ho : w.ownsMap prog 136 unitElem mb n D) (ha : mb ≠ a) (hb : mb ≠ b) : w'.ownsMap prog 136 unitElem mb n D := by
  have hlt := ho.lt
  obtain ⟨es, clock, hh, r⟩ := ho
  exact ⟨es, clock, by rw [h.block mb hlt ha hb]; exact hh, r⟩
theorem Upd.owns {w w' : World} {a b base e size n : Nat} {v : Value} {xs : List Value} (h : Upd w w' a b) (ho : w.ownsRow base e size v n xs) (ha : v.ownBlock ≠ some a) (hb : v.ownBlock ≠ some b) : w'.ownsRow base e size v n xs := by
  obtain ⟨h1, h2⟩ := ho
  refine ⟨h1, ?_⟩
  rcases h2 with h2 | ⟨g, cap, cur, rfl, hg, hh, r⟩
  · exact .inl h2
  · refine .inr ⟨g, cap, cur, rfl, hg, ?_, r⟩
    rw [h.block g (lt_of_block hh) (fun e => ha (by simp [Value.ownBlock, e])) (fun e => hb (by simp [Value.ownBlock, e]))]
    exact hh
/-- Bytes as cells. -/
def bcs (l : List UInt8) : List Value := l.map fun b => .int .u8 b.toNat
theorem bcs_len (l : List UInt8) : (bcs l).length = l.length := by simp [bcs]
theorem bcs_snoc (l : List UInt8) (b : UInt8) : bcs (l ++ [b]) = bcs l ++ [.int .u8 b.toNat] := by simp [bcs]
theorem strOf_bytes (l : List UInt8) : strOfNums (l.map fun b => (b.toNat : Int)) = ⟨l.toArray⟩ := by
  unfold strOfNums
  congr 1
  simp [Function.comp_def]
/-- A row of the call's own as a string. -/
theorem conv_bytes {w : World} {B n : Nat} {v : Value} {l : List UInt8} (h : w.ownsRow B 5 1 v n (bcs l)) : (convert 131 9 v).run prog w = .ok (.string ⟨l.toArray⟩) w := by
  have hl : l.length = n := by
    have := h.1
    rw [bcs_len] at this
    omega
  rw [<- strOf_bytes]
  rcases h.2 with ⟨rfl, h0⟩ | ⟨g, cap, cur, rfl, _⟩
  · have : l = [] := List.eq_nil_of_length_eq_zero (by omega)
    rw [this]
    exact run_convert_bytes_nil w 131 5 underlying131 underlying5 0 0 9 underlying9
  · refine run_convert_bytes_arg w 131 5 underlying131 underlying5 g 0 n cap _ (by simpa using hl) ?_ 9 underlying9
    intro i hi
    have := h.cells (g := g) rfl i (.int .u8 ((l.map fun b => (b.toNat : Int)).getD i 0)) (by simp [bcs, List.getD, show i < l.length by omega])
    have hadd : (⟨g, 0, none⟩ : Addr).add i = ⟨g, 0 + i, none⟩ := by unfold Addr.add; split <;> simp_all
    rw [hadd] at this
    exact this
theorem cell_new1 (W : World) (x : Int) (t : TypeId) : ∀ j u, [Value.int .u8 x][j]? = some u -> (W.alloc (.cells #[.int .u8 x] t)).cell? ((⟨W.heap.size, 0, none⟩ : Addr).add j) = some u := by
  intro j u hj
  match j, hj with
  | 0, hj =>
    simp at hj
    subst hj
    simp [Addr.add]
theorem one_cell (x : Int) : ∀ u ∈ [Value.int .u8 x], u.oneCell' = true := by
  intro u hu
  simp at hu
  subst hu
  rfl
theorem info_byte : (prog.info? 5).map (fun i => (i.zero, i.size, i.bytes)) = some (some (.int .u8 0), 1, 1) := by kernel_rfl
end Go.Proofs.YtlhmofphpfdjlaaGreatDoor.Lx
/- The contracts of Go's library that this seat uses, laid at its dump: each is one application of the shelf's theorem. -/
namespace Go.Proofs
open Go.Proofs.Tryz
open Go.Shelf Go.RowKit Go.Lib
def lays137_ren : Go.Shelf.Ren := ⟨fun | 137 => 78 | 217 => 109 | 266 => 122 | n => n, fun | 9 => 9 | 5 => 5 | 3 => 3 | n => n, fun | n => n⟩
theorem lays137 : Go.Proofs.Lays.n137 prog lays137_ren := {
  mixed := by kernel_rfl
  f137 := func78.trans (congrArg some (by kernel_rfl))
  f217 := func109.trans (congrArg some (by kernel_rfl))
  f266 := func122.trans (congrArg some (by kernel_rfl))
  t3 := underlying3
  a3 := isAgg3
  z3 := sizeOf3
  v3 := zeroValue3
  t5 := underlying5
  a5 := isAgg5
  z5 := sizeOf5
  v5 := zeroValue5
  t9 := underlying9
  a9 := isAgg9
  z9 := sizeOf9
  v9 := zeroValue9 }
theorem strings_IndexByte (s : ByteArray) (c : Int) (w : World) :
    Calls prog 78 #[.string s, .int .u8 c] w fun e w' => e = .returned (.int .i64 (Lib.indexByte s.data.toList c.toNat.toUInt8)) /\ w' = w := Any.strings_IndexByte lays137 s c w
end Go.Proofs
