/- Part of the proof of ParseTypes: the texts that follow, in build order. -/
import Derived.Test.YtfjlkkohccihnabGreatDoorPart15
import Derived.OneCell
import Derived.Maps.RangeWalk
import Derived.Maps.AppendAt
import Derived.Deep.QuietTactic
import Derived.BigQuiet
import Derived.Deep.RegionWith
import Derived.Deep.MidRow
import Derived.BigRegion
import Derived.Laws.Rows
import Derived.Deep.WholeRow
import Derived.Laws.BytesArg
import Derived.Shelf.Small.Strs
import Derived.Shelf.Strings.Search1
import Derived.Test.YtfjlkkohccihnabGreatDoorProg

/- The scanner in memory: its five cells, and what a store turns. -/
namespace Go.Proofs.YtfjlkkohccihnabGreatDoor.Lx
open Go.RowKit

/-- Block sb is a scanner over the text S: the first byte that is not read, the line, where it begins, the map of signs. -/
def Scan (w : World) (sb : Nat) (S : ByteArray) (k li ls : Int) (mb : Nat) : Prop :=
  w.heap[sb]? = some (.cells #[.string S, .int .i64 k, .int .i64 li, .int .i64 ls, .map (some mb)] 146 (0, 0))

section
variable {w : World} {sb : Nat} {S : ByteArray} {k li ls : Int} {mb : Nat}

theorem Scan.c0 (h : Scan w sb S k li ls mb) : w.cell? ⟨sb, 0, none⟩ = some (.string S) := by unfold Scan at h; simp [World.cell?, h]
theorem Scan.c1 (h : Scan w sb S k li ls mb) : w.cell? ⟨sb, 1, none⟩ = some (.int .i64 k) := by unfold Scan at h; simp [World.cell?, h]
theorem Scan.c2 (h : Scan w sb S k li ls mb) : w.cell? ⟨sb, 2, none⟩ = some (.int .i64 li) := by unfold Scan at h; simp [World.cell?, h]
theorem Scan.c3 (h : Scan w sb S k li ls mb) : w.cell? ⟨sb, 3, none⟩ = some (.int .i64 ls) := by unfold Scan at h; simp [World.cell?, h]
theorem Scan.c4 (h : Scan w sb S k li ls mb) : w.cell? ⟨sb, 4, none⟩ = some (.map (some mb)) := by unfold Scan at h; simp [World.cell?, h]
theorem Scan.fz (h : Scan w sb S k li ls mb) (o : Nat) : w.frozen? ⟨sb, o, none⟩ = false := by unfold Scan at h; simp [World.frozen?, h]
theorem Scan.lt (h : Scan w sb S k li ls mb) : sb < w.heap.size := lt_of_block h
theorem Scan.drew (h : Scan w sb S k li ls mb) : Scan w.drew sb S k li ls mb := h

theorem cells_setCell {w : World} {b o : Nat} {cs : Array Value} {u : Value} {t : TypeId} {fr : Nat × Nat} (h : w.heap[b]? = some (.cells cs t fr)) : (w.setCell ⟨b, o, none⟩ u).heap[b]? = some (.cells (cs.setIfInBounds o u) t fr) := by
  have hlt := lt_of_block h
  have h' : w.heap[b] = .cells cs t fr := by simpa [Array.getElem?_eq_getElem hlt] using h
  show (w.heap.modify b _)[b]? = _
  rw [Array.getElem?_eq_getElem (by simpa using hlt), Array.getElem_modify_self, h']
  rfl

theorem Scan.set1 (h : Scan w sb S k li ls mb) (v : Int) : Scan (w.setCell ⟨sb, 1, none⟩ (.int .i64 v)) sb S v li ls mb := cells_setCell h
theorem Scan.set2 (h : Scan w sb S k li ls mb) (v : Int) : Scan (w.setCell ⟨sb, 2, none⟩ (.int .i64 v)) sb S k v ls mb := cells_setCell h
theorem Scan.set3 (h : Scan w sb S k li ls mb) (v : Int) : Scan (w.setCell ⟨sb, 3, none⟩ (.int .i64 v)) sb S k li v mb := cells_setCell h

/-- Another block is written, or new ones are laid. -/
theorem Scan.kept {w' : World} {row : Option Nat} (h : Scan w sb S k li ls mb) (hg : w.grownBy w' row) (hne : some sb ≠ row) : Scan w' sb S k li ls mb := by
  unfold Scan at *
  rw [hg.block sb (lt_of_block h) hne]
  exact h
end

/-- Block tb is a token. -/
def TokB (w : World) (tb : Nat) (kind : Int) (text : ByteArray) (li co : Int) : Prop :=
  w.heap[tb]? = some (.cells #[.int .i64 kind, .string text, .int .i64 li, .int .i64 co] 108 (0, 0))

section
variable {w : World} {tb : Nat} {kind : Int} {text : ByteArray} {li co : Int}
theorem TokB.c0 (h : TokB w tb kind text li co) : w.cell? ⟨tb, 0, none⟩ = some (.int .i64 kind) := by unfold TokB at h; simp [World.cell?, h]
theorem TokB.c1 (h : TokB w tb kind text li co) : w.cell? ⟨tb, 1, none⟩ = some (.string text) := by unfold TokB at h; simp [World.cell?, h]
theorem TokB.c2 (h : TokB w tb kind text li co) : w.cell? ⟨tb, 2, none⟩ = some (.int .i64 li) := by unfold TokB at h; simp [World.cell?, h]
theorem TokB.c3 (h : TokB w tb kind text li co) : w.cell? ⟨tb, 3, none⟩ = some (.int .i64 co) := by unfold TokB at h; simp [World.cell?, h]
theorem TokB.fz (h : TokB w tb kind text li co) (o : Nat) : w.frozen? ⟨tb, o, none⟩ = false := by unfold TokB at h; simp [World.frozen?, h]
theorem TokB.lt (h : TokB w tb kind text li co) : tb < w.heap.size := lt_of_block h
theorem TokB.set0 (h : TokB w tb kind text li co) (v : Int) : TokB (w.setCell ⟨tb, 0, none⟩ (.int .i64 v)) tb v text li co := cells_setCell h
theorem TokB.set1 (h : TokB w tb kind text li co) (v : ByteArray) : TokB (w.setCell ⟨tb, 1, none⟩ (.string v)) tb kind v li co := cells_setCell h
theorem TokB.kept {w' : World} {row : Option Nat} (h : TokB w tb kind text li co) (hg : w.grownBy w' row) (hne : some tb ≠ row) : TokB w' tb kind text li co := by
  unfold TokB at *
  rw [hg.block tb (lt_of_block h) hne]
  exact h
end

theorem grown_drew {a w : World} {row : Option Nat} (h : a.grownBy w row) : a.grownBy w.drew row := ⟨h.os, h.tape, h.output, h.size, h.block⟩
theorem grown_drewN {a w : World} {row : Option Nat} (h : a.grownBy w row) (n : Nat) : a.grownBy (w.drewN n) row := ⟨h.os, h.tape, h.output, h.size, h.block⟩

theorem grown_set {a w : World} {b : Nat} (h : a.grownBy w (some b)) (o : Nat) (v : Value) : a.grownBy (w.setCell ⟨b, o, none⟩ v) (some b) :=
  ⟨h.os, h.tape, h.output, by simpa using h.size, fun k hk hne => (Below.heap_setCell w _ v k (fun e => hne (by rw [e]))).trans (h.block k hk hne)⟩

theorem grown_setCell (w : World) (a : Addr) (v : Value) : w.grownBy (w.setCell a v) (some a.block) :=
  ⟨rfl, rfl, rfl, by simp, fun k _ hne => Below.heap_setCell w a v k (fun e => hne (by rw [e]))⟩
end Go.Proofs.YtfjlkkohccihnabGreatDoor.Lx

/- (*scanner).skip by a contract: blanks and comments are passed over. -/
namespace Go.Proofs.YtfjlkkohccihnabGreatDoor.Lx
open Go.RowKit

/-- Where the scanner of block sb stands. -/
def atOf (w : World) (sb : Nat) : Nat := match w.cell? ⟨sb, 1, none⟩ with | some v => (intOf v).toNat | none => 0

theorem Scan.at {w : World} {sb : Nat} {S : ByteArray} {k : Nat} {li ls : Int} {mb : Nat} (h : Scan w sb S k li ls mb) : atOf w sb = k := by
  unfold atOf
  rw [h.c1]
  simp [intOf]

/-- What is left from k on, the line, the column. -/
def skipAt (S : ByteArray) (k li ls : Nat) : List UInt8 × Nat × Nat := skipV false (S.data.toList.drop k) li (k - ls + 1)

theorem skipAt_lf {S : ByteArray} {k li ls : Nat} (hk : k < S.size) (h : S[k].toNat = 10) : skipAt S k li ls = skipAt S (k + 1) (li + 1) (k + 1) := by
  have e : S[k] = 10 := UInt8.toNat_inj.1 h
  unfold skipAt
  rw [byteArray_drop S k hk, skipV, if_pos e]
  simp

theorem skipAt_blank {S : ByteArray} {k li ls : Nat} (hk : k < S.size) (hl : ls ≤ k) (h : S[k].toNat = 32 ∨ S[k].toNat = 9 ∨ S[k].toNat = 13) : skipAt S k li ls = skipAt S (k + 1) li ls := by
  have e : S[k] = 32 ∨ S[k] = 9 ∨ S[k] = 13 := by
    rcases h with h | h | h
    · exact .inl (UInt8.toNat_inj.1 h)
    · exact .inr (.inl (UInt8.toNat_inj.1 h))
    · exact .inr (.inr (UInt8.toNat_inj.1 h))
  unfold skipAt
  rw [byteArray_drop S k hk, skipV, if_neg (by rintro e2; rw [e2] at e; revert e; decide), if_pos e]
  rw [show k - ls + 1 + 1 = k + 1 - ls + 1 from by omega]

theorem drop_row (S : ByteArray) (k : Nat) (p : UInt8 → Bool) : S.data.toList.drop (rowV S k p) = (S.data.toList.drop k).dropWhile p := by
  unfold rowV
  rw [← List.drop_drop]
  generalize S.data.toList.drop k = l
  induction l with
  | nil => rfl
  | cons b r ih =>
    by_cases h : p b = true
    · rw [List.takeWhile_cons_of_pos h, List.dropWhile_cons_of_pos h, List.length_cons, List.drop_succ_cons, ih]
    · rw [List.takeWhile_cons_of_neg h, List.dropWhile_cons_of_neg h]; rfl

theorem skipAt_remark {S : ByteArray} {k li ls : Nat} (hk : k < S.size) (hl : ls ≤ k) (h : S[k].toNat = 35) : skipAt S k li ls = skipAt S (rowV S k notLf) li ls ∧ k < rowV S k notLf := by
  have e : S[k] = 35 := UInt8.toNat_inj.1 h
  have hn : notLf S[k] = true := by rw [e]; decide
  have hr := rowV_on hk hn
  have hlt : k + 1 ≤ rowV S (k + 1) notLf := by unfold rowV; omega
  refine ⟨?_, by omega⟩
  rw [hr]
  unfold skipAt
  rw [drop_row, byteArray_drop S k hk, skipV, if_neg (by rw [e]; decide), if_neg (by rw [e]; decide), if_pos e, skip_comment]
  unfold rowV
  rw [show k - ls + 1 + 1 + (List.takeWhile notLf (List.drop (k + 1) S.data.toList)).length = k + 1 + (List.takeWhile notLf (List.drop (k + 1) S.data.toList)).length - ls + 1 from by omega]

theorem skipAt_stay {S : ByteArray} {k li ls : Nat} (hk : k < S.size) (h : S[k].toNat ≠ 10 ∧ S[k].toNat ≠ 32 ∧ S[k].toNat ≠ 9 ∧ S[k].toNat ≠ 13 ∧ S[k].toNat ≠ 35) : skipAt S k li ls = (S.data.toList.drop k, li, k - ls + 1) := by
  have f : ∀ n : UInt8, S[k].toNat ≠ n.toNat → ¬ S[k] = n := fun n hn e => hn (by rw [e])
  unfold skipAt
  rw [byteArray_drop S k hk, skipV, if_neg (f 10 h.1), if_neg, if_neg (f 35 h.2.2.2.2)]
  rintro (e | e | e)
  · exact f 32 h.2.1 e
  · exact f 9 h.2.2.1 e
  · exact f 13 h.2.2.2.1 e

theorem skipAt_end {S : ByteArray} {k li ls : Nat} (hk : ¬ k < S.size) : skipAt S k li ls = (S.data.toList.drop k, li, k - ls + 1) := by
  unfold skipAt
  rw [List.drop_eq_nil_of_le (by rw [byteArray_len]; omega)]
  rfl

set_option maxHeartbeats 2000000 in
set_option maxRecDepth 100000 in
theorem skip_c (S : ByteArray) (hS : S.size ≤ 65536) (sb mb k0 li0 ls0 : Nat) (hk0 : k0 ≤ S.size) (hls0 : ls0 ≤ k0) (hli0 : li0 ≤ k0 + 1) (w : World) (hsc : Scan w sb S k0 li0 ls0 mb) :
    Calls Tryz.prog 104 #[.pointer (some ⟨sb, 0, none⟩)] w fun e w' => e = .returned (.tuple #[]) ∧ ∃ k li ls : Nat, Scan w' sb S k li ls mb ∧ w.grownBy w' (some sb) ∧
      k0 ≤ k ∧ k ≤ S.size ∧ ls ≤ k ∧ li ≤ k + 1 ∧ skipAt S k0 li0 ls0 = (S.data.toList.drop k, li, k - ls + 1) := by
  go_enter Tryz.func104, Tryz.ntmps104
  go_wp2
  go_loopw [20] (fun _ wr => ∃ k li ls : Nat, Scan wr sb S k li ls mb ∧ w.grownBy wr (some sb) ∧ k0 ≤ k ∧ k ≤ S.size ∧ ls ≤ k ∧ li ≤ k + 1 ∧ skipAt S k0 li0 ls0 = skipAt S k li ls) (fun _ wr => S.size - atOf wr sb)
  case atStart => exact ⟨k0, li0, ls0, hsc, World.grownBy.refl _ _, Nat.le_refl _, hk0, hls0, hli0, rfl⟩
  case round =>
    obtain ⟨k, li, ls, hs, hg, hk0', hk, hls, hli, hrel⟩ := hrel
    have HR := hideP hrel
    have HS := hideP hs
    have hat := hideP hs.at
    have c0 := hs.c0
    have c1 := hs.c1
    have c2 := hs.c2
    have c3 := hs.c3
    have f1 := hs.fz 1
    have f2 := hs.fz 2
    have f3 := hs.fz 3
    have HG := hideP hg
    clear hrel hs hg hsc
    by_cases hlt : k < S.size
    · have hlt' : (k : Int) < (S.size : Int) := by omega
      by_cases b1 : S[k].toNat = 10
      · have b1' : ((S[k].toNat : Int) == 10) = true := by simp; omega
        go_wp2
        go_quiet (fail)
        go_wp2
        go_quiet (fail)
        go_wp2
        have hs' := (((HS.out : Scan (wr.drewN (_ + _)) sb S k li ls mb).set1 (k + 1)).set2 (li + 1)).set3 (k + 1)
        refine ⟨⟨k + 1, li + 1, k + 1, hs', grown_set (grown_set (grown_set (grown_drewN HG.out _) _ _) _ _) _ _, by omega, by omega, by omega, by omega, HR.out.trans (skipAt_lf hlt b1)⟩, ?_⟩
        have e2 := Scan.at (k := k + 1) hs'
        have e1 := hat.out
        rw [e1]
        exact Nat.lt_of_le_of_lt (Nat.le_of_eq (congrArg (S.size - ·) e2)) (by omega)
      have n1 : ((S[k].toNat : Int) == 10) = false := by simp; omega
      by_cases b2 : S[k].toNat = 32 ∨ S[k].toNat = 9 ∨ S[k].toNat = 13
      · have hst := skipAt_blank (li := li) hlt hls b2
        have HST := hideP hst
        clear hst
        have b2' : ((S[k].toNat : Int) == 32) = true ∨ (((S[k].toNat : Int) == 32) = false ∧ ((S[k].toNat : Int) == 9) = true) ∨ (((S[k].toNat : Int) == 32) = false ∧ ((S[k].toNat : Int) == 9) = false ∧ ((S[k].toNat : Int) == 13) = true) := by simp; omega
        rcases b2' with p1 | ⟨p1, p2⟩ | ⟨p1, p2, p3⟩
        all_goals
          go_wp2
          go_quiet (fail)
          go_wp2
          go_quiet (fail)
          go_wp2
          have hs' := (HS.out : Scan (wr.drewN (_ + _)) sb S k li ls mb).set1 (k + 1)
          refine ⟨⟨k + 1, li, ls, hs', grown_set (grown_drewN HG.out _) _ _, by omega, by omega, by omega, by omega, HR.out.trans HST.out⟩, ?_⟩
          have e2 := Scan.at (k := k + 1) hs'
          have e1 := hat.out
          rw [e1]
          exact Nat.lt_of_le_of_lt (Nat.le_of_eq (congrArg (S.size - ·) e2)) (by omega)
      have n2 : ((S[k].toNat : Int) == 32) = false := by simp; omega
      have n3 : ((S[k].toNat : Int) == 9) = false := by simp; omega
      have n4 : ((S[k].toNat : Int) == 13) = false := by simp; omega
      by_cases b3 : S[k].toNat = 35
      · obtain ⟨hst, hlt2⟩ := skipAt_remark (li := li) hlt hls b3
        have hle := rowV_le S k notLf hk
        have hc := rowEnd_lf S (by omega) k hk
        obtain ⟨r, hr⟩ : ∃ r, r = rowV S k notLf := ⟨_, rfl⟩
        rw [← hr] at hst hlt2 hle hc
        have HST := hideP hst
        have HC := hideP hc
        clear hst hc hr
        have p4 : ((S[k].toNat : Int) == 35) = true := by simp; omega
        go_wp2
        go_quiet (fail)
        go_wp2
        go_quiet (fail)
        go_wp2
        go_region_with (go_at_call 161; refine (HC.out _).mono ?_; rintro e w' ⟨rfl, rfl⟩)
        all_goals
          go_wp2
          have hs' := (HS.out : Scan (wr.drewN (_ + _ + 1)) sb S k li ls mb).set1 r
          refine ⟨⟨r, li, ls, hs', grown_set (grown_drewN HG.out _) _ _, by omega, by omega, by omega, by omega, HR.out.trans HST.out⟩, ?_⟩
          have e2 := Scan.at (k := r) hs'
          have e1 := hat.out
          rw [e1]
          exact Nat.lt_of_le_of_lt (Nat.le_of_eq (congrArg (S.size - ·) e2)) (by omega)
      have n5 : ((S[k].toNat : Int) == 35) = false := by simp; omega
      have hst := skipAt_stay (li := li) (ls := ls) hlt ⟨b1, by omega, by omega, by omega, b3⟩
      have HST := hideP hst
      clear hst
      go_wp2
      go_quiet (fail)
      go_wp2
      go_quiet (fail)
      go_wp2
      first | go_end0 | (simp only [Exit.inBlock, Exit.then]; refine bodyPost_ret (results_none rfl _ _ _) rfl ?_) | refine bodyPost_ret (results_none rfl _ _ _) rfl ?_
      exact ⟨rfl, k, li, ls, HS.out, grown_drewN HG.out _, by omega, by omega, by omega, by omega, HR.out.trans HST.out⟩
    · have hst := skipAt_end (li := li) (ls := ls) hlt
      have HST := hideP hst
      clear hst
      go_wp2
      go_quiet (fail)
      go_wp2
      first | go_end0 | (simp only [Exit.inBlock, Exit.then]; refine bodyPost_ret (results_none rfl _ _ _) rfl ?_) | refine bodyPost_ret (results_none rfl _ _ _) rfl ?_
      exact ⟨rfl, k, li, ls, HS.out, grown_drewN HG.out _, by omega, by omega, by omega, by omega, HR.out.trans HST.out⟩
end Go.Proofs.YtfjlkkohccihnabGreatDoor.Lx

/- lex.isWord by a contract: the package's table of words lies as its text lays it. -/
namespace Go.Proofs.YtfjlkkohccihnabGreatDoor.Lx
open Go.RowKit

/-- The word with this number. -/
def wordB (i : Nat) : ByteArray := ⟨(wordsV.getD i []).toArray⟩

/-- The table of words lies where the package reads it. -/
def Words (w : World) : Prop := ∀ i, i < 25 → w.cell? ⟨4, i, none⟩ = some (.string (wordB i))

theorem Words.lt {w : World} (h : Words w) : 4 < w.heap.size := World.block_lt_of_cell? w _ (h 0 (by decide))

theorem Words.below {w w' : World} (h : Words w) (hb : Below w.heap.size w w') : Words w' := fun i hi => (hb.cell (show 4 < w.heap.size from h.lt)).trans (h i hi)

theorem Words.grown {w w' : World} {row : Option Nat} (h : Words w) (hg : w.grownBy w' row) (hr : some 4 ≠ row) : Words w' := fun i hi => hg.cell (h i hi) hr

/-- The table's cells. -/
def wordsA : List Value := (List.range 25).map fun i => .string (wordB i)

theorem words_at (i : Nat) (hi : i < 25) : wordsA[i]? = some (.string (wordB i)) := by simp [wordsA, hi]

theorem Words.range {w : World} (h : Words w) : w.rangeAt 4 0 wordsA := by
  intro j v hv
  have hj : j < 25 := by
    have := (List.getElem?_eq_some_iff.1 hv).1
    simpa [wordsA] using this
  rw [words_at j hj] at hv
  injection hv with hv
  rw [← hv, Nat.zero_add]
  exact h j hj

theorem words_size : (Tryz.prog.info? 221).map (·.size) = some wordsA.length := by kernel_rfl

/-- No word up to here is it. -/
def noWord (s : ByteArray) (k : Nat) : Prop := ∀ i, i < k → s ≠ wordB i

theorem words_mem (s : ByteArray) : wordsV.contains s.data.toList = true ↔ ∃ i, i < 25 ∧ s = wordB i := by
  rw [List.contains_iff_mem]
  constructor
  · intro h
    obtain ⟨i, hi, e⟩ := List.mem_iff_getElem.1 h
    refine ⟨i, hi, ?_⟩
    unfold wordB
    rw [List.getD_eq_getElem?_getD, List.getElem?_eq_getElem hi, Option.getD_some, e]
  · rintro ⟨i, hi, e⟩
    rw [e]
    unfold wordB
    rw [List.getD_eq_getElem?_getD, List.getElem?_eq_getElem (show i < wordsV.length from hi), Option.getD_some]
    exact List.getElem_mem ..

theorem str_eq {s t : ByteArray} : (s.toList == t.toList) = true ↔ s = t := by
  rw [ByteArray.toList_eq, ByteArray.toList_eq, beq_iff_eq]
  constructor
  · intro h
    cases s; cases t
    simp at h
    rw [h]
  · rintro rfl; rfl

theorem str_ne {s t : ByteArray} (h : (s.toList == t.toList) = false) : s ≠ t := fun e => by
  rw [str_eq.2 e] at h
  cases h

theorem words_index {A : List Value} {k : Nat} {t : ByteArray} (hk : k < 25) (h : A[k]? = some (.string t)) (w : World) :
    (Instr.index 221 (.agg A.toArray) (.int .i64 k)).run Tryz.prog w = .ok (.string t) w := by
  have hu := Tryz.underlying221
  have ha := Tryz.isAgg9
  have hz := Tryz.sizeOf9
  simp [Instr.index, asIntOf, run_underlying hu, part, ha, hz, Result.andThen, hk]
  rw [h]
  rfl

set_option maxRecDepth 100000 in
theorem isWord_c (s : ByteArray) (w : World) (hw : Words w) :
    Calls Tryz.prog 166 #[.string s] w fun e w' => e = .returned (.bool (wordsV.contains s.data.toList)) ∧ w' = w := by
  obtain ⟨b, hb⟩ : ∃ b, b = wordsV.contains s.data.toList := ⟨_, rfl⟩
  rw [← hb]
  have HB := hideP hb
  clear hb
  have hr := hideP hw.range
  obtain ⟨A, hA⟩ : ∃ A, A = wordsA := ⟨_, rfl⟩
  have hat := words_at
  have hsz := words_size
  rw [← hA] at hr hat hsz
  clear hA hw
  have HA := hideP hat
  clear hat
  go_enter Tryz.func166, Tryz.ntmps166
  go_wp2_with (refine wpList_load_mid rfl 221 (.global 4) rfl 4 0 rfl A (.array 25 9) hr.out Tryz.underlying221 rfl hsz ?_)
  go_loop [6] (fun i => ∃ k : Nat, k ≤ 25 ∧ i = .int .i64 k ∧ Hid (noWord s k)) (fun i => 25 - (intOf i).toNat)
  case atStart => exact ⟨0, by omega, rfl, fun i hi => by omega⟩
  case round =>
    obtain ⟨k, hk, rfl, hno⟩ := hrel
    by_cases hlt : k < 25
    · have hAk := HA.out k hlt
      obtain ⟨t, ht⟩ : ∃ t, t = wordB k := ⟨_, rfl⟩
      rw [← ht] at hAk
      have hix := words_index hlt hAk w
      clear hAk
      have HT := hideP ht
      clear ht
      cases hq : (s.toList == t.toList)
      · have hno' : Hid (noWord s (k + 1)) := fun i hi => by
          by_cases hik : i = k
          · subst hik; rw [← HT.out]; exact str_ne hq
          · exact hno.out i (by omega)
        go_wp2
        go_round
        case rel => exact ⟨k + 1, by omega, by go_num, hno'⟩
        case measure => simp [intOf]; omega
      · have e : b = true := by
          rw [HB.out]
          exact (words_mem s).2 ⟨k, hlt, (str_eq.1 hq).trans HT.out⟩
        subst e
        go_wp2
        go_ret
        exact ⟨rfl, rfl⟩
    · have e : b = false := by
        rw [HB.out, Bool.eq_false_iff]
        intro h
        obtain ⟨i, hi, e⟩ := (words_mem s).1 h
        exact hno.out i (by omega) e
      subst e
      go_wp2
      go_ret
      exact ⟨rfl, rfl⟩
end Go.Proofs.YtfjlkkohccihnabGreatDoor.Lx

/- (*scanner).row by a contract. -/
namespace Go.Proofs.YtfjlkkohccihnabGreatDoor.Lx
open Go.RowKit

theorem extract_eq (S : ByteArray) (i j : Nat) : S.extract i j = ⟨((S.data.toList.drop i).take (j - i)).toArray⟩ := by
  apply ByteArray.ext
  rw [ByteArray.data_extract]
  apply Array.toList_inj.1
  rw [Array.toList_extract]

theorem take_row (p : UInt8 → Bool) (l : List UInt8) : l.take (l.takeWhile p).length = l.takeWhile p := by
  induction l with
  | nil => rfl
  | cons b r ih =>
    by_cases h : p b = true
    · rw [List.takeWhile_cons_of_pos h, List.length_cons, List.take_succ_cons, ih]
    · rw [List.takeWhile_cons_of_neg h]; rfl

theorem extract_row (S : ByteArray) (k : Nat) (p : UInt8 → Bool) : S.extract k (rowV S k p) = ⟨((S.data.toList.drop k).takeWhile p).toArray⟩ := by
  rw [extract_eq]
  unfold rowV
  rw [Nat.add_sub_cancel_left, take_row]

set_option maxHeartbeats 1000000 in
set_option maxRecDepth 100000 in
theorem row_name (S : ByteArray) (hS : S.size ≤ 65536) (sb mb k li ls : Nat) (hk : k ≤ S.size) (w : World) (hsc : Scan w sb S k li ls mb) :
    Calls Tryz.prog 164 #[.pointer (some ⟨sb, 0, none⟩), .func (.func 165) #[] #[]] w fun e w' => e = .returned (.string ⟨((S.data.toList.drop k).takeWhile inNm).toArray⟩) ∧
      Scan w' sb S (rowV S k inNm) li ls mb ∧ w.grownBy w' (some sb) := by
  have hle := rowV_le S k inNm hk
  have hge : k ≤ rowV S k inNm := by unfold rowV; omega
  have hc := rowEnd_name S (by omega) k hk
  obtain ⟨r, hr⟩ : ∃ r, r = rowV S k inNm := ⟨_, rfl⟩
  rw [← hr] at hle hge hc ⊢
  have HC := hideP hc
  have HR := hideP hr
  have HS := hideP hsc
  have c0 := hsc.c0
  have c1 := hsc.c1
  have f1 := hsc.fz 1
  clear hc hr hsc
  go_enter Tryz.func164, Tryz.ntmps164
  go_wp2_with fail
  refine (HC.out _).mono ?_
  rintro e w' ⟨rfl, rfl⟩
  go_wp2
  go_quiet (fail)
  go_wp2
  go_ret
  refine ⟨?_, HS.out.set1 r, grown_drewN (grown_set (World.grownBy.refl _ _) _ _) _⟩
  rw [← extract_row, ← HR.out]
  rfl

set_option maxHeartbeats 1000000 in
set_option maxRecDepth 100000 in
theorem row_digit (S : ByteArray) (hS : S.size ≤ 65536) (sb mb k li ls : Nat) (hk : k ≤ S.size) (w : World) (hsc : Scan w sb S k li ls mb) :
    Calls Tryz.prog 164 #[.pointer (some ⟨sb, 0, none⟩), .func (.func 167) #[] #[]] w fun e w' => e = .returned (.string ⟨((S.data.toList.drop k).takeWhile isDig).toArray⟩) ∧
      Scan w' sb S (rowV S k isDig) li ls mb ∧ w.grownBy w' (some sb) := by
  have hle := rowV_le S k isDig hk
  have hge : k ≤ rowV S k isDig := by unfold rowV; omega
  have hc := rowEnd_digit S (by omega) k hk
  obtain ⟨r, hr⟩ : ∃ r, r = rowV S k isDig := ⟨_, rfl⟩
  rw [← hr] at hle hge hc ⊢
  have HC := hideP hc
  have HR := hideP hr
  have HS := hideP hsc
  have c0 := hsc.c0
  have c1 := hsc.c1
  have f1 := hsc.fz 1
  clear hc hr hsc
  go_enter Tryz.func164, Tryz.ntmps164
  go_wp2_with fail
  refine (HC.out _).mono ?_
  rintro e w' ⟨rfl, rfl⟩
  go_wp2
  go_quiet (fail)
  go_wp2
  go_ret
  refine ⟨?_, HS.out.set1 r, grown_drewN (grown_set (World.grownBy.refl _ _) _ _) _⟩
  rw [← extract_row, ← HR.out]
  rfl

end Go.Proofs.YtfjlkkohccihnabGreatDoor.Lx

/- (*scanner).here by a contract. -/
namespace Go.Proofs.YtfjlkkohccihnabGreatDoor.Lx
open Go.RowKit

/-- A token as a value. -/
def tokA (kind : Int) (text : ByteArray) (li co : Int) : Value := .agg #[.int .i64 kind, .string text, .int .i64 li, .int .i64 co]

set_option maxHeartbeats 2000000 in
set_option maxRecDepth 100000 in
theorem here_c (S : ByteArray) (sb mb k li ls : Nat) (hk : k ≤ 65536) (hls : ls ≤ k) (w : World) (hsc : Scan w sb S k li ls mb) :
    Calls Tryz.prog 105 #[.pointer (some ⟨sb, 0, none⟩)] w fun e w' => e = .returned (tokA 0 ByteArray.empty li ((k - ls + 1 : Nat) : Int)) ∧ w.grownBy w' none := by
  have hsb := hsc.lt
  have c1 := hsc.c1
  have c2 := hsc.c2
  have c3 := hsc.c3
  clear hsc
  go_enter Tryz.func105, Tryz.ntmps105
  go_wp2
  go_region
  all_goals
    go_wp2
    refine bodyPost_ret (results_cell_row rfl _ _ w.heap.size 108 #[.int .i64 0, .string { data := #[] }, .int .i64 li, .int .i64 ((k : Int) - (ls : Int) + 1)] (0, 0) _ rfl (heap_alloc_last w _) Tryz.underlying108 rfl (by kernel_rfl)) rfl ⟨?_, ?_⟩
    · rw [show ((k - ls + 1 : Nat) : Int) = (k : Int) - (ls : Int) + 1 from by omega]
      rfl
    · exact grown_drew (World.grownBy_alloc _ _ _)
end Go.Proofs.YtfjlkkohccihnabGreatDoor.Lx

/- Worlds of which two blocks alone are written; rows of bytes that a call has made. -/
namespace Go.Proofs.YtfjlkkohccihnabGreatDoor.Lx
open Go.RowKit

/-- Nothing that was there has changed but the blocks a and b. -/
structure Upd (w w' : World) (a b : Nat) : Prop where
  os : w'.os = w.os
  tape : w'.tape = w.tape
  output : w'.output = w.output
  size : w.heap.size ≤ w'.heap.size
  block : ∀ i, i < w.heap.size → i ≠ a → i ≠ b → w'.heap[i]? = w.heap[i]?

theorem Upd.refl (w : World) (a b : Nat) : Upd w w a b := ⟨rfl, rfl, rfl, Nat.le_refl _, fun _ _ _ _ => rfl⟩
theorem Upd.trans {w w1 w2 : World} {a b : Nat} (h : Upd w w1 a b) (k : Upd w1 w2 a b) : Upd w w2 a b :=
  ⟨k.os.trans h.os, k.tape.trans h.tape, k.output.trans h.output, Nat.le_trans h.size k.size, fun i hi ha hb => (k.block i (Nat.lt_of_lt_of_le hi h.size) ha hb).trans (h.block i hi ha hb)⟩
theorem Upd.ofNone {w w' : World} (h : w.grownBy w' none) (a b : Nat) : Upd w w' a b := ⟨h.os, h.tape, h.output, h.size, fun i hi _ _ => h.block i hi (by simp)⟩
theorem Upd.ofL {w w' : World} {a : Nat} (h : w.grownBy w' (some a)) (b : Nat) : Upd w w' a b := ⟨h.os, h.tape, h.output, h.size, fun i hi ha _ => h.block i hi (by simpa using ha)⟩
theorem Upd.ofR {w w' : World} {b : Nat} (h : w.grownBy w' (some b)) (a : Nat) : Upd w w' a b := ⟨h.os, h.tape, h.output, h.size, fun i hi _ hb => h.block i hi (by simpa using hb)⟩
theorem Upd.setL {w w' : World} {a b : Nat} (h : Upd w w' a b) (o : Nat) (v : Value) : Upd w (w'.setCell ⟨a, o, none⟩ v) a b := h.trans (.ofL (grown_set (World.grownBy.refl _ _) o v) b)
theorem Upd.setR {w w' : World} {a b : Nat} (h : Upd w w' a b) (o : Nat) (v : Value) : Upd w (w'.setCell ⟨b, o, none⟩ v) a b := h.trans (.ofR (grown_set (World.grownBy.refl _ _) o v) a)
theorem Upd.drewN {w w' : World} {a b : Nat} (h : Upd w w' a b) (n : Nat) : Upd w (w'.drewN n) a b := ⟨h.os, h.tape, h.output, h.size, h.block⟩
theorem Upd.drew {w w' : World} {a b : Nat} (h : Upd w w' a b) : Upd w w'.drew a b := ⟨h.os, h.tape, h.output, h.size, h.block⟩
theorem Upd.below {w w' : World} {a b B : Nat} (h : Upd w w' a b) (hB : B ≤ w.heap.size) (ha : B ≤ a) (hb : B ≤ b) : Below B w w' :=
  ⟨h.os, h.tape, h.output, h.size, fun i hi => h.block i (by omega) (by omega) (by omega)⟩
theorem Upd.words {w w' : World} {a b : Nat} (h : Upd w w' a b) (hw : Words w) (ha : 4 ≠ a) (hb : 4 ≠ b) : Words w' := fun i hi => by
  have := hw i hi
  rw [World.cell?_of_block (w := w) (h.block 4 hw.lt ha hb)]
  exact this
theorem Upd.map {w w' : World} {a b mb n : Nat} {D : DataW Unit} (h : Upd w w' a b) (ho : w.ownsMap Tryz.prog 199 unitElem mb n D) (ha : mb ≠ a) (hb : mb ≠ b) : w'.ownsMap Tryz.prog 199 unitElem mb n D := by
  have hlt := ho.lt
  obtain ⟨es, clock, hh, r⟩ := ho
  exact ⟨es, clock, by rw [h.block mb hlt ha hb]; exact hh, r⟩
theorem Upd.owns {w w' : World} {a b base e size n : Nat} {v : Value} {xs : List Value} (h : Upd w w' a b) (ho : w.ownsRow base e size v n xs) (ha : v.ownBlock ≠ some a) (hb : v.ownBlock ≠ some b) : w'.ownsRow base e size v n xs := by
  obtain ⟨h1, h2⟩ := ho
  refine ⟨h1, ?_⟩
  rcases h2 with h2 | ⟨g, cap, cur, rfl, hg, hh, r⟩
  · exact .inl h2
  · refine .inr ⟨g, cap, cur, rfl, hg, ?_, r⟩
    rw [h.block g (lt_of_block hh) (fun e => ha (by simp [Value.ownBlock, e])) (fun e => hb (by simp [Value.ownBlock, e]))]
    exact hh

/-- Bytes as cells. -/
def bcs (l : List UInt8) : List Value := l.map fun b => .int .u8 b.toNat

theorem bcs_len (l : List UInt8) : (bcs l).length = l.length := by simp [bcs]
theorem bcs_snoc (l : List UInt8) (b : UInt8) : bcs (l ++ [b]) = bcs l ++ [.int .u8 b.toNat] := by simp [bcs]

theorem strOf_bytes (l : List UInt8) : strOfNums (l.map fun b => (b.toNat : Int)) = ⟨l.toArray⟩ := by
  unfold strOfNums
  congr 1
  simp [Function.comp_def]

/-- A row of the call's own as a string. -/
theorem conv_bytes {w : World} {B n : Nat} {v : Value} {l : List UInt8} (h : w.ownsRow B 5 1 v n (bcs l)) : (convert 77 9 v).run Tryz.prog w = .ok (.string ⟨l.toArray⟩) w := by
  have hl : l.length = n := by
    have := h.1
    rw [bcs_len] at this
    omega
  rw [← strOf_bytes]
  rcases h.2 with ⟨rfl, h0⟩ | ⟨g, cap, cur, rfl, _⟩
  · have : l = [] := List.eq_nil_of_length_eq_zero (by omega)
    rw [this]
    exact run_convert_bytes_nil w 77 5 Tryz.underlying77 Tryz.underlying5 0 0 9 Tryz.underlying9
  · refine run_convert_bytes_arg w 77 5 Tryz.underlying77 Tryz.underlying5 g 0 n cap _ (by simpa using hl) ?_ 9 Tryz.underlying9
    intro i hi
    have := h.cells (g := g) rfl i (.int .u8 ((l.map fun b => (b.toNat : Int)).getD i 0)) (by simp [bcs, List.getD, show i < l.length by omega])
    have hadd : (⟨g, 0, none⟩ : Addr).add i = ⟨g, 0 + i, none⟩ := by unfold Addr.add; split <;> simp_all
    rw [hadd] at this
    exact this

theorem cell_new1 (W : World) (x : Int) (t : TypeId) : ∀ j u, [Value.int .u8 x][j]? = some u → (W.alloc (.cells #[.int .u8 x] t)).cell? ((⟨W.heap.size, 0, none⟩ : Addr).add j) = some u := by
  intro j u hj
  match j, hj with
  | 0, hj =>
    simp at hj
    subst hj
    simp [Addr.add]

theorem one_cell (x : Int) : ∀ u ∈ [Value.int .u8 x], u.oneCell' = true := by
  intro u hu
  simp at hu
  subst hu
  rfl

theorem info_byte : (Tryz.prog.info? 5).map (fun i => (i.zero, i.size, i.bytes)) = some (some (.int .u8 0), 1, 1) := by kernel_rfl
end Go.Proofs.YtfjlkkohccihnabGreatDoor.Lx

/- The contracts of Go's library that this seat uses, laid at its dump: each is one application of the shelf's theorem. -/
namespace Go.Proofs
open Go.Shelf Go.RowKit Go.Lib
def Tryz.lays137_ren : Go.Shelf.Ren := ⟨fun | 137 => 159 | 217 => 192 | 266 => 204 | n => n, fun | 9 => 9 | 5 => 5 | 3 => 3 | n => n, fun | n => n⟩
theorem Tryz.lays137 : Go.Proofs.Lays.n137 Tryz.prog Tryz.lays137_ren := {
  mixed := by kernel_rfl
  f137 := Tryz.func159.trans (congrArg some (by kernel_rfl))
  f217 := Tryz.func192.trans (congrArg some (by kernel_rfl))
  f266 := Tryz.func204.trans (congrArg some (by kernel_rfl))
  t3 := Tryz.underlying3
  a3 := Tryz.isAgg3
  z3 := Tryz.sizeOf3
  v3 := Tryz.zeroValue3
  t5 := Tryz.underlying5
  a5 := Tryz.isAgg5
  z5 := Tryz.sizeOf5
  v5 := Tryz.zeroValue5
  t9 := Tryz.underlying9
  a9 := Tryz.isAgg9
  z9 := Tryz.sizeOf9
  v9 := Tryz.zeroValue9 }
theorem Tryz.strings_IndexByte (s : ByteArray) (c : Int) (w : World) :
    Calls Tryz.prog 159 #[.string s, .int .u8 c] w fun e w' => e = .returned (.int .i64 (Lib.indexByte s.data.toList c.toNat.toUInt8)) ∧ w' = w := Any.strings_IndexByte Tryz.lays137 s c w
end Go.Proofs

/- The signs: lex.letterIndex, (*scanner).signLength, each by a contract. -/
namespace Go.Proofs.YtfjlkkohccihnabGreatDoor.Lx
open Go.RowKit Go.Maps

/-- Which of the four letters it is. -/
def letX (c : UInt8) : Int := if c = 92 then 0 else if c = 34 then 1 else if c = 110 then 2 else if c = 116 then 3 else -1

theorem indexByte_letters (c : UInt8) : Lib.indexByte [92, 34, 110, 116] c = letX c := by
  unfold letX
  by_cases h1 : c = 92
  · subst h1; decide
  by_cases h2 : c = 34
  · subst h2; decide
  by_cases h3 : c = 110
  · subst h3; decide
  by_cases h4 : c = 116
  · subst h4; decide
  have e1 : ((92 : UInt8) == c) = false := by simpa using fun h => h1 h.symm
  have e2 : ((34 : UInt8) == c) = false := by simpa using fun h => h2 h.symm
  have e3 : ((110 : UInt8) == c) = false := by simpa using fun h => h3 h.symm
  have e4 : ((116 : UInt8) == c) = false := by simpa using fun h => h4 h.symm
  simp [Lib.indexByte, e1, e2, e3, e4, h1, h2, h3, h4]

theorem toNat_u8 (c : UInt8) : ((c.toNat : Int).toNat).toUInt8 = c := by simp

theorem letters_c (c : UInt8) (w : World) : Calls Tryz.prog 159 #[.string { data := #[92, 34, 110, 116] }, .int .u8 c.toNat] w fun e w' => e = .returned (.int .i64 (letX c)) ∧ w' = w := by
  have h := Tryz.strings_IndexByte { data := #[92, 34, 110, 116] } c.toNat w
  rw [toNat_u8, indexByte_letters] at h
  exact h

theorem letterIndex_out (S : ByteArray) (i : Nat) (hi : S.size ≤ i) (w : World) : Calls Tryz.prog 193 #[.string S, .int .i64 i] w fun e w' => e = .returned (.int .i64 (-1)) ∧ w' = w := by
  go_enter Tryz.func193, Tryz.ntmps193
  go_wp2
  go_ret
  exact ⟨rfl, rfl⟩

theorem letterIndex_in (S : ByteArray) (i : Nat) (hi : i < S.size) (w : World) : Calls Tryz.prog 193 #[.string S, .int .i64 i] w fun e w' => e = .returned (.int .i64 (letX S[i])) ∧ w' = w := by
  have hc := hideP (letters_c S[i])
  obtain ⟨x, hx⟩ : ∃ x, x = letX S[i] := ⟨_, rfl⟩
  rw [← hx] at hc ⊢
  clear hx
  go_enter Tryz.func193, Tryz.ntmps193
  go_wp2_with fail
  refine (hc.out _).mono ?_
  rintro e w' ⟨rfl, rfl⟩
  go_wp2
  go_ret
  exact ⟨rfl, rfl⟩

/-- Is it a sign of one byte? -/
theorem indexByte_mem (l : List UInt8) (c : UInt8) : (0 ≤ Lib.indexByte l c) ↔ c ∈ l := by
  induction l with
  | nil => simp [Lib.indexByte]
  | cons b r ih =>
    unfold Lib.indexByte
    by_cases h : b = c
    · subst h; simp
    · have e : (b == c) = false := by simpa using h
      rw [if_neg (by rw [e]; decide)]
      by_cases h2 : c ∈ r
      · have h3 := ih.2 h2
        have e2 : (Lib.indexByte r c == -1) = false := by simp; omega
        rw [if_neg (by rw [e2]; decide)]
        simp [h2]
        omega
      · have h3 : ¬ 0 ≤ Lib.indexByte r c := fun hh => h2 (ih.1 hh)
        simp only [List.mem_cons, h2, or_false]
        constructor
        · intro h4
          exfalso
          split at h4
          · omega
          · rename_i h5
            simp at h5
            have : Lib.indexByte r c < -1 ∨ Lib.indexByte r c = -1 := by omega
            have hlow : -1 ≤ Lib.indexByte r c := by
              clear ih h2 h3 h4 h5 this
              induction r with
              | nil => simp [Lib.indexByte]
              | cons d r ih2 =>
                unfold Lib.indexByte
                split
                · omega
                split
                · omega
                · omega
            omega
        · intro h4; exact absurd h4.symm h

/-- Where it stands among the signs of one byte. -/
def oneX (c : UInt8) : Int := Lib.indexByte oneV c

theorem oneX_mem (c : UInt8) : 0 ≤ oneX c ↔ oneV.contains c = true := by
  rw [oneX, indexByte_mem, List.contains_iff_mem]

theorem oneSign_c (c : UInt8) (w : World) : Calls Tryz.prog 159 #[.string { data := #[40, 41, 123, 125, 91, 93, 44, 58, 59, 61, 43, 45, 42, 47, 37, 38, 94, 60, 124, 46] }, .int .u8 c.toNat] w fun e w' =>
    e = .returned (.int .i64 (oneX c)) ∧ w' = w := by
  have h := Tryz.strings_IndexByte { data := #[40, 41, 123, 125, 91, 93, 44, 58, 59, 61, 43, 45, 42, 47, 37, 38, 94, 60, 124, 46] } c.toNat w
  rw [toNat_u8] at h
  exact h

/-- The sign that begins at k, by its two tests. -/
theorem sign_two {S : ByteArray} {k : Nat} (hk : k + 1 < S.size) (h : twoV.contains (S[k], S[k + 1]) = true) : signV (S.data.toList.drop k) = 2 := by
  rw [byteArray_drop S k (by omega), byteArray_drop S (k + 1) hk, signV, if_pos h]

theorem sign_one {S : ByteArray} {k : Nat} (hk : k < S.size) (h : ∀ hk1 : k + 1 < S.size, twoV.contains (S[k], S[k + 1]) = false) : signV (S.data.toList.drop k) = if oneV.contains S[k] then 1 else 0 := by
  rw [byteArray_drop S k hk]
  by_cases h1 : k + 1 < S.size
  · rw [byteArray_drop S (k + 1) h1, signV, if_neg (by rw [h h1]; decide)]
  · rw [List.drop_eq_nil_of_le (by rw [byteArray_len]; omega), signV]

theorem pair_look {w : World} {mb : Nat} {D : DataW Unit} (hown : w.ownsMap Tryz.prog 199 unitElem mb 8 D) (hD : PairsD D) (a b : UInt8) {v : Bool} (hv : twoV.contains (a, b) = v) :
    (Instr.lookup 143 (.map (some mb)) (.agg #[.int .u8 a.toNat, .int .u8 b.toNat]) true).run Tryz.prog w = .ok (.tuple #[.agg #[], .bool v]) w := by
  subst hv
  obtain ⟨v, ps, hrun, hv⟩ := hown.look_ok pairLaw Tryz.underlying143 (Tryz.zeroValue200 w) (zd := .agg []) (zp := []) unitElem_mk (pairL_key a b)
  obtain ⟨rfl, _⟩ := unitElem_inv hv
  rw [hD a b _ (pairL_key a b)] at hrun
  exact hrun

theorem later_grown (w : World) (n : Nat) (o : Obj) : w.grownBy ((w.drewN n).alloc o) none := (grown_drewN (World.grownBy.refl w none) n).trans (World.grownBy_alloc _ _ _)
end Go.Proofs.YtfjlkkohccihnabGreatDoor.Lx

/- (*scanner).signLength by a contract. -/
namespace Go.Proofs.YtfjlkkohccihnabGreatDoor.Lx
open Go.RowKit Go.Maps

set_option maxHeartbeats 4000000 in
set_option maxRecDepth 100000 in
theorem signLength_c (S : ByteArray) (hS : S.size ≤ 65536) (sb mb k : Nat) (li ls : Int) (hk0 : k < S.size) (w : World) (hsc : Scan w sb S k li ls mb) (D : DataW Unit) (hown : w.ownsMap Tryz.prog 199 unitElem mb 8 D) (hD : PairsD D) :
    Calls Tryz.prog 194 #[.pointer (some ⟨sb, 0, none⟩)] w fun e w' => e = .returned (.int .i64 (signV (S.data.toList.drop k))) ∧ w.grownBy w' none := by
  obtain ⟨r, hr⟩ : ∃ r, r = signV (S.data.toList.drop k) := ⟨_, rfl⟩
  rw [← hr]
  have HR := hideP hr
  clear hr
  have hone := hideP (oneSign_c S[k])
  have hmem := hideP (oneX_mem S[k])
  obtain ⟨x, hx⟩ : ∃ x, x = oneX S[k] := ⟨_, rfl⟩
  rw [← hx] at hone hmem
  clear hx
  have c0 := hsc.c0
  have c1 := hsc.c1
  have c4 := hsc.c4
  have hx0 : 0 ≤ x ∨ x < 0 := by omega
  by_cases hk : k + 1 < S.size
  · have hk1 : (k : Int) + 1 < (S.size : Int) := by omega
    have hk2 : (0 : Int) ≤ (k : Int) + 1 := by omega
    obtain ⟨v, hv⟩ : ∃ v, v = twoV.contains (S[k], S[k + 1]) := ⟨_, rfl⟩
    have hl : ∀ n, (Instr.lookup 143 (.map (some mb)) (.agg #[.int .u8 S[k].toNat, .int .u8 S[k + 1].toNat]) true).run Tryz.prog (w.drewN n) = .ok (.tuple #[.agg #[], .bool v]) (w.drewN n) :=
      fun n => pair_look (w := w.drewN n) hown hD _ _ hv.symm
    have hl2 : ∀ n, (Instr.lookup 143 (.map (some mb)) (.agg #[.int .u8 S[k].toNat, .int .u8 S[k + 1].toNat]) true).run Tryz.prog ((w.drewN n).alloc (.cells #[] 200)) = .ok (.tuple #[.agg #[], .bool v]) ((w.drewN n).alloc (.cells #[] 200)) :=
      fun n => pair_look (hown.kept (later_grown w n _) (by simp)) hD _ _ hv.symm
    have d0 : ∀ n, ((w.drewN n).alloc (.cells #[] 200)).cell? ⟨sb, 0, none⟩ = some (.string S) := fun n => (hsc.kept (later_grown w n _) (by simp)).c0
    have d1 : ∀ n, ((w.drewN n).alloc (.cells #[] 200)).cell? ⟨sb, 1, none⟩ = some (.int .i64 k) := fun n => (hsc.kept (later_grown w n _) (by simp)).c1
    have d4 : ∀ n, ((w.drewN n).alloc (.cells #[] 200)).cell? ⟨sb, 4, none⟩ = some (.map (some mb)) := fun n => (hsc.kept (later_grown w n _) (by simp)).c4
    have HV := hideP hv
    clear hsc hown hD hv
    cases v
    · have e1 := sign_one hk0 (fun _ => HV.out.symm)
      rw [← HR.out] at e1
      have e3 : (0 ≤ x ∧ r = 1) ∨ (x < 0 ∧ r = 0) := by
        rcases hx0 with h | h
        · exact .inl ⟨h, by rw [e1, hmem.out.1 h]; rfl⟩
        · refine .inr ⟨h, ?_⟩
          rw [e1, if_neg]
          intro hh
          have := hmem.out.2 hh
          omega
      clear e1 hx0
      go_enter Tryz.func194, Tryz.ntmps194
      go_wp2
      go_quiet (fail)
      go_wp2
      go_region
      all_goals
        clear hl hl2 c0 c1 c4
        rcases e3 with ⟨h, rfl⟩ | ⟨h, rfl⟩
        · go_wp2
          go_quiet ((go_at_call 159; refine Calls.quiet_of_same (hone.out _)))
          go_wp2
          go_ret
          exact ⟨rfl, grown_drewN (later_grown _ _ _) _⟩
        · go_wp2
          go_quiet ((go_at_call 159; refine Calls.quiet_of_same (hone.out _)))
          go_wp2
          go_ret
          exact ⟨rfl, grown_drewN (later_grown _ _ _) _⟩
    · have e1 := sign_two hk HV.out.symm
      rw [← HR.out] at e1
      subst e1
      go_enter Tryz.func194, Tryz.ntmps194
      go_wp2
      go_quiet (fail)
      go_wp2
      go_region
      all_goals
        go_wp2
        go_ret
        exact ⟨rfl, later_grown _ _ _⟩
  · have hk1 : ¬ (k : Int) + 1 < (S.size : Int) := by omega
    have e1 := sign_one hk0 (fun h => absurd h hk)
    rw [← HR.out] at e1
    have e3 : (0 ≤ x ∧ r = 1) ∨ (x < 0 ∧ r = 0) := by
      rcases hx0 with h | h
      · exact .inl ⟨h, by rw [e1, hmem.out.1 h]; rfl⟩
      · refine .inr ⟨h, ?_⟩
        rw [e1, if_neg]
        intro hh
        have := hmem.out.2 hh
        omega
    clear hsc hown hD c4 e1 hx0
    have C0 := hideP c0
    have C1 := hideP c1
    go_enter Tryz.func194, Tryz.ntmps194
    go_wp2
    go_quiet (fail)
    go_wp2
    generalize hw1 : World.drewN w _ = w1
    have hg : Hid (w.grownBy w1 none) := by rw [← hw1]; exact grown_drewN (World.grownBy.refl _ _) _
    have d0 : w1.cell? ⟨sb, 0, none⟩ = some (.string S) := by rw [← hw1]; exact C0.out
    have d1 : w1.cell? ⟨sb, 1, none⟩ = some (.int .i64 k) := by rw [← hw1]; exact C1.out
    clear c0 c1 hw1
    rcases e3 with ⟨h, rfl⟩ | ⟨h, rfl⟩
    · go_quiet ((go_at_call 159; refine Calls.quiet_of_same (hone.out _)))
      go_wp2
      go_ret
      exact ⟨rfl, grown_drewN hg.out _⟩
    · go_quiet ((go_at_call 159; refine Calls.quiet_of_same (hone.out _)))
      go_wp2
      go_ret
      exact ⟨rfl, grown_drewN hg.out _⟩
end Go.Proofs.YtfjlkkohccihnabGreatDoor.Lx

/- (*scanner).readSign by a contract. -/
namespace Go.Proofs.YtfjlkkohccihnabGreatDoor.Lx
open Go.RowKit

/-- What a call that reads a sign leaves. -/
def SignPost (S : ByteArray) (sb mb k : Nat) (li ls : Int) (tb : Nat) (kd tl tc : Int) (w : World) (n : Nat) (e : Ending) (w' : World) : Prop :=
  if n = 0 then e = .returned (.int .i64 5) ∧ w.grownBy w' none else
    e = .returned (.int .i64 0) ∧ Scan w' sb S ((k + n : Nat) : Int) li ls mb ∧ TokB w' tb kd ⟨((S.data.toList.drop k).take n).toArray⟩ tl tc ∧ Upd w w' sb tb

set_option maxHeartbeats 4000000 in
set_option maxRecDepth 100000 in
theorem readSign_c (S : ByteArray) (hS : S.size ≤ 65536) (sb mb k : Nat) (li ls : Int) (hk : k < S.size) (tb : Nat) (kd : Int) (tx : ByteArray) (tl tc : Int) (hne : sb ≠ tb) (w : World) (hsc : Scan w sb S k li ls mb) (htk : TokB w tb kd tx tl tc)
    (D : DataW Unit) (hown : w.ownsMap Tryz.prog 199 unitElem mb 8 D) (hD : PairsD D) :
    Calls Tryz.prog 170 #[.pointer (some ⟨sb, 0, none⟩), .pointer (some ⟨tb, 0, none⟩)] w (SignPost S sb mb k li ls tb kd tl tc w (signV (S.data.toList.drop k))) := by
  have hc := signLength_c S hS sb mb k li ls hk w hsc D hown hD
  have hle := signV_le (S.data.toList.drop k)
  rw [List.length_drop, byteArray_len] at hle
  obtain ⟨n, hn⟩ : ∃ n, n = signV (S.data.toList.drop k) := ⟨_, rfl⟩
  rw [← hn] at hc hle ⊢
  have HC := hideP hc
  have HS := hideP hsc
  have HT := hideP htk
  clear hn hc hsc htk hown hD
  by_cases h0 : n = 0
  · subst h0
    go_enter Tryz.func170, Tryz.ntmps170
    go_wp2_with fail
    refine HC.out.mono ?_
    rintro e w1 ⟨rfl, hg⟩
    have HG := hideP hg
    clear hg
    go_wp2
    go_ret
    exact ⟨rfl, HG.out⟩
  have b0 : ((n : Int) == 0) = false := by simp; omega
  have l1 : (k : Int) + (n : Int) ≤ (S.size : Int) := by omega
  have l2 : (k : Int) ≤ (k : Int) + (n : Int) := by omega
  go_enter Tryz.func170, Tryz.ntmps170
  go_wp2_with fail
  refine HC.out.mono ?_
  rintro e w1 ⟨rfl, hg⟩
  have HG := hideP hg
  have hs1 := HS.out.kept hg (by simp)
  have ht1 := HT.out.kept hg (by simp)
  have HS1 := hideP hs1
  have HT1 := hideP ht1
  have c0 := hs1.c0
  have c1 := hs1.c1
  have f1 := hs1.fz 1
  have t1 := ht1.c1
  have g1 := ht1.fz 1
  clear hg hs1 ht1
  go_wp2
  go_region
  all_goals
    have hs2 := HS1.out.kept (grown_setCell w1 ⟨tb, 1, none⟩ (.string (S.extract k (k + n)))) (by simpa using hne)
    have HS2 := hideP hs2
    have d1 := hs2.c1
    have e1 := hs2.fz 1
    clear hs2
    go_wp2
    go_ret
    rw [SignPost, if_neg h0]
    refine ⟨rfl, HS2.out.set1 _, ?_, ?_⟩
    · have := (HT1.out.set1 (S.extract k (k + n))).kept (grown_setCell _ ⟨sb, 1, none⟩ (.int .i64 ((k : Int) + n))) (by simpa using hne.symm)
      rw [extract_eq, Nat.add_sub_cancel_left] at this
      rw [extract_eq, Nat.add_sub_cancel_left]
      exact this
    · exact (((Upd.ofNone HG.out sb tb).setR 1 _).setL 1 _).drew
end Go.Proofs.YtfjlkkohccihnabGreatDoor.Lx

/- (*scanner).readString by a contract. -/
namespace Go.Proofs.YtfjlkkohccihnabGreatDoor.Lx
open Go.RowKit

theorem letX_some {c x : UInt8} (h : unescV c = some x) : ∃ j : Nat, j < 4 ∧ letX c = j ∧ (ByteArray.mk #[92, 34, 10, 9])[j]? = some x := by
  unfold unescV at h
  unfold letX
  repeat' split at h
  · injection h with h; subst h; exact ⟨0, by omega, by simp [*], rfl⟩
  · injection h with h; subst h; exact ⟨1, by omega, by simp [*], rfl⟩
  · injection h with h; subst h; exact ⟨2, by omega, by simp [*], rfl⟩
  · injection h with h; subst h; exact ⟨3, by omega, by simp [*], rfl⟩
  · cases h

theorem letX_none {c : UInt8} (h : unescV c = none) : letX c < 0 := by
  unfold unescV at h
  unfold letX
  repeat' split at h
  · cases h
  · cases h
  · cases h
  · cases h
  · rename_i h1 h2 h3 h4
    rw [if_neg h1, if_neg h2, if_neg h3, if_neg h4]
    decide

/-- The string that goes on at m, behind what it said so far. -/
def strAt (S : ByteArray) (m : Nat) (acc : List UInt8) : Option (List UInt8 × List UInt8) := strV (S.data.toList.drop m) acc

section
variable {S : ByteArray} {m : Nat} {acc : List UInt8}
theorem strAt_end (h : ¬ m < S.size) : strAt S m acc = none := by
  unfold strAt
  rw [List.drop_eq_nil_of_le (by rw [byteArray_len]; omega), strV_nil]
theorem strAt_shut (h : m < S.size) (hb : S[m].toNat = 34) : strAt S m acc = some (acc, S.data.toList.drop (m + 1)) := by
  unfold strAt
  rw [byteArray_drop S m h, show S[m] = 34 from UInt8.toNat_inj.1 hb, strV_shut]
theorem strAt_low (h : m < S.size) (hb : S[m].toNat < 32) : strAt S m acc = none := by
  unfold strAt
  rw [byteArray_drop S m h, strV_low hb]
theorem strAt_on (h : m < S.size) (h1 : S[m].toNat ≠ 34) (h2 : ¬ S[m].toNat < 32) (h3 : S[m].toNat ≠ 92) : strAt S m acc = strAt S (m + 1) (acc ++ [S[m]]) := by
  unfold strAt
  rw [byteArray_drop S m h, strV_on (fun e => h1 (by rw [e]; rfl)) h2 (fun e => h3 (by rw [e]; rfl))]
theorem strAt_cut (h : m < S.size) (hb : S[m].toNat = 92) (h1 : ¬ m + 1 < S.size) : strAt S m acc = none := by
  unfold strAt
  rw [byteArray_drop S m h, show S[m] = 92 from UInt8.toNat_inj.1 hb, List.drop_eq_nil_of_le (by rw [byteArray_len]; omega), strV_cut]
theorem strAt_none (h : m < S.size) (hb : S[m].toNat = 92) (h1 : m + 1 < S.size) (hu : unescV S[m + 1] = none) : strAt S m acc = none := by
  unfold strAt
  rw [byteArray_drop S m h, show S[m] = 92 from UInt8.toNat_inj.1 hb, byteArray_drop S (m + 1) h1, strV_none hu]
theorem strAt_some (h : m < S.size) (hb : S[m].toNat = 92) (h1 : m + 1 < S.size) {x : UInt8} (hu : unescV S[m + 1] = some x) : strAt S m acc = strAt S (m + 2) (acc ++ [x]) := by
  unfold strAt
  rw [byteArray_drop S m h, show S[m] = 92 from UInt8.toNat_inj.1 hb, byteArray_drop S (m + 1) h1, strV_some hu]
end

theorem owns_shape {w : World} {B e z n : Nat} {v : Value} {xs : List Value} (h : w.ownsRow B e z v n xs) : ∃ a cap, v = .slice a n cap := by
  rcases h.2 with ⟨h1, h2⟩ | ⟨g, cap, cur, h1, _⟩
  · exact ⟨none, 0, by rw [h1, h2]⟩
  · exact ⟨_, _, h1⟩

theorem owns_base {w : World} {B e z n : Nat} {v : Value} {xs : List Value} (h : w.ownsRow B e z v n xs) : Hid (∀ j, v.ownBlock = some j → B ≤ j) := by
  intro j hj
  rcases h.2 with ⟨h1, h2⟩ | ⟨g, cap, cur, h1, h2, _⟩
  · rw [h1] at hj; cases hj
  · rw [h1] at hj
    simp [Value.ownBlock] at hj
    omega

theorem str_step {w wr w1 : World} {v v' : Value} {acc : List UInt8} {ob : Obj} (x : UInt8) (hg : w.grownBy wr none) (hown' : w1.ownsRow w.heap.size 5 1 v' (acc.length + 1) (bcs acc ++ [.int .u8 x.toNat]))
    (hgrow : (wr.alloc ob).grownBy w1 v.ownBlock) (hb : ∀ j, v.ownBlock = some j → w.heap.size ≤ j) : w1.ownsRow w.heap.size 5 1 v' (acc ++ [x]).length (bcs (acc ++ [x])) ∧ w.grownBy w1 none := by
  refine ⟨?_, (hg.trans (World.grownBy_alloc _ _ _)).andThen hgrow fun j hj => .inl (hb j hj)⟩
  rw [bcs_snoc, List.length_append]
  exact hown'

/-- What a call that reads a string leaves. -/
def StrPost (S : ByteArray) (sb mb k : Nat) (li ls : Int) (tb : Nat) (kd tl tc : Int) (w : World) (o : Option (List UInt8 × List UInt8)) (e : Ending) (w' : World) : Prop :=
  match o with
  | none => e = .returned (.int .i64 4) ∧ w.grownBy w' none
  | some (said, rest) => if 256 < said.length then e = .returned (.int .i64 2) ∧ w.grownBy w' none else
      e = .returned (.int .i64 0) ∧ ∃ m : Nat, k < m ∧ m ≤ S.size ∧ rest = S.data.toList.drop m ∧ Scan w' sb S m li ls mb ∧ TokB w' tb kd ⟨said.toArray⟩ tl tc ∧ Upd w w' sb tb

set_option maxHeartbeats 4000000 in
set_option maxRecDepth 100000 in
theorem readString_c (S : ByteArray) (hS : S.size ≤ 65536) (sb mb k : Nat) (li ls : Int) (hk : k < S.size) (tb : Nat) (kd : Int) (tx : ByteArray) (tl tc : Int) (hne : sb ≠ tb) (w : World) (hsc : Scan w sb S k li ls mb) (htk : TokB w tb kd tx tl tc) :
    Calls Tryz.prog 169 #[.pointer (some ⟨sb, 0, none⟩), .pointer (some ⟨tb, 0, none⟩)] w (StrPost S sb mb k li ls tb kd tl tc w (strAt S (k + 1) [])) := by
  obtain ⟨o, ho⟩ : ∃ o, o = strAt S (k + 1) [] := ⟨_, rfl⟩
  rw [← ho]
  have HO := hideP ho
  have HS := hideP hsc
  have HT := hideP htk
  have c0 := hsc.c0
  have c1 := hsc.c1
  clear ho hsc htk
  obtain ⟨i0, hi, hz0, hz1, hz2⟩ := info_parts info_byte
  go_enter Tryz.func169, Tryz.ntmps169
  go_wp2
  go_loopw [5, 6] (fun v i wr => ∃ (m : Nat) (acc : List UInt8), k + 1 ≤ m ∧ m ≤ S.size + 1 ∧ i = .int .i64 m ∧ acc.length ≤ m ∧ wr.ownsRow w.heap.size 5 1 v acc.length (bcs acc) ∧ w.grownBy wr none ∧ o = strAt S m acc) (fun _ i _ => S.size + 1 - (intOf i).toNat)
  case atStart => exact ⟨k + 1, [], Nat.le_refl _, by omega, by go_num, by simp, World.ownsRow_nil _ _ _ _, World.grownBy.refl _ _, HO.out⟩
  case round =>
    obtain ⟨m, acc, hm, hm1, rfl, hal, hown, hg, hrel⟩ := hrel
    have HR := hideP hrel
    have HG := hideP hg
    have hsc := HS.out.kept hg (by simp)
    have htk := HT.out.kept hg (by simp)
    have HSC := hideP hsc
    have HTK := hideP htk
    have d0 := hsc.c0
    have d1 := hsc.c1
    have f1 := hsc.fz 1
    have t1 := htk.c1
    have g1 := htk.fz 1
    have HOW := hideP hown
    have hsz := hg.size
    obtain ⟨a, cap, rfl⟩ := owns_shape hown
    have hbl := owns_base hown
    clear hrel hg hsc htk c0 c1
    by_cases hlt : m < S.size
    · by_cases b1 : S[m].toNat = 34
      · have p1 : ((S[m].toNat : Int) == 34) = true := by simp; omega
        have e := HR.out.trans (strAt_shut hlt b1)
        have hcv := conv_bytes hown
        clear hown
        by_cases hl : 256 < acc.length
        · subst e
          go_wp2
          go_ret
          simp only [StrPost, if_pos hl]
          exact ⟨rfl, HG.out⟩
        · subst e
          go_wp2
          go_ret
          simp only [StrPost, if_neg hl]
          refine ⟨rfl, m + 1, by omega, by omega, rfl, ?_, ?_, ?_⟩
          · exact (HSC.out.kept (grown_setCell wr ⟨tb, 1, none⟩ _) (by simpa using hne)).set1 (m + 1)
          · exact (HTK.out.set1 _).kept (grown_setCell _ ⟨sb, 1, none⟩ _) (by simpa using hne.symm)
          · exact ((Upd.ofNone HG.out sb tb).setR 1 _).setL 1 _
      have n1 : ((S[m].toNat : Int) == 34) = false := by simp; omega
      by_cases b2 : S[m].toNat < 32
      · have e := HR.out.trans (strAt_low hlt b2)
        have p2 : (S[m].toNat : Int) < 32 := by omega
        clear hown
        subst e
        go_wp2
        go_ret
        exact ⟨rfl, HG.out⟩
      have n2 : ¬ (S[m].toNat : Int) < 32 := by omega
      by_cases b3 : S[m].toNat = 92
      · have p3 : ((S[m].toNat : Int) == 92) = true := by simp; omega
        by_cases hl1 : m + 1 < S.size
        · have hc := letterIndex_in S (m + 1) hl1
          cases hu : unescV S[m + 1] with
          | none =>
            have e := HR.out.trans (strAt_none hlt b3 hl1 hu)
            have hneg := letX_none hu
            obtain ⟨x, hx⟩ : ∃ x, x = letX S[m + 1] := ⟨_, rfl⟩
            rw [← hx] at hc hneg
            have HC := hideP hc
            clear hown hc hx hu
            subst e
            go_wp2_with fail
            refine (HC.out _).mono ?_
            rintro e w' ⟨rfl, rfl⟩
            go_wp2
            go_ret
            exact ⟨rfl, HG.out⟩
          | some x =>
            have e := hideP (HR.out.trans (strAt_some hlt b3 hl1 hu))
            obtain ⟨j, hj, hjx, hix⟩ := letX_some hu
            rw [hjx] at hc
            have HC := hideP hc
            clear hc hjx hu
            have hj4 : (j = 0 ∧ x = 92) ∨ (j = 1 ∧ x = 34) ∨ (j = 2 ∧ x = 10) ∨ (j = 3 ∧ x = 9) := by
              match j, hj with
              | 0, _ => exact .inl ⟨rfl, (Option.some.inj hix).symm⟩
              | 1, _ => exact .inr (.inl ⟨rfl, (Option.some.inj hix).symm⟩)
              | 2, _ => exact .inr (.inr (.inl ⟨rfl, (Option.some.inj hix).symm⟩))
              | 3, _ => exact .inr (.inr (.inr ⟨rfl, (Option.some.inj hix).symm⟩))
            clear hix hj
            rcases hj4 with ⟨rfl, rfl⟩ | ⟨rfl, rfl⟩ | ⟨rfl, rfl⟩ | ⟨rfl, rfl⟩
            · go_wp2_with fail
              refine (HC.out _).mono ?_
              rintro e w' ⟨rfl, rfl⟩
              go_wp2_with (at_builtin; refine wpList_append_own _ rfl (.tmp 60) (.tmp 62) 77 rfl w.heap.size 5 i0 (.int .u8 0) 1 1 Tryz.underlying77 hi hz0 hz1 hz2 rfl (by decide) _ _ _ rfl (HOW.out.alloc _) ⟨_, 0, none⟩ 1 1 [.int .u8 92] rfl rfl (cell_new1 _ 92 5) (one_cell 92) (by unfold maxLen; omega) (by omega) (by simp; omega) ?_)
              intro v' w1 hown' hgrow _
              have R := hideP (str_step 92 HG.out hown' hgrow hbl.out)
              clear hown' hgrow hown
              go_wp2
              go_roundw
              case rel => exact ⟨m + 2, acc ++ [92], by omega, by omega, by go_num, by simp; omega, R.out.1, R.out.2, e.out⟩
              case measure => simp [intOf]; omega
            · go_wp2_with fail
              refine (HC.out _).mono ?_
              rintro e w' ⟨rfl, rfl⟩
              go_wp2_with (at_builtin; refine wpList_append_own _ rfl (.tmp 60) (.tmp 62) 77 rfl w.heap.size 5 i0 (.int .u8 0) 1 1 Tryz.underlying77 hi hz0 hz1 hz2 rfl (by decide) _ _ _ rfl (HOW.out.alloc _) ⟨_, 0, none⟩ 1 1 [.int .u8 34] rfl rfl (cell_new1 _ 34 5) (one_cell 34) (by unfold maxLen; omega) (by omega) (by simp; omega) ?_)
              intro v' w1 hown' hgrow _
              have R := hideP (str_step 34 HG.out hown' hgrow hbl.out)
              clear hown' hgrow hown
              go_wp2
              go_roundw
              case rel => exact ⟨m + 2, acc ++ [34], by omega, by omega, by go_num, by simp; omega, R.out.1, R.out.2, e.out⟩
              case measure => simp [intOf]; omega
            · go_wp2_with fail
              refine (HC.out _).mono ?_
              rintro e w' ⟨rfl, rfl⟩
              go_wp2_with (at_builtin; refine wpList_append_own _ rfl (.tmp 60) (.tmp 62) 77 rfl w.heap.size 5 i0 (.int .u8 0) 1 1 Tryz.underlying77 hi hz0 hz1 hz2 rfl (by decide) _ _ _ rfl (HOW.out.alloc _) ⟨_, 0, none⟩ 1 1 [.int .u8 10] rfl rfl (cell_new1 _ 10 5) (one_cell 10) (by unfold maxLen; omega) (by omega) (by simp; omega) ?_)
              intro v' w1 hown' hgrow _
              have R := hideP (str_step 10 HG.out hown' hgrow hbl.out)
              clear hown' hgrow hown
              go_wp2
              go_roundw
              case rel => exact ⟨m + 2, acc ++ [10], by omega, by omega, by go_num, by simp; omega, R.out.1, R.out.2, e.out⟩
              case measure => simp [intOf]; omega
            · go_wp2_with fail
              refine (HC.out _).mono ?_
              rintro e w' ⟨rfl, rfl⟩
              go_wp2_with (at_builtin; refine wpList_append_own _ rfl (.tmp 60) (.tmp 62) 77 rfl w.heap.size 5 i0 (.int .u8 0) 1 1 Tryz.underlying77 hi hz0 hz1 hz2 rfl (by decide) _ _ _ rfl (HOW.out.alloc _) ⟨_, 0, none⟩ 1 1 [.int .u8 9] rfl rfl (cell_new1 _ 9 5) (one_cell 9) (by unfold maxLen; omega) (by omega) (by simp; omega) ?_)
              intro v' w1 hown' hgrow _
              have R := hideP (str_step 9 HG.out hown' hgrow hbl.out)
              clear hown' hgrow hown
              go_wp2
              go_roundw
              case rel => exact ⟨m + 2, acc ++ [9], by omega, by omega, by go_num, by simp; omega, R.out.1, R.out.2, e.out⟩
              case measure => simp [intOf]; omega
        · have e := HR.out.trans (strAt_cut hlt b3 hl1)
          have HC := hideP (letterIndex_out S (m + 1) (by omega))
          clear hown
          subst e
          go_wp2_with fail
          refine (HC.out _).mono ?_
          rintro e w' ⟨rfl, rfl⟩
          go_wp2
          go_ret
          exact ⟨rfl, HG.out⟩
      have n3 : ((S[m].toNat : Int) == 92) = false := by simp; omega
      have e := hideP (HR.out.trans (strAt_on hlt b1 b2 b3))
      go_wp2_with (at_builtin; refine wpList_append_own _ rfl (.tmp 60) (.tmp 62) 77 rfl w.heap.size 5 i0 (.int .u8 0) 1 1 Tryz.underlying77 hi hz0 hz1 hz2 rfl (by decide) _ _ _ rfl (HOW.out.alloc _) ⟨_, 0, none⟩ 1 1 [.int .u8 S[m].toNat] rfl rfl (cell_new1 _ S[m].toNat 5) (one_cell S[m].toNat) (by unfold maxLen; omega) (by omega) (by simp; omega) ?_)
      intro v' w1 hown' hgrow _
      have R := hideP (str_step S[m] HG.out hown' hgrow hbl.out)
      clear hown' hgrow hown
      go_wp2
      go_roundw
      case rel => exact ⟨m + 1, acc ++ [S[m]], by omega, by omega, by go_num, by simp; omega, R.out.1, R.out.2, e.out⟩
      case measure => simp [intOf]; omega
    · have e := HR.out.trans (strAt_end hlt)
      clear hown
      subst e
      go_wp2
      go_ret
      exact ⟨rfl, HG.out⟩
end Go.Proofs.YtfjlkkohccihnabGreatDoor.Lx
