/- lex.isWord by a contract: the package's table of words lies as its text lays it. -/
import Derived.Test.YtgoppgopnhmhfaaDoorSkip
import Derived.Deep.MidRow
namespace Go.Proofs.YtgoppgopnhmhfaaDoor
open Go.RowKit

/-- The word with this number. -/
def wordB (i : Nat) : ByteArray := ⟨(wordsV.getD i []).toArray⟩

/-- The table of words lies where the package reads it. -/
def Words (w : World) : Prop := ∀ i, i < 25 → w.cell? ⟨0, i, none⟩ = some (.string (wordB i))

theorem Words.lt {w : World} (h : Words w) : 0 < w.heap.size := World.block_lt_of_cell? w _ (h 0 (by decide))

theorem Words.below {w w' : World} (h : Words w) (hb : Below w.heap.size w w') : Words w' := fun i hi => (hb.cell (show 0 < w.heap.size from h.lt)).trans (h i hi)

theorem Words.grown {w w' : World} {row : Option Nat} (h : Words w) (hg : w.grownBy w' row) (hr : some 0 ≠ row) : Words w' := fun i hi => hg.cell (h i hi) hr

/-- The table's cells. -/
def wordsA : List Value := (List.range 25).map fun i => .string (wordB i)

theorem words_at (i : Nat) (hi : i < 25) : wordsA[i]? = some (.string (wordB i)) := by simp [wordsA, hi]

theorem Words.range {w : World} (h : Words w) : w.rangeAt 0 0 wordsA := by
  intro j v hv
  have hj : j < 25 := by
    have := (List.getElem?_eq_some_iff.1 hv).1
    simpa [wordsA] using this
  rw [words_at j hj] at hv
  injection hv with hv
  rw [← hv, Nat.zero_add]
  exact h j hj

theorem words_size : (Tryd.prog.info? 47).map (·.size) = some wordsA.length := by kernel_rfl

/-- No word up to here is it. -/
def noWord (s : ByteArray) (k : Nat) : Prop := ∀ i, i < k → s ≠ wordB i

theorem words_mem (s : ByteArray) : wordsV.contains s.data.toList = true ↔ ∃ i, i < 25 ∧ s = wordB i := by
  rw [List.contains_iff_mem]
  constructor
  · intro h
    obtain ⟨i, hi, e⟩ := List.mem_iff_getElem.1 h
    refine ⟨i, hi, ?_⟩
    unfold wordB
    rw [List.getD_eq_getElem?_getD, List.getElem?_eq_getElem hi, Option.getD_some, e]
  · rintro ⟨i, hi, e⟩
    rw [e]
    unfold wordB
    rw [List.getD_eq_getElem?_getD, List.getElem?_eq_getElem (show i < wordsV.length from hi), Option.getD_some]
    exact List.getElem_mem ..

theorem str_eq {s t : ByteArray} : (s.toList == t.toList) = true ↔ s = t := by
  rw [ByteArray.toList_eq, ByteArray.toList_eq, beq_iff_eq]
  constructor
  · intro h
    cases s; cases t
    simp at h
    rw [h]
  · rintro rfl; rfl

theorem str_ne {s t : ByteArray} (h : (s.toList == t.toList) = false) : s ≠ t := fun e => by
  rw [str_eq.2 e] at h
  cases h

theorem words_index {A : List Value} {k : Nat} {t : ByteArray} (hk : k < 25) (h : A[k]? = some (.string t)) (w : World) :
    (Instr.index 47 (.agg A.toArray) (.int .i64 k)).run Tryd.prog w = .ok (.string t) w := by
  have hu := Tryd.underlying47
  have ha := Tryd.isAgg9
  have hz := Tryd.sizeOf9
  simp [Instr.index, asIntOf, run_underlying hu, part, ha, hz, Result.andThen, hk]
  rw [h]
  rfl

set_option maxRecDepth 100000 in
theorem isWord_c (s : ByteArray) (w : World) (hw : Words w) :
    Calls Tryd.prog 28 #[.string s] w fun e w' => e = .returned (.bool (wordsV.contains s.data.toList)) ∧ w' = w := by
  obtain ⟨b, hb⟩ : ∃ b, b = wordsV.contains s.data.toList := ⟨_, rfl⟩
  rw [← hb]
  have HB := hideP hb
  clear hb
  have hr := hideP hw.range
  obtain ⟨A, hA⟩ : ∃ A, A = wordsA := ⟨_, rfl⟩
  have hat := words_at
  have hsz := words_size
  rw [← hA] at hr hat hsz
  clear hA hw
  have HA := hideP hat
  clear hat
  go_enter Tryd.func28, Tryd.ntmps28
  go_wp2_with (refine wpList_load_mid rfl 47 (.global 0) rfl 0 0 rfl A (.array 25 9) hr.out Tryd.underlying47 rfl hsz ?_)
  go_loop [6] (fun i => ∃ k : Nat, k ≤ 25 ∧ i = .int .i64 k ∧ Hid (noWord s k)) (fun i => 25 - (intOf i).toNat)
  case atStart => exact ⟨0, by omega, rfl, fun i hi => by omega⟩
  case round =>
    obtain ⟨k, hk, rfl, hno⟩ := hrel
    by_cases hlt : k < 25
    · have hAk := HA.out k hlt
      obtain ⟨t, ht⟩ : ∃ t, t = wordB k := ⟨_, rfl⟩
      rw [← ht] at hAk
      have hix := words_index hlt hAk w
      clear hAk
      have HT := hideP ht
      clear ht
      cases hq : (s.toList == t.toList)
      · have hno' : Hid (noWord s (k + 1)) := fun i hi => by
          by_cases hik : i = k
          · subst hik; rw [← HT.out]; exact str_ne hq
          · exact hno.out i (by omega)
        go_wp2
        go_round
        case rel => exact ⟨k + 1, by omega, by go_num, hno'⟩
        case measure => simp [intOf]; omega
      · have e : b = true := by
          rw [HB.out]
          exact (words_mem s).2 ⟨k, hlt, (str_eq.1 hq).trans HT.out⟩
        subst e
        go_wp2
        go_ret
        exact ⟨rfl, rfl⟩
    · have e : b = false := by
        rw [HB.out, Bool.eq_false_iff]
        intro h
        obtain ⟨i, hi, e⟩ := (words_mem s).1 h
        exact hno.out i (by omega) e
      subst e
      go_wp2
      go_ret
      exact ⟨rfl, rfl⟩
end Go.Proofs.YtgoppgopnhmhfaaDoor
