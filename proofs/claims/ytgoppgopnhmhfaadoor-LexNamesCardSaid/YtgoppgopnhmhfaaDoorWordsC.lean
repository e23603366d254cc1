/- lex.Words by a contract: a new slice of the words. -/
import Derived.Test.YtgoppgopnhmhfaaDoorAwakeL
namespace Go.Proofs.YtgoppgopnhmhfaaDoor
open Go.RowKit

theorem wordsA_len : wordsA.length = 25 := by simp [wordsA]

theorem wordsA_one : (wordsA.toArray).all (·.oneCell') = true := by
  rw [Array.all_eq_true_iff_forall_mem]
  intro v hv
  have : v ∈ wordsA := by simpa using hv
  obtain ⟨i, _, rfl⟩ := List.mem_map.1 this
  rfl

/-- What a call of Words leaves: a slice of 25 strings in a block of its own. -/
theorem words_c (w : World) (hw : Words w) : Calls Tryd.prog 13 #[] w fun e w' => e = .returned (.slice (some ⟨w.heap.size, 0, none⟩) 25 25) ∧ Below w.heap.size w w' ∧ ∀ i, i < 25 → w'.cell? ⟨w.heap.size, i, none⟩ = some (.string (wordB i)) := by
  have hr := hideP hw.range
  have hcell : Hid (∀ i, i < 25 → (w.alloc (.cells wordsA.toArray 47)).cell? ⟨w.heap.size, i, none⟩ = some (.string (wordB i))) := fun i hi => by
    rw [cell_of_row _ _ i _ 47 (0, 0) (heap_alloc_last w _)]
    have := words_at i hi
    simpa using this
  have hst := run_storeCells_new (P := Tryd.prog) w 47 #[.string { data := #[] }, .string { data := #[] }, .string { data := #[] }, .string { data := #[] }, .string { data := #[] }, .string { data := #[] }, .string { data := #[] }, .string { data := #[] }, .string { data := #[] }, .string { data := #[] }, .string { data := #[] }, .string { data := #[] }, .string { data := #[] }, .string { data := #[] }, .string { data := #[] }, .string { data := #[] }, .string { data := #[] }, .string { data := #[] }, .string { data := #[] }, .string { data := #[] }, .string { data := #[] }, .string { data := #[] }, .string { data := #[] }, .string { data := #[] }, .string { data := #[] }] wordsA.toArray (by rw [words_size]; simp) (by simp [wordsA_len]) wordsA_one
  obtain ⟨A, hA⟩ : ∃ A, A = wordsA := ⟨_, rfl⟩
  have hsz := words_size
  have hAl := wordsA_len
  rw [← hA] at hr hsz hst hcell hAl
  rw [show A.toArray.toList = A from rfl] at hst
  clear hA hw
  go_enter Tryd.func13, Tryd.ntmps13
  go_wp2_with (refine wpList_load_mid rfl 47 (.global 0) rfl 0 0 rfl A (.array 25 9) hr.out Tryd.underlying47 rfl hsz ?_)
  go_ret
  exact ⟨rfl, bl_alloc w _, hcell.out⟩
end Go.Proofs.YtgoppgopnhmhfaaDoor
