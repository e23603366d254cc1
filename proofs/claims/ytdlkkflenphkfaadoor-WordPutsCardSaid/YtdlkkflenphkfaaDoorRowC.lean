/- Slices of bytes that came in: what a reader is told of them, and that it stays so. -/
import Derived.Test.YtdlkkflenphkfaaDoorLaid
namespace Go.Proofs.YtdlkkflenphkfaaDoor
open Go.ChangeShapes Go.WideShapes Go.ChangeAt Go.RowKit

/-- The elements of a slice that came in, for a reader. -/
theorem row_cells {w : World} {a : Option Addr} {len cap : Nat} {zs : List Int} (h : IsRow w a len cap zs) :
    len = 0 ∨ ∃ b off, a = some ⟨b, off, none⟩ ∧ b < w.heap.size ∧ (zs.take len).length = len ∧ (∀ x ∈ zs.take len, 0 ≤ x ∧ x ≤ 255) ∧ len ≤ 281474976710000 ∧ ∀ i, i < len → w.cell? ⟨b, off + i, none⟩ = some (.int .u8 ((zs.take len).getD i 0)) := by
  obtain ⟨hcap, ⟨_, h0, _, _⟩ | ⟨x, rfl, hl, hz, hcell, hwz⟩⟩ := h
  · exact Or.inl h0
  by_cases h0 : len = 0
  · exact Or.inl h0
  obtain ⟨b, off, spot⟩ := x
  have hc := hcell 0 (by omega)
  have hspot : spot = none := by simpa [Addr.add] using World.cell?_spot hc
  subst hspot
  refine Or.inr ⟨b, off, rfl, World.block_lt_of_cell? w _ hc, by simp; omega, ?_, by omega, ?_⟩
  · intro x hx
    have := bounds_u8 (hwz x (List.mem_of_mem_take hx))
    exact this
  · intro i hi
    have := hcell i (by omega)
    have hadd : (⟨b, off, none⟩ : Addr).add i = ⟨b, off + i, none⟩ := by unfold Addr.add; split <;> simp_all
    rw [hadd] at this
    rw [this]
    simp [List.getD, hi]

theorem row_le {w : World} {a : Option Addr} {len cap : Nat} {zs : List Int} (h : IsRow w a len cap zs) : len ≤ cap ∧ cap ≤ 140737488351232 ∧ (zs.take len).length = len ∧ (a = none → len = 0 ∧ cap = 0) ∧ ∀ x ∈ zs.take len, 0 ≤ x ∧ x ≤ 255 := by
  obtain ⟨hcap, ⟨rfl, rfl, rfl, rfl⟩ | ⟨x, rfl, hl, hz, hcell, hwz⟩⟩ := h
  · exact ⟨Nat.le_refl _, hcap, rfl, fun _ => ⟨rfl, rfl⟩, by simp⟩
  · exact ⟨hl, hcap, by simp; omega, (fun h => by cases h), fun y hy => bounds_u8 (hwz y (List.mem_of_mem_take hy))⟩

theorem row_kept {w : World} {a : Option Addr} {len cap : Nat} {zs : List Int} (h : IsRow w a len cap zs) : ∀ w', Below w.heap.size w w' → ∀ ad, a = some ad → ∀ j u, (bv (zs.take len))[j]? = some u → w'.cell? (ad.add j) = some u := by
  intro w' hB ad ha j u hu
  obtain ⟨_, ⟨rfl, _⟩ | ⟨x, rfl, hl, hz, hcell, _⟩⟩ := h
  · cases ha
  cases ha
  have hj : j < len ∧ j < zs.length := by
    have := List.getElem?_eq_some_iff.1 hu
    obtain ⟨hlt, _⟩ := this
    rw [bv_len, List.length_take] at hlt
    omega
  have hc := hcell j hj.2
  have e : u = .int .u8 (zs.getD j 0) := by
    simp only [bv, List.getElem?_map, List.getElem?_take, hj.1, if_true, Option.map_eq_some_iff] at hu
    obtain ⟨y, hy, rfl⟩ := hu
    simp [List.getD, hy]
  rw [e, hB.cell (World.block_lt_of_cell? w _ hc)]
  exact hc

theorem load_none (w : World) (a : Addr) : (loadCells a 0).run Tryd.prog w = .ok #[] w := by
  simp [loadCells, loadCellsFrom]

theorem conv_row {w : World} {a : Option Addr} {len cap : Nat} {zs : List Int} (h : IsRow w a len cap zs) : ∀ w', Below w.heap.size w w' →
    (convert 34 9 (.slice a len cap)).run Tryd.prog w' = .ok (.string (strOfNums (zs.take len))) w' := by
  intro w' hB
  rcases row_cells h with h0 | ⟨b, off, rfl, hb, hl, hby, hlen, hc⟩
  · subst h0
    cases a with
    | none => exact run_convert_bytes_nil w' 34 5 Tryd.underlying34 Tryd.underlying5 0 cap 9 Tryd.underlying9
    | some ad =>
      rw [run_convert_bytes_string w' 34 9 5 (some ad) 0 cap Tryd.underlying34 Tryd.underlying5 Tryd.underlying9, run_bytesToString w' ad 0 cap [] (load_none w' ad)]
      rfl
  · exact run_convert_bytes_arg w' 34 5 Tryd.underlying34 Tryd.underlying5 b off len cap _ hl (fun i hi => (hB.cell (by exact hb)).trans (hc i hi)) 9 Tryd.underlying9

theorem owns_below {w w' : World} {B e n : Nat} {v : Value} {xs : List Value} (h : w.ownsRow B e 1 v n xs) (hB : Below w.heap.size w w') : w'.ownsRow B e 1 v n xs :=
  h.kept (row := none) ⟨hB.os, hB.tape, hB.output, hB.size, fun k hk _ => hB.block k hk⟩ (by cases hv : v.ownBlock <;> simp)

/-- A row of the call's own as a string. -/
theorem conv_any {w : World} {B n : Nat} {v : Value} {l : List Int} (h : w.ownsRow B 5 1 v n (bv l)) : (convert 34 9 v).run Tryd.prog w = .ok (.string (strOfNums l)) w := by
  rcases h.2 with ⟨rfl, h0⟩ | ⟨g, cap, cur, rfl, _⟩
  · have hl : l = [] := by
      have := h.1
      rw [bv_len] at this
      exact List.eq_nil_of_length_eq_zero (by omega)
    rw [hl]
    exact run_convert_bytes_nil w 34 5 Tryd.underlying34 Tryd.underlying5 0 0 9 Tryd.underlying9
  · exact conv_own h
end Go.Proofs.YtdlkkflenphkfaaDoor
