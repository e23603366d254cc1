/- Slices of bytes that came in, for a reader. -/
import Derived.Test.YtdlkkflenphkfabDoorLaid
import Derived.Test.YtdlkkflenphkfabDoorGet
namespace Go.Proofs.YtdlkkflenphkfabDoor
open Go.ChangeShapes Go.WideShapes Go.ChangeAt Go.RowKit

theorem get_none (len cap : Nat) (a : Option Addr) (hlen : len = 0) (w : World) : Calls Tryd.prog 9 #[.slice a len cap] w fun e w' => e = .returned (gotten (getV [])) ∧ w' = w := by
  subst hlen
  go_enter Tryd.func9, Tryd.ntmps9
  go_wp2
  refine wp_loop_rounds 1 ?_
  rw [rounds_succ]
  go_wp2
  go_ret2
  exact ⟨rfl, rfl⟩

/-- The elements of a slice that came in, for a reader. -/
theorem row_cells {w : World} {a : Option Addr} {len cap : Nat} {zs : List Int} (h : IsRow w a len cap zs) :
    len = 0 ∨ ∃ b off, a = some ⟨b, off, none⟩ ∧ b < w.heap.size ∧ (zs.take len).length = len ∧ (∀ x ∈ zs.take len, 0 ≤ x ∧ x ≤ 255) ∧ len ≤ 281474976710000 ∧ ∀ i, i < len → w.cell? ⟨b, off + i, none⟩ = some (.int .u8 ((zs.take len).getD i 0)) := by
  obtain ⟨hcap, ⟨_, h0, _, _⟩ | ⟨x, rfl, hl, hz, hcell, hwz⟩⟩ := h
  · exact Or.inl h0
  by_cases h0 : len = 0
  · exact Or.inl h0
  obtain ⟨b, off, spot⟩ := x
  have hc := hcell 0 (by omega)
  have hspot : spot = none := by simpa [Addr.add] using World.cell?_spot hc
  subst hspot
  refine Or.inr ⟨b, off, rfl, World.block_lt_of_cell? w _ hc, by simp; omega, ?_, by omega, ?_⟩
  · intro x hx
    have := bounds_u8 (hwz x (List.mem_of_mem_take hx))
    exact this
  · intro i hi
    have := hcell i (by omega)
    have hadd : (⟨b, off, none⟩ : Addr).add i = ⟨b, off + i, none⟩ := by unfold Addr.add; split <;> simp_all
    rw [hadd] at this
    rw [this]
    simp [List.getD, hi]
end Go.Proofs.YtdlkkflenphkfabDoor
