/- A row of types whose cells are turned one type at a time: what types.ownCopy's loop keeps of its row. -/
import Derived.Test.YtmpcjcjacpjilaaDoorTyCl
namespace Go.Proofs.YtmpcjcjacpjilaaDoor
open Go.RowKit

/-- Not too many names or kids at any node. -/
def FewT : Nat → Ty → Prop
  | 0, _ => True
  | n + 1, D => (namesT D).length ≤ 1000000 ∧ (kidsT D).length ≤ 1000000 ∧ ∀ x ∈ kidsT D, FewT n x

/-- The block g is a clean row whose first K types have these cells. -/
def RowC (w : World) (g K : Nat) (f : Nat → Cells) : Prop := ∃ cur, w.heap[g]? = some (.cells cur 25) ∧ ∀ i, i < K → ∀ r, r < 4 → cur[i * 4 + r]? = (f i).list[r]?

theorem rowC_grow {w w' : World} {g K : Nat} {f : Nat → Cells} (h : RowC w g K f) (hb : Below w.heap.size w w') : RowC w' g K f := by
  obtain ⟨cur, h1, h2⟩ := h
  exact ⟨cur, (hb.block _ (lt_of_block h1)).trans h1, h2⟩

theorem rowC_cell {w : World} {g K : Nat} {f : Nat → Cells} (h : RowC w g K f) {i : Nat} (hi : i < K) {r : Nat} (hr : r < 4) : w.cell? ⟨g, i * 4 + r, none⟩ = (f i).list[r]? := by
  obtain ⟨cur, h1, h2⟩ := h
  rw [cell_of_row w g _ _ _ _ h1]
  exact h2 i hi r hr

theorem rowC_free {w : World} {g K : Nat} {f : Nat → Cells} (h : RowC w g K f) (o : Nat) : w.frozen? ⟨g, o, none⟩ = false := by
  obtain ⟨cur, h1, _⟩ := h
  simp [World.frozen?, h1]

/-- One type of the row is turned. -/
theorem rowC_put {w : World} {g K : Nat} {f : Nat → Cells} (h : RowC w g K f) {i : Nat} (hi : i < K) (c : Cells) :
    RowC ((((w.setCell ⟨g, i * 4, none⟩ (.int .i64 c.1)).setCell ⟨g, i * 4 + 1, none⟩ (.string c.2.1)).setCell ⟨g, i * 4 + 2, none⟩ (.slice c.2.2.1 c.2.2.2.1 c.2.2.2.2.1)).setCell ⟨g, i * 4 + 3, none⟩ (.slice c.2.2.2.2.2.1 c.2.2.2.2.2.2.1 c.2.2.2.2.2.2.2)) g K (fun j => if j = i then c else f j) := by
  obtain ⟨cur, h1, h2⟩ := h
  have hsz : i * 4 + 3 < cur.size := by
    have := h2 i hi 3 (by omega)
    by_cases hc : i * 4 + 3 < cur.size
    · exact hc
    · rw [Array.getElem?_eq_none (by omega)] at this
      simp [Cells.list] at this
  refine ⟨_, cells_setCell (cells_setCell (cells_setCell (cells_setCell h1))), fun j hj r hr => ?_⟩
  by_cases e : j = i
  · subst e
    simp only [if_true]
    have : r = 0 ∨ r = 1 ∨ r = 2 ∨ r = 3 := by omega
    rcases this with rfl | rfl | rfl | rfl
    · rw [Array.getElem?_setIfInBounds_ne (by omega), Array.getElem?_setIfInBounds_ne (by omega), Array.getElem?_setIfInBounds_ne (by omega), Nat.add_zero, Array.getElem?_setIfInBounds_self_of_lt (by omega)]
      rfl
    · rw [Array.getElem?_setIfInBounds_ne (by omega), Array.getElem?_setIfInBounds_ne (by omega), Array.getElem?_setIfInBounds_self_of_lt (by simp; omega)]
      rfl
    · rw [Array.getElem?_setIfInBounds_ne (by omega), Array.getElem?_setIfInBounds_self_of_lt (by simp; omega)]
      rfl
    · rw [Array.getElem?_setIfInBounds_self_of_lt (by simp; omega)]
      rfl
  · simp only [if_neg e]
    rw [Array.getElem?_setIfInBounds_ne (by omega), Array.getElem?_setIfInBounds_ne (by omega), Array.getElem?_setIfInBounds_ne (by omega), Array.getElem?_setIfInBounds_ne (by omega)]
    exact h2 j hj r hr

/-- A row of fresh types. -/
theorem rowC_kids {w : World} {g K lo n : Nat} {f : Nat → Cells} {ks : List Ty} (h : RowC w g K f) (hlo : lo ≤ g) (hk : ks.length = K) (ht : ∀ i (h : i < ks.length), TyF w lo n (f i).val ks[i]) : KidsF w lo n (some ⟨g, 0, none⟩) ks := by
  refine .inr ⟨g, 0, rfl, hlo, ?_, fun i hi => ?_⟩
  · obtain ⟨cur, h1, _⟩ := h
    exact ⟨_, _, h1⟩
  · have hc : ∀ r, r < 4 → w.cell? ⟨g, 0 + i * 4 + r, none⟩ = (f i).list[r]? := fun r hr => by
      rw [show 0 + i * 4 + r = i * 4 + r by omega]
      exact rowC_cell h (by omega) hr
    exact ⟨_, _, _, _, hc 0 (by omega), hc 1 (by omega), hc 2 (by omega), hc 3 (by omega), ht i hi⟩
end Go.Proofs.YtmpcjcjacpjilaaDoor
