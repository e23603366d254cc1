/- What the loops of types.show keep: the texts of the parts in a row. -/
import Derived.Test.YtmpcjcjacpjilaaDoorTySw
import Derived.Deep.OwnRows
import Derived.Lib.Join
namespace Go.Proofs.YtmpcjcjacpjilaaDoor
open Go.RowKit

structure SInv (w wx : World) (bx : Obj) (L : List (List UInt8)) (i : Nat) : Prop where
  bl : Below w.heap.size w wx
  hx : wx.heap[w.heap.size]? = some bx
  rw : ∃ cs : Array Value, wx.heap[w.heap.size + 1]? = some (.cells cs 9) ∧ cs.size = L.length ∧ ∀ k (h : k < L.length), k < i → cs[k]? = some (.string ⟨L[k].toArray⟩)

theorem SInv.grow {w wx wx' : World} {bx : Obj} {L : List (List UInt8)} {i : Nat} (h : SInv w wx bx L i) (hb : Below wx.heap.size wx wx') : SInv w wx' bx L i := by
  obtain ⟨cs, h1, h2, h3⟩ := h.rw
  exact ⟨below_next h.bl hb, (hb.block _ (lt_of_block h.hx)).trans h.hx, cs, (hb.block _ (lt_of_block h1)).trans h1, h2, h3⟩

theorem str_of {s : ByteArray} {l : List UInt8} (h : s.data.toList = l) : s = ⟨l.toArray⟩ := by
  cases s with
  | mk d => simp at h; simp [← h]

theorem SInv.put {w wx : World} {bx : Obj} {L : List (List UInt8)} {i : Nat} (h : SInv w wx bx L i) (hi : i < L.length) {s : ByteArray} (hs : s.data.toList = L[i]) : SInv w (wx.setCell ⟨w.heap.size + 1, i, none⟩ (.string s)) bx L (i + 1) := by
  obtain ⟨cs, h1, h2, h3⟩ := h.rw
  refine ⟨h.bl.setCell (p := ⟨w.heap.size + 1, i, none⟩) (by show w.heap.size ≤ w.heap.size + 1; omega) _, (Below.heap_setCell _ _ _ _ (by show w.heap.size ≠ w.heap.size + 1; omega)).trans h.hx, _, cells_setCell h1, by simpa using h2, fun k hk hki => ?_⟩
  by_cases e : k = i
  · subst e
    rw [str_of hs]
    simp [h2, hi]
  · rw [Array.getElem?_setIfInBounds_ne (Ne.symm e)]
    exact h3 k hk (by omega)

theorem SInv.facts {w wx : World} {bx : Obj} {L : List (List UInt8)} {i : Nat} (h : SInv w wx bx L i) {j : Nat} (hj : j < L.length) : (∃ v, wx.cell? ⟨w.heap.size + 1, j, none⟩ = some v) ∧ wx.frozen? ⟨w.heap.size + 1, j, none⟩ = false ∧ w.heap.size + 1 < wx.heap.size := by
  obtain ⟨cs, h1, h2, _⟩ := h.rw
  refine ⟨?_, by simp [World.frozen?, h1], lt_of_block h1⟩
  rw [cell_of_row wx (w.heap.size + 1) _ _ _ _ h1]
  exact ⟨_, Array.getElem?_eq_getElem (by omega)⟩

/-- .. and at the end. -/
theorem SInv.done {w wx : World} {bx : Obj} {L : List (List UInt8)} (h : SInv w wx bx L L.length) : ∀ (j : Nat) x, (L.map fun l => (⟨l.toArray⟩ : ByteArray))[j]? = some x → wx.cell? ⟨w.heap.size + 1, 0 + j, none⟩ = some (.string x) := by
  intro j x hj
  obtain ⟨cs, h1, h2, h3⟩ := h.rw
  rw [List.getElem?_map] at hj
  obtain ⟨l, e1, rfl⟩ := Option.map_eq_some_iff.1 hj
  obtain ⟨hjl, rfl⟩ := List.getElem?_eq_some_iff.1 e1
  rw [Nat.zero_add, cell_of_row wx (w.heap.size + 1) _ _ _ _ h1]
  exact h3 j hjl hjl

theorem join_is (sep : List UInt8) : ∀ L : List (List UInt8), Lib.join L sep = joinV sep L
  | [] => rfl
  | [s] => by rw [Lib.join_one]; rfl
  | s :: t :: r => by
    rw [Lib.join_cons]
    have h := join_is sep (t :: r)
    rw [Lib.join_cons] at h
    show _ = s ++ sep ++ joinV sep (t :: r)
    rw [← h]
    simp [Lib.joinTail]

theorem join_len (sep : List UInt8) : ∀ (L : List (List UInt8)), ∀ l ∈ L, l.length ≤ (joinV sep L).length
  | [], _, h => by cases h
  | [s], l, h => by
    rw [List.mem_singleton.1 h]
    exact Nat.le_refl _
  | s :: t :: r, l, h => by
    show _ ≤ (s ++ sep ++ joinV sep (t :: r)).length
    rcases List.mem_cons.1 h with rfl | h
    · simp
    · have := join_len sep (t :: r) l h
      simp
      omega

/-- strings.Join of such a row. -/
theorem join_c (sep : ByteArray) (L : List (List UInt8)) (B : Nat) (w : World) (hc : ∀ (j : Nat) x, (L.map fun l => (⟨l.toArray⟩ : ByteArray))[j]? = some x → w.cell? ⟨B, 0 + j, none⟩ = some (.string x)) (hB : B < w.heap.size) (hl : (joinV sep.data.toList L).length ≤ 1000000) (hn : L.length ≤ 1000000) :
    Calls Tryd.prog 73 #[.slice (some ⟨B, 0, none⟩) L.length L.length, .string sep] w fun e w' => (∃ s : ByteArray, e = .returned (.string s) ∧ s.data.toList = joinV sep.data.toList L ∧ s.size ≤ 1000000) ∧ Below w.heap.size w w' := by
  have hm : (L.map fun l => (⟨l.toArray⟩ : ByteArray)).map (·.data.toList) = L := by
    rw [List.map_map]
    exact List.map_id _
  have := Tryd.strings_Join B 0 L.length (L.map fun l => (⟨l.toArray⟩ : ByteArray)) sep w hc hB (by simp; omega) (by simp) (by rw [hm, join_is]; omega)
  rw [List.length_map, hm, join_is] at this
  refine this.mono ?_
  rintro e w' ⟨rfl, hb⟩
  exact ⟨⟨_, rfl, rfl, by show List.length _ ≤ _; exact hl⟩, hb⟩
end Go.Proofs.YtmpcjcjacpjilaaDoor
