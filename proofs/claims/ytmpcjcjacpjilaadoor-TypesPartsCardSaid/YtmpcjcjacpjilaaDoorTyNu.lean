/- types.normUnion by a contract. -/
import Derived.Test.YtmpcjcjacpjilaaDoorTyNuV
import Derived.Test.YtmpcjcjacpjilaaDoorTySame2
import Derived.Deep.DeepCutAuto
namespace Go.Proofs.YtmpcjcjacpjilaaDoor
open Go.RowKit

abbrev zO : Obj := .cells #[.int .i64 0, .string ⟨#[]⟩, .slice none 0 0, .slice none 0 0] 25

/-- What the loop of normUnion keeps: the box, the result's row, the members by their tags, and which there are. -/
structure UInv (w wr : World) (n : Nat) (box : Obj) (L : List Ty) : Prop where
  bl : Below w.heap.size w wr
  bx : wr.heap[w.heap.size]? = some box
  rs : wr.heap[w.heap.size + 1]? = some zO
  mm : ∃ cs : Array Value, wr.heap[w.heap.size + 2]? = some (.cells cs 91) ∧ cs.size = 24 ∧ ∀ t : Nat, t < 6 → ∃ c : Cells, (∀ j : Nat, j < 4 → cs[t * 4 + j]? = c.list[j]?) ∧ ∀ E, firstK L ((t : Int) + 1) = some E → TyF wr (w.heap.size + 4) n c.val E
  fd : ∃ fs : Array Value, wr.heap[w.heap.size + 3]? = some (.cells fs 92) ∧ fs.size = 6 ∧ ∀ t : Nat, t < 6 → fs[t]? = some (.bool (firstK L ((t : Int) + 1)).isSome)
  gd : ∀ x ∈ L, 1 ≤ kindT x ∧ kindT x ≤ 6 ∧ firstK L (kindT x) = some x

section
variable {w wr wr' : World} {n : Nat} {box : Obj} {L : List Ty}

theorem UInv.sz (h : UInv w wr n box L) : w.heap.size + 4 ≤ wr.heap.size := by
  obtain ⟨fs, hf, _⟩ := h.fd
  have := lt_of_block hf
  omega

theorem UInv.grow (h : UInv w wr n box L) (hb : Below wr.heap.size wr wr') : UInv w wr' n box L where
  bl := below_next h.bl hb
  bx := (hb.block _ (lt_of_block h.bx)).trans h.bx
  rs := (hb.block _ (lt_of_block h.rs)).trans h.rs
  mm := by
    obtain ⟨cs, h1, h2, h3⟩ := h.mm
    refine ⟨cs, (hb.block _ (lt_of_block h1)).trans h1, h2, fun t ht => ?_⟩
    obtain ⟨c, h4, h5⟩ := h3 t ht
    exact ⟨c, h4, fun E hE => tyF_below (h5 E hE) hb⟩
  fd := by
    obtain ⟨fs, h1, h2, h3⟩ := h.fd
    exact ⟨fs, (hb.block _ (lt_of_block h1)).trans h1, h2, h3⟩
  gd := h.gd

/-- Four cells at a place, and a mark. -/
def putM (wr : World) (M F t : Nat) (c : Cells) : World :=
  ((((wr.setCell ⟨M, t * 4, none⟩ (.int .i64 c.1)).setCell ⟨M, t * 4 + 1, none⟩ (.string c.2.1)).setCell ⟨M, t * 4 + 2, none⟩ (.slice c.2.2.1 c.2.2.2.1 c.2.2.2.2.1)).setCell ⟨M, t * 4 + 3, none⟩ (.slice c.2.2.2.2.2.1 c.2.2.2.2.2.2.1 c.2.2.2.2.2.2.2)).setCell ⟨F, t, none⟩ (.bool true)

theorem putM_other (wr : World) (M F t : Nat) (c : Cells) (i : Nat) (h1 : i ≠ M) (h2 : i ≠ F) : (putM wr M F t c).heap[i]? = wr.heap[i]? := by
  unfold putM
  rw [Below.heap_setCell _ _ _ _ h2, Below.heap_setCell _ _ _ _ h1, Below.heap_setCell _ _ _ _ h1, Below.heap_setCell _ _ _ _ h1, Below.heap_setCell _ _ _ _ h1]

theorem putM_size (wr : World) (M F t : Nat) (c : Cells) : (putM wr M F t c).heap.size = wr.heap.size := by
  unfold putM
  simp [World.setCell]

theorem UInv.put (h : UInv w wr n box L) {t : Nat} (ht : t < 6) {c : Cells} {x : Ty} (hk : kindT x = (t : Int) + 1) (hF : TyF wr (w.heap.size + 4) n c.val x) (hf : firstK L ((t : Int) + 1) = none ∨ firstK L ((t : Int) + 1) = some x) :
    UInv w (putM wr (w.heap.size + 2) (w.heap.size + 3) t c) n box (L ++ [x]) := by
  have hsz := h.sz
  have hfx : firstK (L ++ [x]) ((t : Int) + 1) = some x := by
    rw [first_snoc]
    rcases hf with hf | hf <;> rw [hf]
    simp [hk]
  have hfo : ∀ k, k ≠ (t : Int) + 1 → firstK (L ++ [x]) k = firstK L k := fun k hne => by
    rw [first_snoc]
    cases firstK L k with
    | some y => rfl
    | none => simp [hk]; omega
  have hkeep : ∀ b, w.heap.size + 4 ≤ b → b < wr.heap.size → (putM wr (w.heap.size + 2) (w.heap.size + 3) t c).heap[b]? = wr.heap[b]? := fun b hb _ => putM_other _ _ _ _ _ _ (by omega) (by omega)
  refine ⟨?_, ?_, ?_, ?_, ?_, ?_⟩
  · unfold putM
    exact ((((h.bl.setCell (by simp) _).setCell (by simp) _).setCell (by simp) _).setCell (by simp) _).setCell (by simp) _
  · rw [putM_other _ _ _ _ _ _ (by omega) (by omega)]
    exact h.bx
  · rw [putM_other _ _ _ _ _ _ (by omega) (by omega)]
    exact h.rs
  · obtain ⟨cs, h1, h2, h3⟩ := h.mm
    refine ⟨(((cs.setIfInBounds (t * 4) (.int .i64 c.1)).setIfInBounds (t * 4 + 1) (.string c.2.1)).setIfInBounds (t * 4 + 2) (.slice c.2.2.1 c.2.2.2.1 c.2.2.2.2.1)).setIfInBounds (t * 4 + 3) (.slice c.2.2.2.2.2.1 c.2.2.2.2.2.2.1 c.2.2.2.2.2.2.2), ?_, by simpa using h2, fun s hs => ?_⟩
    · unfold putM
      rw [Below.heap_setCell _ _ _ _ (by simp)]
      exact cells_setCell (cells_setCell (cells_setCell (cells_setCell h1)))
    · by_cases hst : s = t
      · subst hst
        refine ⟨c, fun j hj => ?_, fun E hE => by rw [hfx] at hE; obtain rfl := Option.some.inj hE; exact tyF_keep hF (by rw [putM_size]; exact Nat.le_refl _) hkeep⟩
        have : j = 0 ∨ j = 1 ∨ j = 2 ∨ j = 3 := by omega
        rcases this with rfl | rfl | rfl | rfl <;> simp [Array.getElem?_setIfInBounds, Cells.list] <;> omega
      · obtain ⟨c', h4, h5⟩ := h3 s hs
        refine ⟨c', fun j hj => ?_, fun E hE => by rw [hfo _ (by omega)] at hE; exact tyF_keep (h5 E hE) (by rw [putM_size]; exact Nat.le_refl _) hkeep⟩
        rw [← h4 j hj]
        simp only [Array.getElem?_setIfInBounds]
        rw [if_neg (by omega), if_neg (by omega), if_neg (by omega), if_neg (by omega)]
  · obtain ⟨fs, h1, h2, h3⟩ := h.fd
    refine ⟨fs.setIfInBounds t (.bool true), ?_, by simpa using h2, fun s hs => ?_⟩
    · unfold putM
      refine cells_setCell ?_
      rw [Below.heap_setCell _ _ _ _ (by simp), Below.heap_setCell _ _ _ _ (by simp), Below.heap_setCell _ _ _ _ (by simp), Below.heap_setCell _ _ _ _ (by simp)]
      exact h1
    · by_cases hst : s = t
      · subst hst
        rw [hfx, Array.getElem?_setIfInBounds, if_pos rfl, if_pos (by omega)]
        rfl
      · rw [hfo _ (by omega), Array.getElem?_setIfInBounds, if_neg (by omega)]
        exact h3 s hs
  · intro y hy
    rcases List.mem_append.1 hy with hy | hy
    · obtain ⟨g1, g2, g3⟩ := h.gd y hy
      exact ⟨g1, g2, first_prefix g3⟩
    · rw [List.mem_singleton.1 hy, hk]
      exact ⟨by omega, by omega, hfx⟩
end
end Go.Proofs.YtmpcjcjacpjilaaDoor
