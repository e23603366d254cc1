/- The reference's Collect. -/
import Derived.Test.YtcpmdbdppdnkkaaHpA
import Derived.Test.YtcpmdbdppdnkkaaHpC
namespace Go.Proofs.Ytcpmdbdppdnkkaa
open Go.RowKit

/-- A row of numbers, in blocks of F. -/
def IntV (F : Nat → Prop) (w : World) (v : Value) (ns : List Int) : Prop :=
  (∃ ao cap, v = .slice ao 0 cap ∧ ns = [] ∧ (ao = none → cap = 0)) ∨ ∃ b o cap, v = .slice (some ⟨b, o, none⟩) ns.length cap ∧ F b ∧ b < w.heap.size ∧ ∀ i (h : i < ns.length), w.cell? ⟨b, o + i, none⟩ = some (.int .i64 ns[i])
section
variable {F F' S : Nat → Prop} {w w' : World} {v : Value} {ns : List Int}
theorem IntV.ch (h : IntV F w v ns) (hc : Ch S w w') (hs : ∀ b, F b → b < w.heap.size → ¬ S b) : IntV F w' v ns := by
  rcases h with h | ⟨b, o, cap, e, hf, hl, h⟩
  · exact .inl h
  · exact .inr ⟨b, o, cap, e, hf, Nat.lt_of_lt_of_le hl hc.size, fun i hi => hc.cell (h i hi) (hs b hf hl)⟩
theorem IntV.mono (h : IntV F w v ns) (hf : ∀ b, b < w.heap.size → F b → F' b) : IntV F' w v ns := by
  rcases h with h | ⟨b, o, cap, e, hb, hl, h⟩
  · exact .inl h
  · exact .inr ⟨b, o, cap, e, hf b hl hb, hl, h⟩
theorem IntV.form (h : IntV F w v ns) : ∃ ao cap, v = .slice ao ns.length cap ∧ ∀ i (hi : i < ns.length), ∃ b o, ao = some ⟨b, o, none⟩ ∧ b < w.heap.size ∧ F b ∧ w.cell? ⟨b, o + i, none⟩ = some (.int .i64 ns[i]) := by
  rcases h with ⟨ao, cap, rfl, rfl, h⟩ | ⟨b, o, cap, rfl, hf, hl, h⟩
  · exact ⟨ao, cap, rfl, fun i hi => absurd hi (Nat.not_lt_zero _)⟩
  · exact ⟨_, cap, rfl, fun i hi => ⟨b, o, rfl, hl, hf, h i hi⟩⟩
theorem intV_own {B : Nat} (h : w.ownsRow B 3 1 v ns.length (ns.map (Value.int .i64))) (hf : ∀ q, v.ownBlock = some q → F q) : IntV F w v ns := by
  have hh := h
  rcases h.2 with ⟨rfl, h0⟩ | ⟨g, cap, cur, rfl, hg, hb, _⟩
  · exact .inl ⟨none, 0, rfl, List.length_eq_zero_iff.1 h0, fun _ => rfl⟩
  · refine .inr ⟨g, 0, cap, rfl, hf g rfl, lt_of_block hb, fun i hi => ?_⟩
    rw [Nat.zero_add, hh.cellAt i (by omega), List.getElem?_map, List.getElem?_eq_getElem hi]
    rfl
end
/-- Block b is a row of bools. -/
def BitV (w : World) (b : Nat) (m : List Bool) : Prop := ∃ cur, w.heap[b]? = some (.cells cur 4 (0, 0)) ∧ ∀ k (_ : k < m.length), cur[k]? = some (.bool m[k])
section
variable {w w' : World} {b : Nat} {m : List Bool} {S : Nat → Prop}
theorem BitV.ch (h : BitV w b m) (hc : Ch S w w') (hs : ¬ S b) : BitV w' b m := by
  obtain ⟨cur, h1, h2⟩ := h
  exact ⟨cur, hc.obj h1 hs, h2⟩
theorem BitV.lt (h : BitV w b m) : b < w.heap.size := by obtain ⟨cur, h1, _⟩ := h; exact lt_of_block h1
theorem BitV.at (h : BitV w b m) {k : Nat} (hk : k < m.length) : w.cell? ⟨b, k, none⟩ = some (.bool (m.getD k false)) ∧ w.frozen? ⟨b, k, none⟩ = false := by
  obtain ⟨cur, h1, h2⟩ := h
  refine ⟨?_, by simp [World.frozen?, h1]⟩
  rw [cell_of_row _ _ k _ _ _ h1, h2 k hk, List.getD_eq_getElem?_getD, List.getElem?_eq_getElem hk]
  rfl
theorem BitV.put (h : BitV w b m) {k : Nat} (hk : k < m.length) : BitV (w.setCell ⟨b, k, none⟩ (.bool true)) b (m.set k true) := by
  obtain ⟨cur, h1, h2⟩ := h
  have hc := (Array.getElem?_eq_some_iff.1 (h2 k hk)).1
  refine ⟨_, cells_setCell h1, fun i hi => ?_⟩
  rw [List.length_set] at hi
  rw [Array.getElem?_setIfInBounds, List.getElem_set]
  by_cases e : k = i
  · subst e
    rw [if_pos rfl, if_pos hc, if_pos rfl]
  · rw [if_neg e, if_neg e]
    exact h2 i hi
end
theorem world_gone {B r j : Nat} {F : Nat → Prop} {cells : Int} {L : Wd} {w : World} (h : WorldT B F w r cells L) (hj : j < L.length) : ∃ q cap, w.cell? ⟨r, 1, none⟩ = some (.slice (some ⟨q, 0, none⟩) L.length cap) ∧ F q ∧ q ≠ r ∧
    WorldT B F (w.setCell ⟨q, j * 2 + 1, none⟩ (.bool true)) r cells (L.set j ((L[j]).1, true)) := by
  obtain ⟨v, xs, h1, h2, h3, h4, h5, h6⟩ := h
  have hh := h2
  rcases h2.2 with ⟨e, h0⟩ | ⟨q, cap, cur, rfl, hq, hb, hc1, hc2, hc3, hc4⟩
  · omega
  · obtain ⟨f1, f2⟩ := h5 q rfl
    have hxl : xs.length = L.length * 2 := h2.1
    refine ⟨q, cap, (box2 h1).1.2, f1, f2, .slice (some ⟨q, 0, none⟩) L.length cap, xs.set (j * 2 + 1) (.bool true), ?_, ⟨?_, .inr ⟨q, cap, cur.setIfInBounds (j * 2 + 1) (.bool true), ?_, hq, cells_setCell hb, ?_, hc2, ?_, ?_⟩⟩, ?_, h4, h5, ?_⟩
    · exact (Below.heap_setCell _ _ _ _ (fun e => f2 e.symm)).trans h1
    · rw [List.length_set, List.length_set]; exact hxl
    · rw [List.length_set]
    · rw [List.length_set]; exact hc1
    · rw [Array.size_setIfInBounds]; exact hc3
    · rw [List.length_set, Array.toList_setIfInBounds, List.take_set, hc4]
    · intro i hi
      rw [List.length_set] at hi
      obtain ⟨u, hu, hg, hv⟩ := h3 i hi
      have hch : Ch (fun b => b = q) w (w.setCell ⟨q, j * 2 + 1, none⟩ (.bool true)) := (Ch.refl (fun b => b = q) w).set (fun _ => rfl) _ _
      refine ⟨u, by rw [List.getElem?_set_ne (by omega)]; exact hu, ?_, ?_⟩
      · by_cases e : j = i
        · subst e
          rw [List.getElem?_set_self (by omega), List.getElem_set_self]
        · rw [List.getElem?_set_ne (by omega), List.getElem_set_ne e]
          exact hg
      · have e2 : ((L.set j ((L[j]).1, true))[i]'(by rw [List.length_set]; exact hi)).1 = L[i].1 := by
          rw [List.getElem_set]
          split
          · rename_i e; subst e; rfl
          · rfl
        rw [e2]
        exact hv.ch hch fun b hb2 _ e => hb2.2.2 (by rw [e]; rfl)
    · intro b hb
      rw [size_set]
      exact h6 b hb
theorem getD_at {α : Type} {l : List α} {j : Nat} (h : j < l.length) (d : α) : l.getD j d = l[j] := by rw [List.getD_eq_getElem?_getD, List.getElem?_eq_getElem h, Option.getD_some]
/-- What is let go. -/
def sweepTo (L : Wd) (m : List Bool) : Nat → Wd
  | 0 => L
  | j + 1 => if (!m.getD j false && !(L.getD j ([], true)).2) = true then (sweepTo L m j).set j ((L.getD j ([], true)).1, true) else sweepTo L m j
def freedTo (L : Wd) (m : List Bool) : Nat → Nat
  | 0 => 0
  | j + 1 => if (!m.getD j false && !(L.getD j ([], true)).2) = true then freedTo L m j + (L.getD j ([], true)).1.length + 1 else freedTo L m j
section
variable {L : Wd} {m : List Bool}
theorem sweep_len : ∀ j, (sweepTo L m j).length = L.length
  | 0 => rfl
  | j + 1 => by
    unfold sweepTo
    split
    · rw [List.length_set, sweep_len j]
    · exact sweep_len j
theorem sweep_get : ∀ (j i : Nat), (sweepTo L m j)[i]? = (L[i]?).map fun o => (o.1, if i < j then o.2 || !m.getD i false else o.2)
  | 0, i => by
    show L[i]? = _
    cases L[i]? <;> rfl
  | j + 1, i => by
    unfold sweepTo
    have ih := sweep_get j i
    by_cases hc : (!m.getD j false && !(L.getD j ([], true)).2) = true
    · rw [if_pos hc, List.getElem?_set]
      by_cases e : j = i
      · subst e
        rw [if_pos rfl]
        by_cases hj : j < L.length
        · rw [if_pos (by rw [sweep_len]; exact hj), List.getElem?_eq_getElem hj, Option.map_some, if_pos (Nat.lt_succ_self j)]
          rw [getD_at hj] at hc ⊢
          rw [Bool.and_eq_true] at hc
          rw [hc.1, Bool.or_true]
        · rw [if_neg (by rw [sweep_len]; exact hj), List.getElem?_eq_none (by omega)]
          rfl
      · rw [if_neg e, ih]
        congr 1
        funext o
        by_cases h1 : i < j
        · rw [if_pos h1, if_pos (by omega)]
        · rw [if_neg h1, if_neg (by omega)]
    · rw [if_neg hc, ih]
      by_cases e : j = i
      · subst e
        by_cases hj : j < L.length
        · rw [List.getElem?_eq_getElem hj, Option.map_some, Option.map_some, if_neg (Nat.lt_irrefl j), if_pos (Nat.lt_succ_self j)]
          rw [getD_at hj] at hc
          cases h1 : L[j].2 with
          | true => simp
          | false =>
            cases h2 : m.getD j false with
            | true => simp
            | false => rw [h1, h2] at hc; exact absurd rfl hc
        · rw [List.getElem?_eq_none (by omega)]
          rfl
      · congr 1
        funext o
        by_cases h1 : i < j
        · rw [if_pos h1, if_pos (by omega)]
        · rw [if_neg h1, if_neg (by omega)]
theorem freed_le : ∀ j, j ≤ L.length → freedTo L m j ≤ usedL (L.take j)
  | 0, _ => Nat.zero_le _
  | j + 1, h => by
    have ih := freed_le j (by omega)
    rw [take_snocW L j (by omega), (used_snoc _ _).1]
    unfold freedTo
    rw [getD_at (show j < L.length by omega)]
    split
    · rename_i hc
      rw [Bool.and_eq_true] at hc
      have : L[j].2 = false := by simpa using hc.2
      rw [this]
      simp
      omega
    · omega
end
end Go.Proofs.Ytcpmdbdppdnkkaa
