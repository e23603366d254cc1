/- Part. -/
import Derived.Test.YtlhmofphpfdjlaaGreatDoorPart36
set_option maxRecDepth 100000
set_option maxHeartbeats 4000000
/- A function's declaration: its fifteen cells, and what the grammar says. -/
namespace Go.Proofs.YtlhmofphpfdjlaaGreatDoor
open Go.Proofs.Tryz
open Go.RowKit
abbrev put15 (w : World) (b : Nat) (x0 x1 x2 x3 x4 x5 x6 x7 x8 x9 x10 x11 x12 x13 x14 : Value) : World := (((((((((((((((w.setCell ⟨b, 0, none⟩ x0).setCell ⟨b, 1, none⟩ x1).setCell ⟨b, 2, none⟩ x2).setCell ⟨b, 3, none⟩ x3).setCell ⟨b, 4, none⟩ x4).setCell ⟨b, 5, none⟩ x5).setCell ⟨b, 6, none⟩ x6).setCell ⟨b, 7, none⟩ x7).setCell ⟨b, 8, none⟩ x8).setCell ⟨b, 9, none⟩ x9).setCell ⟨b, 10, none⟩ x10).setCell ⟨b, 11, none⟩ x11).setCell ⟨b, 12, none⟩ x12).setCell ⟨b, 13, none⟩ x13).setCell ⟨b, 14, none⟩ x14)
section
variable {w w' : World} {b pb lo : Nat} {y0 y1 y2 y3 y4 y5 y6 y7 y8 y9 y10 y11 y12 y13 y14 : Value} {t : TypeId}
theorem put15_heap (h : w.heap[b]? = some (.cells #[y0, y1, y2, y3, y4, y5, y6, y7, y8, y9, y10, y11, y12, y13, y14] t)) (x0 x1 x2 x3 x4 x5 x6 x7 x8 x9 x10 x11 x12 x13 x14 : Value) : (put15 w b x0 x1 x2 x3 x4 x5 x6 x7 x8 x9 x10 x11 x12 x13 x14).heap[b]? = some (.cells #[x0, x1, x2, x3, x4, x5, x6, x7, x8, x9, x10, x11, x12, x13, x14] t) := by
  have h0 := cells_setCell (o := 0) (u := x0) h
  simp only [List.setIfInBounds_toArray, List.set_cons_zero] at h0
  have h1 := cells_setCell (o := 1) (u := x1) h0
  simp only [List.setIfInBounds_toArray, List.set_cons_zero, List.set_cons_succ] at h1
  have h2 := cells_setCell (o := 2) (u := x2) h1
  simp only [List.setIfInBounds_toArray, List.set_cons_zero, List.set_cons_succ] at h2
  have h3 := cells_setCell (o := 3) (u := x3) h2
  simp only [List.setIfInBounds_toArray, List.set_cons_zero, List.set_cons_succ] at h3
  have h4 := cells_setCell (o := 4) (u := x4) h3
  simp only [List.setIfInBounds_toArray, List.set_cons_zero, List.set_cons_succ] at h4
  have h5 := cells_setCell (o := 5) (u := x5) h4
  simp only [List.setIfInBounds_toArray, List.set_cons_zero, List.set_cons_succ] at h5
  have h6 := cells_setCell (o := 6) (u := x6) h5
  simp only [List.setIfInBounds_toArray, List.set_cons_zero, List.set_cons_succ] at h6
  have h7 := cells_setCell (o := 7) (u := x7) h6
  simp only [List.setIfInBounds_toArray, List.set_cons_zero, List.set_cons_succ] at h7
  have h8 := cells_setCell (o := 8) (u := x8) h7
  simp only [List.setIfInBounds_toArray, List.set_cons_zero, List.set_cons_succ] at h8
  have h9 := cells_setCell (o := 9) (u := x9) h8
  simp only [List.setIfInBounds_toArray, List.set_cons_zero, List.set_cons_succ] at h9
  have h10 := cells_setCell (o := 10) (u := x10) h9
  simp only [List.setIfInBounds_toArray, List.set_cons_zero, List.set_cons_succ] at h10
  have h11 := cells_setCell (o := 11) (u := x11) h10
  simp only [List.setIfInBounds_toArray, List.set_cons_zero, List.set_cons_succ] at h11
  have h12 := cells_setCell (o := 12) (u := x12) h11
  simp only [List.setIfInBounds_toArray, List.set_cons_zero, List.set_cons_succ] at h12
  have h13 := cells_setCell (o := 13) (u := x13) h12
  simp only [List.setIfInBounds_toArray, List.set_cons_zero, List.set_cons_succ] at h13
  have h14 := cells_setCell (o := 14) (u := x14) h13
  simp only [List.setIfInBounds_toArray, List.set_cons_zero, List.set_cons_succ] at h14
  exact h14
theorem put15_size (x0 x1 x2 x3 x4 x5 x6 x7 x8 x9 x10 x11 x12 x13 x14 : Value) : (put15 w b x0 x1 x2 x3 x4 x5 x6 x7 x8 x9 x10 x11 x12 x13 x14).heap.size = w.heap.size := by simp only [size_set]
theorem put15_other {i : Nat} (hi : i ≠ b) (x0 x1 x2 x3 x4 x5 x6 x7 x8 x9 x10 x11 x12 x13 x14 : Value) : (put15 w b x0 x1 x2 x3 x4 x5 x6 x7 x8 x9 x10 x11 x12 x13 x14).heap[i]? = w.heap[i]? := by
  unfold put15
  rw [Below.heap_setCell _ _ _ _ hi, Below.heap_setCell _ _ _ _ hi, Below.heap_setCell _ _ _ _ hi, Below.heap_setCell _ _ _ _ hi, Below.heap_setCell _ _ _ _ hi, Below.heap_setCell _ _ _ _ hi, Below.heap_setCell _ _ _ _ hi, Below.heap_setCell _ _ _ _ hi, Below.heap_setCell _ _ _ _ hi, Below.heap_setCell _ _ _ _ hi, Below.heap_setCell _ _ _ _ hi, Below.heap_setCell _ _ _ _ hi, Below.heap_setCell _ _ _ _ hi, Below.heap_setCell _ _ _ _ hi, Below.heap_setCell _ _ _ _ hi]
theorem stay_put15 (h : Stay pb w w') (hp : pb < w.heap.size) (hb : w.heap.size <= b) (x0 x1 x2 x3 x4 x5 x6 x7 x8 x9 x10 x11 x12 x13 x14 : Value) : Stay pb w (put15 w' b x0 x1 x2 x3 x4 x5 x6 x7 x8 x9 x10 x11 x12 x13 x14) := (((((((((((((((h.own hp hb 0 _).own hp hb 1 _).own hp hb 2 _).own hp hb 3 _).own hp hb 4 _).own hp hb 5 _).own hp hb 6 _).own hp hb 7 _).own hp hb 8 _).own hp hb 9 _).own hp hb 10 _).own hp hb 11 _).own hp hb 12 _).own hp hb 13 _).own hp hb 14 _)
theorem ps_put15 {tb cap a d : Nat} {ts : List Tok} (h : Ps w pb tb cap ts a d) (hb : pb < b) (x0 x1 x2 x3 x4 x5 x6 x7 x8 x9 x10 x11 x12 x13 x14 : Value) : Ps (put15 w b x0 x1 x2 x3 x4 x5 x6 x7 x8 x9 x10 x11 x12 x13 x14) pb tb cap ts a d := (((((((((((((((h.other hb 0 _).other hb 1 _).other hb 2 _).other hb 3 _).other hb 4 _).other hb 5 _).other hb 6 _).other hb 7 _).other hb 8 _).other hb 9 _).other hb 10 _).other hb 11 _).other hb 12 _).other hb 13 _).other hb 14 _)
theorem below_put15 {B : Nat} {u : World} (h : Below B u w) (hb : B <= b) (x0 x1 x2 x3 x4 x5 x6 x7 x8 x9 x10 x11 x12 x13 x14 : Value) : Below B u (put15 w b x0 x1 x2 x3 x4 x5 x6 x7 x8 x9 x10 x11 x12 x13 x14) := (((((((((((((((h.setCell hb _).setCell hb _).setCell hb _).setCell hb _).setCell hb _).setCell hb _).setCell hb _).setCell hb _).setCell hb _).setCell hb _).setCell hb _).setCell hb _).setCell hb _).setCell hb _).setCell hb _)
theorem box15 (h : w.heap[b]? = some (.cells #[y0, y1, y2, y3, y4, y5, y6, y7, y8, y9, y10, y11, y12, y13, y14] t)) : (w.cell? ⟨b, 0, none⟩ = some y0 /\ w.cell? ⟨b, 1, none⟩ = some y1 /\ w.cell? ⟨b, 2, none⟩ = some y2 /\ w.cell? ⟨b, 3, none⟩ = some y3 /\ w.cell? ⟨b, 4, none⟩ = some y4 /\ w.cell? ⟨b, 5, none⟩ = some y5 /\ w.cell? ⟨b, 6, none⟩ = some y6 /\ w.cell? ⟨b, 7, none⟩ = some y7 /\ w.cell? ⟨b, 8, none⟩ = some y8 /\ w.cell? ⟨b, 9, none⟩ = some y9 /\ w.cell? ⟨b, 10, none⟩ = some y10 /\ w.cell? ⟨b, 11, none⟩ = some y11 /\ w.cell? ⟨b, 12, none⟩ = some y12 /\ w.cell? ⟨b, 13, none⟩ = some y13 /\ w.cell? ⟨b, 14, none⟩ = some y14) /\ (w.frozen? ⟨b, 0, none⟩ = false /\ w.frozen? ⟨b, 1, none⟩ = false /\ w.frozen? ⟨b, 2, none⟩ = false /\ w.frozen? ⟨b, 3, none⟩ = false /\ w.frozen? ⟨b, 4, none⟩ = false /\ w.frozen? ⟨b, 5, none⟩ = false /\ w.frozen? ⟨b, 6, none⟩ = false /\ w.frozen? ⟨b, 7, none⟩ = false /\ w.frozen? ⟨b, 8, none⟩ = false /\ w.frozen? ⟨b, 9, none⟩ = false /\ w.frozen? ⟨b, 10, none⟩ = false /\ w.frozen? ⟨b, 11, none⟩ = false /\ w.frozen? ⟨b, 12, none⟩ = false /\ w.frozen? ⟨b, 13, none⟩ = false /\ w.frozen? ⟨b, 14, none⟩ = false) /\ b < w.heap.size := by
  refine ⟨⟨?_, ?_, ?_, ?_, ?_, ?_, ?_, ?_, ?_, ?_, ?_, ?_, ?_, ?_, ?_⟩, ⟨?_, ?_, ?_, ?_, ?_, ?_, ?_, ?_, ?_, ?_, ?_, ?_, ?_, ?_, ?_⟩, lt_of_block h⟩
  all_goals first | (rw [cell_of_row _ _ _ _ _ _ h]; rfl) | simp [World.frozen?, h]
end
/-- Variables in a row, as they are left. -/
def VarsF (lo : Nat) (w : World) (a : Option Addr) (vs : List (List UInt8 × Ty)) : Prop := vs = [] ∨ ∃ g, a = some ⟨g, 0, none⟩ /\ lo <= g /\ CleanB w g /\
    ∀ i (hi : i < vs.length), ∃ c : List Value, c.length = 5 /\ (∀ j, j < 5 -> w.cell? ⟨g, i * 5 + j, none⟩ = c[j]?) /\ VarC lo w c vs[i]
theorem varsF_lower {lo lo' : Nat} {w : World} {a : Option Addr} {vs : List (List UInt8 × Ty)} (h : VarsF lo w a vs) (hl : lo' <= lo) : VarsF lo' w a vs := by
  rcases h with h | ⟨g, e, hg, hc, hr⟩
  · exact .inl h
  · refine .inr ⟨g, e, Nat.le_trans hl hg, hc, fun i hi => ?_⟩
    obtain ⟨c, h1, h2, h3⟩ := hr i hi
    exact ⟨c, h1, h2, varC_k.lower h3 hl⟩
theorem varsF_keep {lo : Nat} {w w' : World} {a : Option Addr} {vs : List (List UInt8 × Ty)} (h : VarsF lo w a vs) (hs : w.heap.size <= w'.heap.size) (hk : ∀ b, lo <= b -> b < w.heap.size -> w'.heap[b]? = w.heap[b]?) : VarsF lo w' a vs := by
  rcases h with h | ⟨g, e, hg, hc, hr⟩
  · exact .inl h
  · obtain ⟨cs, ty, hh⟩ := hc
    have hgk := hk g hg (lt_of_block hh)
    refine .inr ⟨g, e, hg, ⟨cs, ty, hgk.trans hh⟩, fun i hi => ?_⟩
    obtain ⟨c, h1, h2, h3⟩ := hr i hi
    refine ⟨c, h1, fun j hj => ?_, varC_k.keep h3 hs hk⟩
    have := h2 j hj
    unfold World.cell? at this ⊢
    simp only at this ⊢
    rw [hgk]
    exact this
theorem varsE_f {lo : Nat} {w : World} {v : Value} {vs : List (List UInt8 × Ty)} (h : VarsE lo w v vs) : ∃ a cap, v = .slice a vs.length cap /\ vs.length <= cap /\ VarsF lo w a vs := by
  obtain ⟨cs, h⟩ := h
  obtain ⟨a, cap, e, hc, hr⟩ := h.form varC_k
  exact ⟨a, cap, e, hc, hr⟩
theorem behind_no {ts : List Tok} {K : Nat -> Pr Ty} {s : List UInt8} {a b : Nat} {t : Ty} (h : behindA ts K s a = .inl ((t, false), b)) : t = mkT 0 [] [] [] := by
  unfold behindA at h
  split at h
  · cases hk : K (a + 1) with
    | inr e => rw [hk] at h; cases h
    | inl p => rw [hk] at h; injection h with h; injection h with h _; injection h with _ h; cases h
  · injection h with h
    injection h with h _
    injection h with h _
    exact h.symm
theorem declA_eq (ts : List Tok) (a : Nat) : declA ts a =
    (wantA ts (if seesA ts a [101, 120, 112, 111, 114, 116] then a + 1 else a) [102, 110]).go fun _ b => (nameA ts b).go fun s b => (varsA ts (kindA ts ts.length 101 0) ts.length b).go fun vs b => (paramA ts (kindA ts ts.length 101 0) b).go fun h b => (behindA ts (kindA ts ts.length 101 0) [58] b).go fun y b => (wantA ts b [61]).go fun _ b => (deepA ts ts.length 101 false 0 b).go fun x b => (wantA ts b [59]).go fun _ b =>
      .inl (mkD s (seesA ts a [101, 120, 112, 111, 114, 116]) vs h.1 [h.2, y.1] x (lineA ts (if seesA ts a [101, 120, 112, 111, 114, 116] then a + 1 else a)) (colA ts (if seesA ts a [101, 120, 112, 111, 114, 116] then a + 1 else a)), b) := by
  unfold declA
  simp only
  congr 1
  funext _ b
  congr 1
  funext s b
  congr 1
  funext vs b
  rw [<- head_eq]
  congr 1
  funext h b
  cases hb : behindA ts (kindA ts ts.length 101 0) [58] b with
  | inr e => rfl
  | inl p =>
    obtain ⟨⟨y, q⟩, c⟩ := p
    cases q with
    | false => rw [behind_no hb]; rfl
    | true => rfl
end Go.Proofs.YtlhmofphpfdjlaaGreatDoor
