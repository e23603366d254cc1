/- Shapes and their names, without a program in sight. -/
import Derived.Test.YtldcfglkcifklaaSmB
namespace Go.Proofs.Ytldcfglkcifklaa

/-- The place of a name among names. -/
def slotV (l : List ByteArray) (x : ByteArray) : Option Nat := l.findIdx? fun y => decide (y = x)
/-- The place of a shape that has just these names. -/
def rowV (T : List (List ByteArray)) (l : List ByteArray) : Option Nat := T.findIdx? fun y => decide (y = l)
def atV (T : List (List ByteArray)) (s : Int) : List ByteArray := T.getD s.toNat []
def outV (T : List (List ByteArray)) (s : Int) : Prop := s < 0 ∨ (T.length : Int) ≤ s
theorem outV_dec (T : List (List ByteArray)) (s : Int) : outV T s ∨ ¬ outV T s := Classical.em _
/-- One name more: the shapes then, the answer, the error. -/
def addV (T : List (List ByteArray)) (s : Int) (x : ByteArray) : List (List ByteArray) × Int × Int :=
  if s < 0 ∨ (T.length : Int) ≤ s then (T, 0, 1) else
  if (slotV (atV T s) x).isSome then (T, s, 0) else
  match rowV T (atV T s ++ [x]) with
  | some i => (T, i, 0)
  | none => (T ++ [atV T s ++ [x]], T.length, 0)
def ofV : List ByteArray → List (List ByteArray) → Int → List (List ByteArray) × Int
  | [], T, s => (T, s)
  | x :: l, T, s => ofV l (addV T s x).1 (addV T s x).2.1
theorem ofV_snoc : ∀ (l : List ByteArray) (x : ByteArray) (T : List (List ByteArray)) (s : Int), ofV (l ++ [x]) T s = ((addV (ofV l T s).1 (ofV l T s).2 x).1, (addV (ofV l T s).1 (ofV l T s).2 x).2.1)
  | [], _, _, _ => rfl
  | y :: l, x, T, s => by
    show ofV (l ++ [x]) _ _ = _
    rw [ofV_snoc l x]
    rfl
theorem take_snocK {α : Type} (l : List α) (j : Nat) (h : j < l.length) : l.take (j + 1) = l.take j ++ [l[j]] := by
  rw [List.take_succ_eq_append_getElem h]

section
variable {l : List ByteArray} {x : ByteArray} {T : List (List ByteArray)} {s : Int}
theorem slotV_at {j : Nat} (hj : j < l.length) (h : l[j] = x) (hn : ∀ i (_ : i < l.length), i < j → l[i] ≠ x) : slotV l x = some j :=
  List.findIdx?_eq_some_iff_getElem.2 ⟨hj, by simpa using h, fun i hi => by simpa using hn i (by omega) hi⟩
theorem slotV_none (hn : ∀ i (_ : i < l.length), l[i] ≠ x) : slotV l x = none :=
  List.findIdx?_eq_none_iff.2 fun y hy => by
    obtain ⟨i, hi, rfl⟩ := List.getElem_of_mem hy
    simpa using hn i hi
theorem slotV_lt {j : Nat} (h : slotV l x = some j) : ∃ hj : j < l.length, l[j] = x := by
  obtain ⟨hj, h, _⟩ := List.findIdx?_eq_some_iff_getElem.1 h
  exact ⟨hj, by simpa using h⟩
theorem slotV_some : (slotV l x).isSome = true ↔ x ∈ l := by
  constructor
  · intro h
    obtain ⟨j, hj⟩ := Option.isSome_iff_exists.1 h
    obtain ⟨hl, e⟩ := slotV_lt hj
    exact e ▸ List.getElem_mem hl
  · intro h
    cases hs : slotV l x with
    | some _ => rfl
    | none =>
      have := List.findIdx?_eq_none_iff.1 hs x h
      simp at this
theorem slotV_no : (slotV l x).isSome = false ↔ x ∉ l := by
  rw [← slotV_some]
  simp
theorem rowV_at {j : Nat} (hj : j < T.length) (h : T[j] = l) (hn : ∀ i (_ : i < T.length), i < j → T[i] ≠ l) : rowV T l = some j :=
  List.findIdx?_eq_some_iff_getElem.2 ⟨hj, by simpa using h, fun i hi => by simpa using hn i (by omega) hi⟩
theorem rowV_none (hn : ∀ i (_ : i < T.length), T[i] ≠ l) : rowV T l = none :=
  List.findIdx?_eq_none_iff.2 fun y hy => by
    obtain ⟨i, hi, rfl⟩ := List.getElem_of_mem hy
    simpa using hn i hi
theorem rowV_lt {j : Nat} (h : rowV T l = some j) : ∃ hj : j < T.length, T[j] = l := by
  obtain ⟨hj, h, _⟩ := List.findIdx?_eq_some_iff_getElem.1 h
  exact ⟨hj, by simpa using h⟩
theorem add_out (h : s < 0 ∨ (T.length : Int) ≤ s) : addV T s x = (T, 0, 1) := by unfold addV; rw [if_pos h]
theorem add_has (h : ¬ (s < 0 ∨ (T.length : Int) ≤ s)) (hs : (slotV (atV T s) x).isSome = true) : addV T s x = (T, s, 0) := by unfold addV; rw [if_neg h, if_pos hs]
theorem add_old (h : ¬ (s < 0 ∨ (T.length : Int) ≤ s)) (hs : (slotV (atV T s) x).isSome = false) {i : Nat} (hr : rowV T (atV T s ++ [x]) = some i) : addV T s x = (T, (i : Int), 0) := by
  unfold addV; rw [if_neg h, if_neg (by rw [hs]; decide), hr]
theorem add_new (h : ¬ (s < 0 ∨ (T.length : Int) ≤ s)) (hs : (slotV (atV T s) x).isSome = false) (hr : rowV T (atV T s ++ [x]) = none) : addV T s x = (T ++ [atV T s ++ [x]], (T.length : Int), 0) := by
  unfold addV; rw [if_neg h, if_neg (by rw [hs]; decide), hr]
theorem atV_nat {k : Nat} (hk : k < T.length) : atV T k = T[k] := by
  unfold atV
  rw [Int.toNat_natCast, List.getD_eq_getElem?_getD, List.getElem?_eq_getElem hk, Option.getD_some]
end
/-- Shapes as they come about: the first has no names; no two are the same; none names twice; none is long. -/
structure GoodT (T : List (List ByteArray)) : Prop where
  pos : 0 < T.length
  zero : T[0]'pos = []
  nd : T.Nodup
  row : ∀ l ∈ T, l.Nodup
  len : ∀ l ∈ T, l.length < T.length
section
variable {l : List ByteArray} {x : ByteArray} {T : List (List ByteArray)} {s : Int}
theorem good_one : GoodT [[]] := ⟨by decide, rfl, by simp, by simp, by simp⟩
theorem good_add (h : GoodT T) : GoodT (addV T s x).1 := by
  by_cases ho : s < 0 ∨ (T.length : Int) ≤ s
  · rw [add_out ho]; exact h
  cases hs : (slotV (atV T s) x).isSome with
  | true => rw [add_has ho hs]; exact h
  | false =>
    cases hr : rowV T (atV T s ++ [x]) with
    | some i => rw [add_old ho hs hr]; exact h
    | none =>
      rw [add_new ho hs hr]
      obtain ⟨k, rfl⟩ := Int.eq_ofNat_of_zero_le (show 0 ≤ s by omega)
      have hk : k < T.length := by omega
      rw [atV_nat hk] at hs hr ⊢
      have hx : x ∉ T[k] := slotV_no.1 hs
      have hm := List.getElem_mem hk
      have hn : T[k] ++ [x] ∉ T := fun hm => by
        have := List.findIdx?_eq_none_iff.1 hr _ hm
        simp at this
      refine ⟨by simp, ?_, ?_, ?_, ?_⟩
      · rw [List.getElem_append_left h.pos]; exact h.zero
      · rw [List.nodup_append]
        exact ⟨h.nd, by simp, fun a ha b hb => by rw [List.mem_singleton] at hb; subst hb; rintro rfl; exact hn ha⟩
      · intro l hl
        rcases List.mem_append.1 hl with hl | hl
        · exact h.row l hl
        · rw [List.mem_singleton] at hl
          subst hl
          rw [List.nodup_append]
          exact ⟨h.row _ hm, by simp, fun a ha b hb => by rw [List.mem_singleton] at hb; subst hb; rintro rfl; exact hx ha⟩
      · intro l hl
        have := h.len _ hm
        rw [List.length_append, List.length_singleton]
        rcases List.mem_append.1 hl with hl | hl
        · have := h.len l hl
          omega
        · rw [List.mem_singleton] at hl
          subst hl
          rw [List.length_append, List.length_singleton]
          omega
theorem add_len : T.length ≤ (addV T s x).1.length ∧ (addV T s x).1.length ≤ T.length + 1 := by
  by_cases ho : s < 0 ∨ (T.length : Int) ≤ s
  · rw [add_out ho]; exact ⟨Nat.le_refl _, Nat.le_succ _⟩
  cases hs : (slotV (atV T s) x).isSome with
  | true => rw [add_has ho hs]; exact ⟨Nat.le_refl _, Nat.le_succ _⟩
  | false =>
    cases hr : rowV T (atV T s ++ [x]) with
    | some i => rw [add_old ho hs hr]; exact ⟨Nat.le_refl _, Nat.le_succ _⟩
    | none =>
      rw [add_new ho hs hr]
      simp
theorem good_of : ∀ (l : List ByteArray) {T : List (List ByteArray)} {s : Int}, GoodT T → GoodT (ofV l T s).1
  | [], _, _, h => h
  | _ :: l, _, _, h => good_of l (good_add h)
theorem of_len : ∀ (l : List ByteArray) {T : List (List ByteArray)} {s : Int}, (ofV l T s).1.length ≤ T.length + l.length
  | [], _, _ => Nat.le_refl _
  | x :: l, T, s => by
    have h1 : (ofV l (addV T s x).1 (addV T s x).2.1).1.length ≤ (addV T s x).1.length + l.length := of_len l
    have h2 := (add_len (T := T) (s := s) (x := x)).2
    show (ofV l (addV T s x).1 (addV T s x).2.1).1.length ≤ T.length + (l.length + 1)
    omega
theorem add_rng (hp : 0 < T.length) : 0 ≤ (addV T s x).2.1 ∧ (addV T s x).2.1 < ((addV T s x).1.length : Int) := by
  by_cases ho : s < 0 ∨ (T.length : Int) ≤ s
  · rw [add_out ho]; exact ⟨Int.le_refl _, by show (0 : Int) < (T.length : Int); omega⟩
  cases hs : (slotV (atV T s) x).isSome with
  | true => rw [add_has ho hs]; exact ⟨by show 0 ≤ s; omega, by show s < (T.length : Int); omega⟩
  | false =>
    cases hr : rowV T (atV T s ++ [x]) with
    | some i =>
      rw [add_old ho hs hr]
      obtain ⟨hi, _⟩ := rowV_lt hr
      exact ⟨by show (0 : Int) ≤ (i : Int); omega, by show (i : Int) < (T.length : Int); omega⟩
    | none =>
      rw [add_new ho hs hr]
      exact ⟨by show (0 : Int) ≤ (T.length : Int); omega, by simp; omega⟩
theorem of_rng : ∀ (l : List ByteArray) {T : List (List ByteArray)} {s : Int}, 0 < T.length → 0 ≤ s → s < (T.length : Int) → 0 ≤ (ofV l T s).2 ∧ (ofV l T s).2 < ((ofV l T s).1.length : Int)
  | [], _, _, _, h1, h2 => ⟨h1, h2⟩
  | x :: l, T, s, h0, h1, h2 => by
    have h3 := add_rng (s := s) (x := x) h0
    exact of_rng l (T := (addV T s x).1) (s := (addV T s x).2.1) (by omega) h3.1 h3.2
end
end Go.Proofs.Ytldcfglkcifklaa
