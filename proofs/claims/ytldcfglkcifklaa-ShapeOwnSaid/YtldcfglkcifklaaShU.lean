/- What shapes come to, without a program in sight. -/
import Derived.Test.YtldcfglkcifklaaShV
namespace Go.Proofs.Ytldcfglkcifklaa

/-- Names behind those that there are, each once. -/
def ddV : List ByteArray → List ByteArray → List ByteArray
  | acc, [] => acc
  | acc, x :: l => ddV (if (slotV acc x).isSome = true then acc else acc ++ [x]) l
theorem ddV_append : ∀ (l m acc : List ByteArray), ddV acc (l ++ m) = ddV (ddV acc l) m
  | [], _, _ => rfl
  | _ :: l, m, _ => ddV_append l m _
theorem ddV_ext : ∀ (l acc : List ByteArray), ∃ r, ddV acc l = acc ++ r
  | [], acc => ⟨[], by simp [ddV]⟩
  | x :: l, acc => by
    unfold ddV
    by_cases h : (slotV acc x).isSome = true
    · rw [if_pos h]
      exact ddV_ext l acc
    · rw [if_neg h]
      obtain ⟨r, hr⟩ := ddV_ext l (acc ++ [x])
      exact ⟨x :: r, by rw [hr, List.append_assoc]; rfl⟩
theorem ddV_has : ∀ (l acc : List ByteArray) (x : ByteArray), x ∈ ddV acc l ↔ x ∈ acc ∨ x ∈ l
  | [], acc, x => by simp [ddV]
  | y :: l, acc, x => by
    unfold ddV
    rw [ddV_has l _ x]
    by_cases h : y ∈ acc
    · rw [if_pos (slotV_some.2 h), List.mem_cons]
      constructor
      · rintro (h1 | h1)
        · exact .inl h1
        · exact .inr (.inr h1)
      · rintro (h1 | rfl | h1)
        · exact .inl h1
        · exact .inl h
        · exact .inr h1
    · rw [if_neg fun e => h (slotV_some.1 e), List.mem_append, List.mem_singleton, List.mem_cons]
      constructor
      · rintro ((h1 | h1) | h1)
        · exact .inl h1
        · exact .inr (.inl h1)
        · exact .inr (.inr h1)
      · rintro (h1 | h1 | h1)
        · exact .inl (.inl h1)
        · exact .inl (.inr h1)
        · exact .inr h1
theorem slotV_ext {l r : List ByteArray} {x : ByteArray} {i : Nat} (h : slotV l x = some i) : slotV (l ++ r) x = some i := by
  unfold slotV at h ⊢
  rw [List.findIdx?_append, h]
  rfl
theorem slotV_behind {l r : List ByteArray} {x : ByteArray} {i : Nat} (h : slotV l x = none) (hr : slotV (l ++ r) x = some i) : l.length ≤ i := by
  unfold slotV at h hr
  rw [List.findIdx?_append, h] at hr
  cases hx : List.findIdx? (fun y => decide (y = x)) r with
  | none => rw [hx] at hr; cases hr
  | some j =>
    rw [hx] at hr
    simp at hr
    omega
theorem slotV_mem {l : List ByteArray} {x : ByteArray} (h : x ∈ l) : ∃ i, slotV l x = some i := Option.isSome_iff_exists.1 (slotV_some.2 h)
section
variable {l : List ByteArray} {x : ByteArray} {T : List (List ByteArray)} {s : Int}
theorem atV_ext {k : Int} {R : List (List ByteArray)} (h0 : 0 ≤ k) (h : k < (T.length : Int)) : atV (T ++ R) k = atV T k := by
  obtain ⟨n, rfl⟩ := Int.eq_ofNat_of_zero_le h0
  unfold atV
  rw [Int.toNat_natCast, List.getD_eq_getElem?_getD, List.getD_eq_getElem?_getD, List.getElem?_append_left (by omega)]
theorem add_ext : ∃ R, (addV T s x).1 = T ++ R := by
  by_cases ho : s < 0 ∨ (T.length : Int) ≤ s
  · rw [add_out ho]; exact ⟨[], by simp⟩
  cases hs : (slotV (atV T s) x).isSome with
  | true => rw [add_has ho hs]; exact ⟨[], by simp⟩
  | false =>
    cases hr : rowV T (atV T s ++ [x]) with
    | some i => rw [add_old ho hs hr]; exact ⟨[], by simp⟩
    | none => rw [add_new ho hs hr]; exact ⟨_, rfl⟩
/-- The shape that a name leads to. -/
theorem add_at (h0 : 0 ≤ s) (h1 : s < (T.length : Int)) : atV (addV T s x).1 (addV T s x).2.1 = if (slotV (atV T s) x).isSome = true then atV T s else atV T s ++ [x] := by
  have ho : ¬ (s < 0 ∨ (T.length : Int) ≤ s) := by omega
  by_cases hx : x ∈ atV T s
  · rw [if_pos (slotV_some.2 hx), add_has ho (slotV_some.2 hx)]
  · rw [if_neg fun e => hx (slotV_some.1 e)]
    have hs := slotV_no.2 hx
    cases hr : rowV T (atV T s ++ [x]) with
    | some i =>
      rw [add_old ho hs hr]
      obtain ⟨hi, e⟩ := rowV_lt hr
      show atV T (i : Int) = _
      rw [atV_nat hi, e]
    | none =>
      rw [add_new ho hs hr]
      show atV (T ++ [atV T s ++ [x]]) (T.length : Int) = _
      rw [atV_nat (by simp)]
      simp
theorem of_ext : ∀ (l : List ByteArray) (T : List (List ByteArray)) (s : Int), ∃ R, (ofV l T s).1 = T ++ R
  | [], T, _ => ⟨[], by simp [ofV]⟩
  | x :: l, T, s => by
    obtain ⟨R, hR⟩ := of_ext l (addV T s x).1 (addV T s x).2.1
    obtain ⟨Q, hQ⟩ := add_ext (T := T) (s := s) (x := x)
    refine ⟨Q ++ R, ?_⟩
    show (ofV l (addV T s x).1 (addV T s x).2.1).1 = _
    rw [hR, hQ, List.append_assoc]
theorem of_at : ∀ (l : List ByteArray) {T : List (List ByteArray)} {s : Int}, 0 < T.length → 0 ≤ s → s < (T.length : Int) → atV (ofV l T s).1 (ofV l T s).2 = ddV (atV T s) l
  | [], _, _, _, _, _ => rfl
  | x :: l, T, s, h, h0, h1 => by
    have h3 := add_rng (s := s) (x := x) h
    show atV (ofV l (addV T s x).1 (addV T s x).2.1).1 (ofV l (addV T s x).1 (addV T s x).2.1).2 = ddV (if (slotV (atV T s) x).isSome = true then atV T s else atV T s ++ [x]) l
    rw [of_at l (by omega) h3.1 h3.2, add_at h0 h1]
/-- The same names, the same shape. -/
theorem at_inj {i j : Int} (hg : GoodT T) (hi : 0 ≤ i ∧ i < (T.length : Int)) (hj : 0 ≤ j ∧ j < (T.length : Int)) (h : atV T i = atV T j) : i = j := by
  obtain ⟨n, rfl⟩ := Int.eq_ofNat_of_zero_le hi.1
  obtain ⟨m, rfl⟩ := Int.eq_ofNat_of_zero_le hj.1
  rw [atV_nat (by omega), atV_nat (by omega)] at h
  have := (List.getElem_inj hg.nd).1 h
  omega
theorem good_at0 (hg : GoodT T) : atV T 0 = [] := by
  have := atV_nat hg.pos
  rw [hg.zero] at this
  exact this
/-- Names, once more. -/
theorem of_again {l m : List ByteArray} {r q : List (List ByteArray) × Int} (hg : GoodT T) (hr : ofV l T 0 = r) (hq : ofV m r.1 0 = q) : (ofV l q.1 0).2 = r.2 ∧ atV q.1 r.2 = ddV [] l ∧ atV q.1 q.2 = ddV [] m ∧ 0 ≤ r.2 ∧ r.2 < (q.1.length : Int) ∧ 0 ≤ q.2 ∧ q.2 < (q.1.length : Int) := by
  have h := hg.pos
  have g1 : GoodT r.1 := hr ▸ good_of l hg
  have g2 : GoodT q.1 := hq ▸ good_of m g1
  have g3 : GoodT (ofV l q.1 0).1 := good_of l g2
  have p1 := g1.pos
  have p2 := g2.pos
  have r1 := of_rng l (T := T) (s := 0) h (Int.le_refl _) (by omega)
  have r2 := of_rng m (T := r.1) (s := 0) p1 (Int.le_refl _) (by omega)
  have r3 := of_rng l (T := q.1) (s := 0) p2 (Int.le_refl _) (by omega)
  have a1 := of_at l (T := T) (s := 0) h (Int.le_refl _) (by omega)
  have a2 := of_at m (T := r.1) (s := 0) p1 (Int.le_refl _) (by omega)
  have a3 := of_at l (T := q.1) (s := 0) p2 (Int.le_refl _) (by omega)
  obtain ⟨R, hR⟩ := of_ext m r.1 0
  obtain ⟨Q, hQ⟩ := of_ext l q.1 0
  rw [hr] at r1 a1
  rw [hq] at r2 a2 hR
  rw [good_at0 hg] at a1
  rw [good_at0 g1] at a2
  rw [good_at0 g2] at a3
  have l1 : r.1.length ≤ q.1.length := by rw [hR, List.length_append]; omega
  have l2 : q.1.length ≤ (ofV l q.1 0).1.length := by rw [hQ, List.length_append]; omega
  have b1 : atV q.1 r.2 = ddV [] l := by rw [hR, atV_ext r1.1 r1.2]; exact a1
  refine ⟨at_inj g3 r3 ⟨r1.1, by omega⟩ ?_, b1, a2, r1.1, by omega, r2.1, r2.2⟩
  rw [a3, ← b1]
  conv => rhs; rw [hQ]
  rw [atV_ext r1.1 (by omega)]
/-- A chain of shapes, each one name longer. -/
theorem chain_add (hg : GoodT T) (h0 : 0 ≤ s) (h1 : s < (T.length : Int)) (hl : (atV T s).length + 1 = T.length) : (atV (addV T s x).1 (addV T s x).2.1).length + 1 = (addV T s x).1.length := by
  rw [add_at h0 h1]
  have ho : ¬ (s < 0 ∨ (T.length : Int) ≤ s) := by omega
  by_cases hx : x ∈ atV T s
  · rw [if_pos (slotV_some.2 hx), add_has ho (slotV_some.2 hx)]
    exact hl
  · rw [if_neg fun e => hx (slotV_some.1 e)]
    have hr : rowV T (atV T s ++ [x]) = none := rowV_none fun i hi e => by
      have := hg.len _ (List.getElem_mem hi)
      rw [e, List.length_append, List.length_singleton] at this
      omega
    rw [add_new ho (slotV_no.2 hx) hr]
    simp
    omega
theorem chain_of : ∀ (l : List ByteArray) {T : List (List ByteArray)} {s : Int}, GoodT T → 0 ≤ s → s < (T.length : Int) → (atV T s).length + 1 = T.length → (atV (ofV l T s).1 (ofV l T s).2).length + 1 = (ofV l T s).1.length
  | [], _, _, _, _, _, h => h
  | x :: l, T, s, hg, h0, h1, h => by
    have h3 := add_rng (s := s) (x := x) hg.pos
    exact chain_of l (good_add hg) h3.1 h3.2 (chain_add hg h0 h1 h)
end
end Go.Proofs.Ytldcfglkcifklaa
