/- Places of tokens; without a program in sight. -/
import Derived.Test.YtgoppgopnhmhfaaDoorBlankV
namespace Go.Proofs.YtgoppgopnhmhfaaDoor

def stepP (p : Nat × Nat) (b : UInt8) : Nat × Nat := if b = 10 then (p.1 + 1, 1) else (p.1, p.2 + 1)
def placeV (c : List UInt8) (p : Nat × Nat) : Nat × Nat := c.foldl stepP p
def ltP (p q : Nat × Nat) : Prop := p.1 < q.1 ∨ (p.1 = q.1 ∧ p.2 < q.2)

theorem ltP_step (p : Nat × Nat) (b : UInt8) : ltP p (stepP p b) := by
  unfold ltP stepP
  split <;> simp

theorem ltP_trans {p q r : Nat × Nat} (h : ltP p q) (h2 : ltP q r) : ltP p r := by
  unfold ltP at *
  omega

theorem placeV_append (c d : List UInt8) (p : Nat × Nat) : placeV (c ++ d) p = placeV d (placeV c p) := List.foldl_append ..

theorem ltP_place (d : List UInt8) (p : Nat × Nat) (h : d ≠ []) : ltP p (placeV d p) := by
  induction d generalizing p with
  | nil => exact absurd rfl h
  | cons b r ih =>
    show ltP p (placeV r (stepP p b))
    by_cases hr : r = []
    · subst hr; exact ltP_step p b
    · exact ltP_trans (ltP_step p b) (ih _ hr)

theorem ltP_take (d : List UInt8) (p : Nat × Nat) (j : Nat) (h : j < d.length) : ltP (placeV (d.take j) p) (placeV d p) := by
  have e : d = d.take j ++ d.drop j := (List.take_append_drop j d).symm
  have h2 := ltP_place (d.drop j) (placeV (d.take j) p) (by
    intro hh
    have := congrArg List.length hh
    rw [List.length_drop] at this
    simp at this
    omega)
  rw [← placeV_append, ← e] at h2
  exact h2

theorem placeV_row (c : List UInt8) (p : Nat × Nat) (h : ∀ b ∈ c, b ≠ 10) : placeV c p = (p.1, p.2 + c.length) := by
  induction c generalizing p with
  | nil => rfl
  | cons b r ih =>
    show placeV r (stepP p b) = _
    rw [ih _ (fun x hx => h x (List.mem_cons_of_mem _ hx)), stepP, if_neg (h b (List.mem_cons_self ..))]
    simp
    omega

theorem skip_place {c : Bool} {l r : List UInt8} {li co li' co' : Nat} (h : skipV c l li co = (r, li', co')) : ∃ d, l = d ++ r ∧ placeV d (li, co) = (li', co') := by
  induction l generalizing c li co with
  | nil =>
    cases c <;> (rw [skipV] at h; injection h with h1 h2; injection h2 with h2 h3; subst h1 h2 h3; exact ⟨[], rfl, rfl⟩)
  | cons b s ih =>
    have go : ∀ c' li2 co2, stepP (li, co) b = (li2, co2) → skipV c' s li2 co2 = (r, li', co') → ∃ d, b :: s = d ++ r ∧ placeV d (li, co) = (li', co') := by
      intro c' li2 co2 hp hs
      obtain ⟨d, e, hd⟩ := ih hs
      refine ⟨b :: d, by rw [e]; rfl, ?_⟩
      show placeV d (stepP (li, co) b) = _
      rw [hp, hd]
    have lf : b = 10 → stepP (li, co) b = (li + 1, 1) := fun e => by rw [stepP, if_pos e]
    have on : ¬ b = 10 → stepP (li, co) b = (li, co + 1) := fun e => by rw [stepP, if_neg e]
    cases c
    · rw [skipV] at h
      split at h
      · exact go _ _ _ (lf (by assumption)) h
      rename_i h1
      split at h
      · exact go _ _ _ (on h1) h
      split at h
      · exact go _ _ _ (on h1) h
      · injection h with h1 h2; injection h2 with h2 h3; subst h1 h2 h3; exact ⟨[], rfl, rfl⟩
    · rw [skipV] at h
      split at h
      · exact go _ _ _ (lf (by assumption)) h
      · exact go _ _ _ (on (by assumption)) h

theorem strV_row {l acc said rest : List UInt8} (h : strV l acc = some (said, rest)) : ∃ c, l = c ++ rest ∧ ∀ b ∈ c, b ≠ 10 := by
  revert h
  refine strV_cases (P := fun l acc => strV l acc = some (said, rest) → ∃ c, l = c ++ rest ∧ ∀ b ∈ c, b ≠ 10) ?_ ?_ ?_ ?_ ?_ ?_ ?_ l acc
  · intro acc h; cases h
  · intro r acc h
    rw [strV_shut] at h
    injection h with h
    injection h with h1 h2
    exact ⟨[34], by rw [h2]; rfl, by simp⟩
  · intro b r acc hb h; rw [strV_low hb] at h; cases h
  · intro acc h; rw [strV_cut] at h; cases h
  · intro c r acc hc h; rw [strV_none hc] at h; cases h
  · intro c x r acc hc ih h
    rw [strV_some hc] at h
    obtain ⟨d, e, hd⟩ := ih h
    refine ⟨92 :: c :: d, by rw [e]; rfl, ?_⟩
    intro b hb
    rcases List.mem_cons.1 hb with rfl | hb
    · decide
    rcases List.mem_cons.1 hb with rfl | hb
    · intro hh; subst hh; simp [unescV] at hc
    · exact hd b hb
  · intro b r acc a1 a2 a3 ih h
    rw [strV_on a1 a2 a3] at h
    obtain ⟨d, e, hd⟩ := ih h
    refine ⟨b :: d, by rw [e]; rfl, ?_⟩
    intro x hx
    rcases List.mem_cons.1 hx with rfl | hx
    · intro hh; subst hh; exact a2 (by decide)
    · exact hd x hx

theorem row_of_all {p : UInt8 → Bool} (hp : p 10 = false) (l : List UInt8) : ∀ b ∈ l.takeWhile p, b ≠ 10 := by
  intro b hb hh
  subst hh
  have := List.all_eq_true.1 (all_takeWhile (p := p) l) 10 hb
  rw [hp] at this
  cases this

theorem read_place {l t rest : List UInt8} {k : Int} (h : readV l = .tok k t rest) : ∃ c, l = c ++ rest ∧ (∀ b ∈ c, b ≠ 10) ∧ (k ≠ 4 → t = c) := by
  obtain ⟨b, r, rfl, ⟨hb, ht, hr, hl, hk⟩ | ⟨hb, hd, ht, hr, hp, hk⟩ | ⟨hb, hs, hl, hk⟩ | ⟨hb, hd, hq, h0, ht, hr, hk⟩⟩ := readV_ways h
  · exact ⟨t, by rw [ht, hr, List.takeWhile_append_dropWhile], by rw [ht]; exact row_of_all (by decide) _, fun _ => rfl⟩
  · exact ⟨t, by rw [ht, hr, List.takeWhile_append_dropWhile], by rw [ht]; exact row_of_all (by decide) _, fun _ => rfl⟩
  · obtain ⟨c, e, hc⟩ := strV_row hs
    refine ⟨b :: c, by rw [e]; rfl, ?_, fun hk4 => absurd hk hk4⟩
    intro x hx
    rcases List.mem_cons.1 hx with rfl | hx
    · intro hh; rw [hh] at hb; revert hb; decide
    · exact hc x hx
  · refine ⟨t, by rw [ht, hr, List.take_append_drop], ?_, fun _ => rfl⟩
    rw [ht]
    match r, h0 with
    | [], h0 =>
      intro x hx hh
      subst hh
      have : (10 : UInt8) = b := by
        have := List.mem_of_mem_take hx
        simpa using this
      subst this
      revert h0
      decide
    | c :: r', h0 =>
      by_cases hc : twoV.contains (b, c) = true
      · have e : signV (b :: c :: r') = 2 := by rw [signV, if_pos hc]
        rw [e]
        intro x hx hh
        subst hh
        have hm : (b, c) ∈ twoV := by simpa using hc
        have : (10 : UInt8) = b ∨ (10 : UInt8) = c := by simpa using hx
        rcases this with hh | hh
        · rw [← hh] at hm; revert hm; simp [twoV]
        · rw [← hh] at hm; revert hm; simp [twoV]
      · have ho : oneV.contains b = true := by
          rw [signV, if_neg hc] at h0
          by_cases ho : oneV.contains b = true
          · exact ho
          · rw [if_neg ho] at h0; exact absurd rfl h0
        have e : signV (b :: c :: r') = 1 := by rw [signV, if_neg hc, if_pos ho]
        rw [e]
        intro x hx hh
        subst hh
        have : (10 : UInt8) = b := by simpa using hx
        subst this
        revert ho
        decide

/-- Each token but a string stands in the text at its place: D is the text from the place p on. -/
def PlacedT : List Tok → List UInt8 → Nat × Nat → Prop
  | [], _, _ => False
  | t :: ts, D, p => (ts = [] ∧ t.text = [] ∧ placeV D p = (t.line, t.col)) ∨ ∃ d r, D = d ++ r ∧ placeV d p = (t.line, t.col) ∧ (t.kind ≠ 4 → t.text <+: r) ∧ PlacedT ts r (t.line, t.col)

def Placed (D : List UInt8) (p : Nat × Nat) (ts : List Tok) : Prop := PlacedT ts D p

theorem Placed.fin {D : List UInt8} {p : Nat × Nat} {li co : Nat} (h : placeV D p = (li, co)) : Placed D p [⟨0, [], li, co⟩] := .inl ⟨rfl, rfl, h⟩

theorem Placed.tok {D d r : List UInt8} {p : Nat × Nat} {t : Tok} {ts : List Tok} (h : D = d ++ r) (hp : placeV d p = (t.line, t.col)) (ht : t.kind ≠ 4 → t.text <+: r) (hc : Placed r (t.line, t.col) ts) : Placed D p (t :: ts) := .inr ⟨d, r, h, hp, ht, hc⟩

theorem placed_ways {D : List UInt8} {p : Nat × Nat} {t : Tok} {ts : List Tok} (h : Placed D p (t :: ts)) : (ts = [] ∧ t.text = [] ∧ placeV D p = (t.line, t.col)) ∨ ∃ d r, D = d ++ r ∧ placeV d p = (t.line, t.col) ∧ (t.kind ≠ 4 → t.text <+: r) ∧ Placed r (t.line, t.col) ts := h

theorem placed_none {D : List UInt8} {p : Nat × Nat} (h : Placed D p []) : False := h

theorem placed_of_chain {l : List UInt8} {li co : Nat} {ts : List Tok} (h : Chain l li co ts) : ∀ c p, placeV c p = (li, co) → Placed (c ++ l) p ts := by
  induction ts generalizing l li co with
  | nil => exact (chain_none h).elim
  | cons a0 ts ih0 =>
    have hw := chain_ways h
    clear h
    rcases hw with ⟨rfl, li', co', h, rfl⟩ | ⟨r, t, rest, li', co', k, h, hr, he, rfl, hc⟩
    · intro c p hp
      obtain ⟨d, e, hd⟩ := skip_place h
      refine .fin ?_
      rw [e, List.append_nil, placeV_append, hp, hd]
    · have ih := ih0 hc
      intro c p hp
      obtain ⟨d, e, hd⟩ := skip_place h
      obtain ⟨c', e', hrow, ht⟩ := read_place he
      have hr2 := ih c' (li', co') (by
        rw [placeV_row c' _ hrow, e', List.length_append]
        simp)
      rw [← e'] at hr2
      refine .tok (d := c ++ d) (r := r) (by rw [e, List.append_assoc]) (by rw [placeV_append, hp, hd]) ?_ hr2
      intro hk
      rw [ht hk, e']
      exact List.prefix_append ..
end Go.Proofs.YtgoppgopnhmhfaaDoor
