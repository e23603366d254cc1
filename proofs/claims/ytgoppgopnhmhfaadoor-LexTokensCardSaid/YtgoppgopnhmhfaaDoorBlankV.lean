/- Blanks between two texts, and tokens that are written anew; without a program in sight. -/
import Derived.Test.YtgoppgopnhmhfaaDoorChainV
namespace Go.Proofs.YtgoppgopnhmhfaaDoor

theorem takeWhile_stop {p : UInt8 → Bool} {x : UInt8} (hx : p x = false) (l z : List UInt8) : (l ++ x :: z).takeWhile p = l.takeWhile p := by
  induction l with
  | nil => simp [hx]
  | cons b r ih =>
    by_cases h : p b = true
    · rw [List.cons_append, List.takeWhile_cons_of_pos h, List.takeWhile_cons_of_pos h, ih]
    · rw [List.cons_append, List.takeWhile_cons_of_neg h, List.takeWhile_cons_of_neg h]

theorem dropWhile_stop {p : UInt8 → Bool} {x : UInt8} (hx : p x = false) (l z : List UInt8) : (l ++ x :: z).dropWhile p = l.dropWhile p ++ x :: z := by
  induction l with
  | nil => simp [hx]
  | cons b r ih =>
    by_cases h : p b = true
    · rw [List.cons_append, List.dropWhile_cons_of_pos h, List.dropWhile_cons_of_pos h, ih]
    · rw [List.cons_append, List.dropWhile_cons_of_neg h, List.dropWhile_cons_of_neg h, List.cons_append]

theorem takeWhile_whole {p : UInt8 → Bool} {l : List UInt8} (h : l.all p = true) : l.takeWhile p = l := by
  induction l with
  | nil => rfl
  | cons b r ih =>
    simp only [List.all_cons, Bool.and_eq_true] at h
    rw [List.takeWhile_cons_of_pos h.1, ih h.2]

theorem dropWhile_whole {p : UInt8 → Bool} {l : List UInt8} (h : l.all p = true) : l.dropWhile p = [] := by
  induction l with
  | nil => rfl
  | cons b r ih =>
    simp only [List.all_cons, Bool.and_eq_true] at h
    rw [List.dropWhile_cons_of_pos h.1, ih h.2]

theorem strV_append {l acc said rest : List UInt8} (h : strV l acc = some (said, rest)) (y : List UInt8) : strV (l ++ y) acc = some (said, rest ++ y) := by
  revert h
  refine strV_cases (P := fun l acc => strV l acc = some (said, rest) → strV (l ++ y) acc = some (said, rest ++ y)) ?_ ?_ ?_ ?_ ?_ ?_ ?_ l acc
  · intro acc h; cases h
  · intro r acc h
    rw [strV_shut] at h
    injection h with h
    injection h with h1 h2
    rw [List.cons_append, strV_shut, h1, h2]
  · intro b r acc hb h; rw [strV_low hb] at h; cases h
  · intro acc h; rw [strV_cut] at h; cases h
  · intro c r acc hc h; rw [strV_none hc] at h; cases h
  · intro c x r acc hc ih h
    rw [strV_some hc] at h
    rw [List.cons_append, List.cons_append, strV_some hc]
    exact ih h
  · intro b r acc a1 a2 a3 ih h
    rw [strV_on a1 a2 a3] at h
    rw [List.cons_append, strV_on a1 a2 a3]
    exact ih h

theorem two_stop (a : UInt8) (x : UInt8) (hx : x = 10 ∨ x = 32) : twoV.contains (a, x) = false := by
  rcases hx with rfl | rfl
  all_goals simp [twoV]

theorem signV_stop {l : List UInt8} (hl : l ≠ []) (x : UInt8) (hx : x = 10 ∨ x = 32) (z : List UInt8) : signV (l ++ x :: z) = signV l := by
  match l, hl with
  | [a], _ =>
    show signV (a :: x :: z) = signV [a]
    rw [signV, signV, two_stop a x hx]
    simp
  | a :: b :: r, _ => rfl

theorem stop_in {x : UInt8} (hx : x = 10 ∨ x = 32) : inNm x = false ∧ isDig x = false := by
  rcases hx with rfl | rfl <;> exact ⟨by decide, by decide⟩

/-- The token of a known way, made again. -/
theorem read_name {b : UInt8} {r : List UInt8} (hb : isLet b = true) (hl : ((b :: r).takeWhile inNm).length ≤ 32) :
    readV (b :: r) = .tok (if wordsV.contains ((b :: r).takeWhile inNm) then 2 else 1) ((b :: r).takeWhile inNm) ((b :: r).dropWhile inNm) := by
  unfold readV
  simp only [hb, if_true]
  rw [if_neg (by omega)]

theorem read_number {b : UInt8} {r : List UInt8} (hb : isLet b = false) (hd : isDig b = true) (hp : (parseV ((b :: r).takeWhile isDig)).isSome = true) :
    readV (b :: r) = .tok 3 ((b :: r).takeWhile isDig) ((b :: r).dropWhile isDig) := by
  unfold readV
  simp only [hb, hd, if_true, Bool.false_eq_true, if_false]
  cases h : parseV ((b :: r).takeWhile isDig) with
  | none => rw [h] at hp; cases hp
  | some v => rfl

theorem read_string {r t rest : List UInt8} (hs : strV r [] = some (t, rest)) (ht : t.length ≤ 256) : readV (34 :: r) = .tok 4 t rest := by
  unfold readV
  have h1 : isLet 34 = false := by decide
  have h2 : isDig 34 = false := by decide
  simp only [h1, h2, hs, Bool.false_eq_true, if_false, if_true]
  rw [if_neg (by omega)]

theorem read_sign {b : UInt8} {r : List UInt8} (hb : isLet b = false) (hd : isDig b = false) (hq : b ≠ 34) (h0 : signV (b :: r) ≠ 0) :
    readV (b :: r) = .tok 5 ((b :: r).take (signV (b :: r))) ((b :: r).drop (signV (b :: r))) := by
  unfold readV
  simp only [hb, hd, Bool.false_eq_true, if_false]
  rw [if_neg hq, if_neg h0]

theorem read_on {l t rest : List UInt8} {k : Int} (h : readV l = .tok k t rest) (x : UInt8) (hx : x = 10 ∨ x = 32) (z : List UInt8) : readV (l ++ x :: z) = .tok k t (rest ++ x :: z) := by
  obtain ⟨b, r, rfl, ⟨hb, ht, hr, hl, hk⟩ | ⟨hb, hd, ht, hr, hp, hk⟩ | ⟨hb, hs, hl, hk⟩ | ⟨hb, hd, hq, h0, ht, hr, hk⟩⟩ := readV_ways h
  · have e := read_name (r := r ++ x :: z) hb (by rw [← List.cons_append, takeWhile_stop (stop_in hx).1, ← ht]; exact hl)
    rw [← List.cons_append, takeWhile_stop (stop_in hx).1, dropWhile_stop (stop_in hx).1, ← ht, ← hr, ← hk] at e
    exact e
  · have e := read_number (r := r ++ x :: z) hb hd (by rw [← List.cons_append, takeWhile_stop (stop_in hx).2, ← ht]; exact hp)
    rw [← List.cons_append, takeWhile_stop (stop_in hx).2, dropWhile_stop (stop_in hx).2, ← ht, ← hr, ← hk] at e
    exact e
  · subst hb hk
    exact read_string (strV_append hs _) hl
  · have es := signV_stop (l := b :: r) (by simp) x hx z
    have e := read_sign (r := r ++ x :: z) hb hd hq (by rw [← List.cons_append, es]; exact h0)
    have hle := signV_le (b :: r)
    rw [← List.cons_append, es, List.take_append_of_le_length hle, List.drop_append_of_le_length hle, ← ht, ← hr, ← hk] at e
    exact e

/-- A token's bytes as they are written. -/
def writeV (k : Int) (t : List UInt8) : List UInt8 := if k = 4 then quoteV t else t

theorem strV_says {l acc said rest : List UInt8} (h : strV l acc = some (said, rest)) (ha : ∀ b ∈ acc, sayB b) : ∀ b ∈ said, sayB b := by
  revert ha h
  refine strV_cases (P := fun l acc => strV l acc = some (said, rest) → (∀ b ∈ acc, sayB b) → ∀ b ∈ said, sayB b) ?_ ?_ ?_ ?_ ?_ ?_ ?_ l acc
  · intro acc h; cases h
  · intro r acc h ha
    rw [strV_shut] at h
    injection h with h
    injection h with h1 h2
    rw [← h1]; exact ha
  · intro b r acc hb h; rw [strV_low hb] at h; cases h
  · intro acc h; rw [strV_cut] at h; cases h
  · intro c r acc hc h; rw [strV_none hc] at h; cases h
  · intro c x r acc hc ih h ha
    rw [strV_some hc] at h
    refine ih h ?_
    intro b hb
    rcases List.mem_append.1 hb with hb | hb
    · exact ha b hb
    · rw [List.mem_singleton.1 hb]
      unfold unescV at hc
      repeat' split at hc
      all_goals
        first
          | (injection hc with hc; subst hc; unfold sayB; decide)
          | cases hc
  · intro b r acc a1 a2 a3 ih h ha
    rw [strV_on a1 a2 a3] at h
    refine ih h ?_
    intro c hc
    rcases List.mem_append.1 hc with hc | hc
    · exact ha c hc
    · rw [List.mem_singleton.1 hc]
      exact .inl (by omega)

theorem read_again {l t rest : List UInt8} {k : Int} (h : readV l = .tok k t rest) (x : UInt8) (hx : x = 10 ∨ x = 32) (z : List UInt8) : readV (writeV k t ++ x :: z) = .tok k t (x :: z) := by
  obtain ⟨b, r, rfl, ⟨hb, ht, hr, hl, hk⟩ | ⟨hb, hd, ht, hr, hp, hk⟩ | ⟨hb, hs, hl, hk⟩ | ⟨hb, hd, hq, h0, ht, hr, hk⟩⟩ := readV_ways h
  · have hn : inNm b = true := by simp [inNm, hb]
    have e0 : t = b :: r.takeWhile inNm := by rw [ht, List.takeWhile_cons_of_pos hn]
    have ha : t.all inNm = true := by rw [ht]; exact all_takeWhile _
    have hw : writeV k t = t := by
      unfold writeV
      rw [if_neg]
      rw [hk]
      split <;> decide
    have e1 := takeWhile_whole ha
    have e2 := dropWhile_whole ha
    have e := read_name (r := r.takeWhile inNm ++ x :: z) hb (by rw [← List.cons_append, takeWhile_stop (stop_in hx).1, ← e0, e1]; exact hl)
    rw [← List.cons_append, takeWhile_stop (stop_in hx).1, dropWhile_stop (stop_in hx).1, ← e0, e1, e2, ← hk] at e
    rw [hw]
    exact e
  · have e0 : t = b :: r.takeWhile isDig := by rw [ht, List.takeWhile_cons_of_pos hd]
    have ha : t.all isDig = true := by rw [ht]; exact all_takeWhile _
    have hw : writeV k t = t := by unfold writeV; rw [if_neg (by rw [hk]; decide)]
    have e1 := takeWhile_whole ha
    have e2 := dropWhile_whole ha
    have e := read_number (r := r.takeWhile isDig ++ x :: z) hb hd (by rw [← List.cons_append, takeWhile_stop (stop_in hx).2, ← e0, e1]; exact hp)
    rw [← List.cons_append, takeWhile_stop (stop_in hx).2, dropWhile_stop (stop_in hx).2, ← e0, e1, e2, ← hk] at e
    rw [hw]
    exact e
  · have hw : writeV k t = quoteV t := by unfold writeV; rw [if_pos hk]
    rw [hw, read_quote t (strV_says hs (by simp)), if_neg (by omega), hk]
  · have hw : writeV k t = t := by unfold writeV; rw [if_neg (by rw [hk]; decide)]
    have hle := signV_le (b :: r)
    have h2 := signV_two (b :: r)
    have est : signV t = signV (b :: r) := by
      rw [ht]
      match r, h0 with
      | [], h0 =>
        have : signV [b] = 1 := by
          have := signV_le [b]
          simp at this
          omega
        rw [this]
        exact this
      | c :: r', h0 =>
        by_cases hc : twoV.contains (b, c) = true
        · have : signV (b :: c :: r') = 2 := by rw [signV, if_pos hc]
          rw [this]
          show signV [b, c] = 2
          rw [signV, if_pos hc]
        · have ho : oneV.contains b = true := by
            rw [signV, if_neg hc] at h0
            by_cases ho : oneV.contains b = true
            · exact ho
            · rw [if_neg ho] at h0; exact absurd rfl h0
          have : signV (b :: c :: r') = 1 := by rw [signV, if_neg hc, if_pos ho]
          rw [this]
          show signV [b] = 1
          rw [signV, if_pos ho]
    have hlen : t.length = signV (b :: r) := by rw [ht, List.length_take]; omega
    obtain ⟨m, hm⟩ : ∃ m, signV (b :: r) = m + 1 := ⟨signV (b :: r) - 1, by omega⟩
    have e0 : t = b :: r.take m := by rw [ht, hm]; rfl
    have es := signV_stop (l := t) (by rw [e0]; simp) x hx z
    have e := read_sign (r := r.take m ++ x :: z) hb hd hq (by rw [← List.cons_append, ← e0, es, est]; exact h0)
    rw [← List.cons_append, ← e0, es, est, ← hlen, List.take_left', List.drop_left', ← hk] at e
    · rw [hw]; exact e
    all_goals rfl

theorem skip_fin {c : Bool} {l : List UInt8} {li co li' co' : Nat} (h : skipV c l li co = ([], li', co')) (z : List UInt8) : skipV c (l ++ 10 :: z) li co = skipV false z (li' + 1) 1 := by
  induction l generalizing c li co with
  | nil => cases c <;> (simp [skipV] at h ⊢; rw [h.1])
  | cons b r ih =>
    cases c
    · rw [skipV] at h
      rw [List.cons_append, skipV]
      split at h
      · rename_i h1; rw [if_pos h1]; exact ih h
      rename_i h1; rw [if_neg h1]
      split at h
      · rename_i h2; rw [if_pos h2]; exact ih h
      rename_i h2; rw [if_neg h2]
      split at h
      · rename_i h3; rw [if_pos h3]; exact ih h
      · cases h
    · rw [skipV] at h
      rw [List.cons_append, skipV]
      split at h
      · rename_i h1; rw [if_pos h1]; exact ih h
      · rename_i h1; rw [if_neg h1]; exact ih h

theorem skip_on {c : Bool} {l r : List UInt8} {li co li' co' : Nat} (h : skipV c l li co = (r, li', co')) (hr : r ≠ []) (z : List UInt8) : skipV c (l ++ z) li co = (r ++ z, li', co') := by
  induction l generalizing c li co with
  | nil => cases c <;> (rw [skipV] at h; injection h with h; exact absurd h.symm hr)
  | cons b s ih =>
    cases c
    · rw [skipV] at h
      rw [List.cons_append, skipV]
      split at h
      · rename_i h1; rw [if_pos h1]; exact ih h
      rename_i h1; rw [if_neg h1]
      split at h
      · rename_i h2; rw [if_pos h2]; exact ih h
      rename_i h2; rw [if_neg h2]
      split at h
      · rename_i h3; rw [if_pos h3]; exact ih h
      · rename_i h3; rw [if_neg h3]; injection h with e1 e2; rw [← e1, e2]; rfl
    · rw [skipV] at h
      rw [List.cons_append, skipV]
      split at h
      · rename_i h1; rw [if_pos h1]; exact ih h
      · rename_i h1; rw [if_neg h1]; exact ih h

/-- A text, a line feed and what comes behind it: the tokens of the text but its end, then those of what comes. -/
theorem chain_append {l : List UInt8} {li co : Nat} {ts : List Tok} (h : Chain l li co ts) : ∃ ini L C, ts = ini ++ [⟨0, [], L, C⟩] ∧ ∀ z zs, Chain z (L + 1) 1 zs → Chain (l ++ 10 :: z) li co (ini ++ zs) := by
  induction ts generalizing l li co with
  | nil => exact (chain_none h).elim
  | cons a0 ts ih0 =>
    have hw := chain_ways h
    clear h
    rcases hw with ⟨rfl, li', co', h, rfl⟩ | ⟨r, t, rest, li', co', k, h, hr, he, rfl, hc⟩
    · exact ⟨[], _, _, rfl, fun z zs hz => chain_congr hz (skip_fin h z)⟩
    · have ih := ih0 hc
      obtain ⟨ini, L, C, rfl, hz⟩ := ih
      refine ⟨_ :: ini, L, C, rfl, fun z zs hzs => ?_⟩
      refine .tok (skip_on h hr _) (by simp) (read_on he 10 (.inl rfl) z) ?_
      rw [List.length_append, List.length_append, Nat.add_sub_add_right]
      exact hz z zs hzs

/-- Kind and text. -/
def Tok.kt (t : Tok) : Int × List UInt8 := (t.kind, t.text)

/-- Where a text begins turns places alone. -/
theorem skip_moved (c : Bool) (l : List UInt8) (li co li2 co2 : Nat) : (skipV c l li co).1 = (skipV c l li2 co2).1 := by
  induction l generalizing c li co li2 co2 with
  | nil => cases c <;> rfl
  | cons b s ih =>
    cases c
    · rw [skipV, skipV]
      split
      · exact ih ..
      split
      · exact ih ..
      split
      · exact ih ..
      · rfl
    · rw [skipV, skipV]
      split
      · exact ih ..
      · exact ih ..

theorem chain_moved {l : List UInt8} {li co : Nat} {ts : List Tok} (h : Chain l li co ts) : ∀ li2 co2, ∃ ts2, Chain l li2 co2 ts2 ∧ ts2.map Tok.kt = ts.map Tok.kt := by
  induction ts generalizing l li co with
  | nil => exact (chain_none h).elim
  | cons a0 ts ih0 =>
    have hw := chain_ways h
    clear h
    rcases hw with ⟨rfl, li', co', h, rfl⟩ | ⟨r, t, rest, li', co', k, h, hr, he, rfl, hc⟩
    · intro li2 co2
      obtain ⟨r, a, b, e⟩ : ∃ r a b, skipV false l li2 co2 = (r, a, b) := ⟨_, _, _, rfl⟩
      have := skip_moved false l li co li2 co2
      rw [h, e] at this
      have hr : r = [] := this.symm
      subst hr
      exact ⟨_, .fin e, rfl⟩
    · have ih := ih0 hc
      intro li2 co2
      obtain ⟨r2, a, b, e⟩ : ∃ r a b, skipV false l li2 co2 = (r, a, b) := ⟨_, _, _, rfl⟩
      have := skip_moved false l li co li2 co2
      rw [h, e] at this
      have hr2 : r2 = r := this.symm
      subst hr2
      obtain ⟨ts2, hc2, hk⟩ := ih a (b + (r2.length - rest.length))
      exact ⟨_, .tok e hr he hc2, by simp [hk, Tok.kt]⟩

/-- The tokens of a text, written one behind the other with blanks between. -/
def writeAll (ts : List Tok) : List UInt8 := ts.flatMap fun t => 32 :: writeV t.kind t.text

/-- A token that is the first of some text. -/
theorem chain_written {l : List UInt8} {li co : Nat} {ts : List Tok} (h : Chain l li co ts) : ∀ li2 co2, ∃ ts2, Chain (writeAll ts) li2 co2 ts2 ∧ ts2.map Tok.kt = ts.map Tok.kt := by
  induction ts generalizing l li co with
  | nil => exact (chain_none h).elim
  | cons a0 ts ih0 =>
    have hw := chain_ways h
    clear h
    rcases hw with ⟨rfl, li', co', h, rfl⟩ | ⟨r, t, rest, li', co', k, h, hr, he, rfl, hc⟩
    · intro li2 co2
      exact ⟨_, .fin (li' := li2) (co' := co2 + 1) (by simp [writeAll, writeV, skipV]), rfl⟩
    · have ih := ih0 hc
      intro li2 co2
      obtain ⟨y, hy⟩ : ∃ y, writeAll ts = 32 :: y := by
        obtain ⟨a1, ts1, e1⟩ := chain_cons hc
        rw [e1]
        exact ⟨_, rfl⟩
      have hre := read_again he 32 (.inr rfl) y
      have hne : writeV k t ++ 32 :: y ≠ [] := by simp
      obtain ⟨b, s, hbs, hnb⟩ : ∃ b s, writeV k t ++ 32 :: y = b :: s ∧ (b ≠ 10 ∧ b ≠ 32 ∧ b ≠ 9 ∧ b ≠ 13 ∧ b ≠ 35) := by
        cases hw : writeV k t ++ 32 :: y with
        | nil => exact absurd hw hne
        | cons b s =>
          refine ⟨b, s, rfl, ?_⟩
          rw [hw] at hre
          have hrw := readV_ways hre
          obtain ⟨b', r', e, hways⟩ := hrw
          injection e with e1 e2
          subst e1 e2
          rcases hways with ⟨hb, _⟩ | ⟨_, hd, _⟩ | ⟨hb, _⟩ | ⟨_, _, _, h0, _⟩
          · refine ⟨?_, ?_, ?_, ?_, ?_⟩ <;> (intro hh; subst hh; revert hb; decide)
          · refine ⟨?_, ?_, ?_, ?_, ?_⟩ <;> (intro hh; subst hh; revert hd; decide)
          · subst hb; decide
          · refine ⟨?_, ?_, ?_, ?_, ?_⟩ <;> (intro hh; subst hh; revert h0; cases s <;> simp [signV, twoV, oneV])
      have hsk : skipV false (32 :: (writeV k t ++ 32 :: y)) li2 co2 = (writeV k t ++ 32 :: y, li2, co2 + 1) := by
        rw [skipV, if_neg (by decide), if_pos (.inl rfl), hbs]
        exact skip_stay hnb
      have e : writeAll (⟨k, t, li', co'⟩ :: ts) = 32 :: (writeV k t ++ 32 :: y) := by
        rw [← hy]; simp [writeAll]
      obtain ⟨ts2, hc2, hk⟩ := ih li2 (co2 + 1 + ((writeV k t ++ 32 :: y).length - (32 :: y).length))
      rw [hy] at hc2
      rw [e]
      exact ⟨_, .tok hsk hne hre hc2, by simp [hk, Tok.kt]⟩
end Go.Proofs.YtgoppgopnhmhfaaDoor
