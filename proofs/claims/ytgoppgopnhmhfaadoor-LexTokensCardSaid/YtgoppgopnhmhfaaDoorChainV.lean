/- A text's tokens one behind the other, as a relation; without a program in sight. -/
import Derived.Test.YtgoppgopnhmhfaaDoorQuoV
namespace Go.Proofs.YtgoppgopnhmhfaaDoor

/-- The text l, which begins at the line li and the column co, has these tokens. -/
def ChainT : List Tok → List UInt8 → Nat → Nat → Prop
  | [], _, _, _ => False
  | a :: ts, l, li, co => (ts = [] ∧ ∃ li' co', skipV false l li co = ([], li', co') ∧ a = ⟨0, [], li', co'⟩) ∨
    ∃ r t rest li' co' k, skipV false l li co = (r, li', co') ∧ r ≠ [] ∧ readV r = .tok k t rest ∧ a = ⟨k, t, li', co'⟩ ∧ ChainT ts rest li' (co' + (r.length - rest.length))

def Chain (l : List UInt8) (li co : Nat) (ts : List Tok) : Prop := ChainT ts l li co

theorem Chain.fin {l : List UInt8} {li co li' co' : Nat} (h : skipV false l li co = ([], li', co')) : Chain l li co [⟨0, [], li', co'⟩] := .inl ⟨rfl, li', co', h, rfl⟩

theorem Chain.tok {l r t rest : List UInt8} {li co li' co' : Nat} {k : Int} {ts : List Tok} (h : skipV false l li co = (r, li', co')) (hr : r ≠ []) (he : readV r = .tok k t rest)
    (hc : Chain rest li' (co' + (r.length - rest.length)) ts) : Chain l li co (⟨k, t, li', co'⟩ :: ts) := .inr ⟨r, t, rest, li', co', k, h, hr, he, rfl, hc⟩

theorem chain_none {l : List UInt8} {li co : Nat} (h : Chain l li co []) : False := h

theorem chain_ways {l : List UInt8} {li co : Nat} {a : Tok} {ts : List Tok} (h : Chain l li co (a :: ts)) : (ts = [] ∧ ∃ li' co', skipV false l li co = ([], li', co') ∧ a = ⟨0, [], li', co'⟩) ∨
    ∃ r t rest li' co' k, skipV false l li co = (r, li', co') ∧ r ≠ [] ∧ readV r = .tok k t rest ∧ a = ⟨k, t, li', co'⟩ ∧ Chain rest li' (co' + (r.length - rest.length)) ts := h

theorem chain_cons {l : List UInt8} {li co : Nat} {ts : List Tok} (h : Chain l li co ts) : ∃ a r, ts = a :: r := by
  cases ts with
  | nil => exact (chain_none h).elim
  | cons a r => exact ⟨a, r, rfl⟩

theorem pre_toks {a ts : List Tok} {x : Lx} (h : x.pre a = .toks ts) : ∃ l, x = .toks l ∧ ts = a ++ l := by
  cases x with
  | inl l => simp only [Lx.pre] at h; injection h with h; exact ⟨l, rfl, h.symm⟩
  | inr b => cases h

theorem chain_of_go (f : Nat) (l : List UInt8) (li co n : Nat) (hf : l.length < f) : ∀ ts, lexGo f l li co n = .toks ts → Chain l li co ts ∧ (n ≤ 8192 → ts.length + n ≤ 8193) := by
  refine lexGo_cases (P := fun f l li co n => ∀ ts, lexGo f l li co n = .toks ts → Chain l li co ts ∧ (n ≤ 8192 → ts.length + n ≤ 8193)) ?_ ?_ ?_ ?_ f l li co n hf
  · intro f l li co n li' co' h ts ht
    rw [lexGo_end h] at ht
    injection ht with ht
    subst ht
    exact ⟨.fin h, fun hn => by simp; omega⟩
  · intro f l li co n r li' co' e h hr he ts ht
    rw [lexGo_bad h hr he] at ht
    cases ht
  · intro f l li co r li' co' k t rest h hr he ts ht
    rw [lexGo_many h hr he] at ht
    cases ht
  · intro f l li co n r li' co' k t rest h hr he hn _ _ ih ts ht
    rw [lexGo_tok h hr he hn] at ht
    obtain ⟨l2, h2, rfl⟩ := pre_toks ht
    obtain ⟨c, hl⟩ := ih l2 h2
    refine ⟨.tok h hr he c, fun hn2 => ?_⟩
    have := hl (by omega)
    simp
    omega

theorem read_less {r t rest : List UInt8} {k : Int} (he : readV r = .tok k t rest) : rest.length < r.length := by
  obtain ⟨c, hc, hne⟩ := readV_rest he
  rw [hc, List.length_append]
  have := List.length_pos_iff.2 hne
  omega

theorem skip_le {l r : List UInt8} {c : Bool} {li co li' co' : Nat} (h : skipV c l li co = (r, li', co')) : r.length ≤ l.length := by
  have := skip_suffix c l li co
  rw [h] at this
  exact this.length_le

theorem chain_len {l : List UInt8} {li co : Nat} {ts : List Tok} (h : Chain l li co ts) : 1 ≤ ts.length ∧ ts.length ≤ l.length + 1 := by
  induction ts generalizing l li co with
  | nil => exact (chain_none h).elim
  | cons a0 ts ih0 =>
    have hw := chain_ways h
    clear h
    rcases hw with ⟨rfl, li', co', h, rfl⟩ | ⟨r, t, rest, li', co', k, h, hr, he, rfl, hc⟩
    · simp
    · have ih := ih0 hc
      have a1 := read_less he
      have a2 := skip_le h
      simp
      omega

theorem go_of_chain {l : List UInt8} {li co : Nat} {ts : List Tok} (h : Chain l li co ts) : ∀ f n, l.length < f → ts.length + n ≤ 8193 → lexGo f l li co n = .toks ts := by
  induction ts generalizing l li co with
  | nil => exact (chain_none h).elim
  | cons a0 ts ih0 =>
    have hw := chain_ways h
    clear h
    rcases hw with ⟨rfl, li', co', h, rfl⟩ | ⟨r, t, rest, li', co', k, h, hr, he, rfl, hc⟩
    · intro f n hf _
      obtain ⟨f, rfl⟩ : ∃ g, f = g + 1 := ⟨f - 1, by omega⟩
      exact lexGo_end h
    · have ih := ih0 hc
      intro f n hf hn
      obtain ⟨f, rfl⟩ : ∃ g, f = g + 1 := ⟨f - 1, by omega⟩
      have a1 := read_less he
      have a2 := skip_le h
      simp at hn
      have hts := (chain_len hc).1
      rw [lexGo_tok h hr he (by omega), ih f (n + 1) (by omega) (by omega)]
      rfl

theorem chain_of_lex {l : List UInt8} {ts : List Tok} (h : lexV l = .toks ts) : Chain l 1 1 ts ∧ l.length ≤ 65536 ∧ ts.length ≤ 8193 := by
  unfold lexV at h
  split at h
  · cases h
  · obtain ⟨c, hl⟩ := chain_of_go _ l 1 1 0 (Nat.lt_succ_self _) ts h
    exact ⟨c, by omega, by have := hl (by omega); omega⟩

theorem lex_of_chain {l : List UInt8} {ts : List Tok} (h : Chain l 1 1 ts) (hl : l.length ≤ 65536) (ht : ts.length ≤ 8193) : lexV l = .toks ts := by
  rw [lexV, if_neg (by omega)]
  exact go_of_chain h _ 0 (Nat.lt_succ_self _) (by omega)

theorem readV_bad {l : List UInt8} {e : Int} (h : readV l = .bad e) : e ≠ 0 := by
  unfold readV at h
  repeat' split at h
  all_goals first
    | (injection h with h; subst h; decide)
    | cases h

theorem lexGo_badE (f : Nat) (l : List UInt8) (li co n : Nat) (hf : l.length < f) : ∀ e a b, lexGo f l li co n = .bad e a b → e ≠ 0 := by
  refine lexGo_cases (P := fun f l li co n => ∀ e a b, lexGo f l li co n = .bad e a b → e ≠ 0) ?_ ?_ ?_ ?_ f l li co n hf
  · intro f l li co n li' co' h e a b ht
    rw [lexGo_end h] at ht
    cases ht
  · intro f l li co n r li' co' x h hr he e a b ht
    rw [lexGo_bad h hr he] at ht
    have h1 := lx_inj ht
    rw [← h1]
    exact readV_bad he
  · intro f l li co r li' co' k t rest h hr he e a b ht
    rw [lexGo_many h hr he] at ht
    have h1 := lx_inj ht
    rw [← h1]
    decide
  · intro f l li co n r li' co' k t rest h hr he hn _ _ ih e a b ht
    rw [lexGo_tok h hr he hn] at ht
    cases hx : lexGo f rest li' (co' + (r.length - rest.length)) (n + 1) with
    | inl l2 => rw [hx] at ht; cases ht
    | inr q =>
      obtain ⟨e2, a2, b2⟩ := q
      rw [hx] at ht
      have h1 := lx_inj (show Lx.bad e2 a2 b2 = Lx.bad e a b from ht)
      rw [← h1]
      exact ih _ _ _ hx

theorem lexV_bad {l : List UInt8} {e : Int} {a b : Nat} (h : lexV l = .bad e a b) : e ≠ 0 := by
  unfold lexV at h
  split at h
  · have h1 := lx_inj h
    rw [← h1]
    decide
  · exact lexGo_badE _ l 1 1 0 (Nat.lt_succ_self _) _ _ _ h

/-- The tokens hang on what is left behind the blanks alone. -/
theorem chain_congr {l l2 : List UInt8} {li co li2 co2 : Nat} {ts : List Tok} (h : Chain l2 li2 co2 ts) (e : skipV false l li co = skipV false l2 li2 co2) : Chain l li co ts := by
  cases ts with
  | nil => exact (chain_none h).elim
  | cons a ts =>
    have hw := chain_ways h
    clear h
    rcases hw with ⟨rfl, li', co', h, rfl⟩ | ⟨r, t, rest, li', co', k, h, hr, he, rfl, hc⟩
    · exact .fin (e.trans h)
    · exact .tok (e.trans h) hr he hc

/-! What a token is. -/
def KOk (k : Int) (t : List UInt8) : Prop :=
  (k = 1 ∧ nameV t = true) ∨ (k = 2 ∧ t ∈ wordsV) ∨ (k = 3 ∧ ∃ b r, t = b :: r ∧ isDig b = true) ∨ k = 4 ∨ (k = 5 ∧ 1 ≤ t.length ∧ t.length ≤ 2)

/-- The four ways of a token. -/
theorem readV_ways {l t rest : List UInt8} {k : Int} (h : readV l = .tok k t rest) : ∃ b r, l = b :: r ∧
    ((isLet b = true ∧ t = l.takeWhile inNm ∧ rest = l.dropWhile inNm ∧ t.length ≤ 32 ∧ k = if wordsV.contains t then 2 else 1) ∨
     (isLet b = false ∧ isDig b = true ∧ t = l.takeWhile isDig ∧ rest = l.dropWhile isDig ∧ (parseV t).isSome = true ∧ k = 3) ∨
     (b = 34 ∧ strV r [] = some (t, rest) ∧ t.length ≤ 256 ∧ k = 4) ∨
     (isLet b = false ∧ isDig b = false ∧ b ≠ 34 ∧ signV l ≠ 0 ∧ t = l.take (signV l) ∧ rest = l.drop (signV l) ∧ k = 5)) := by
  unfold readV at h
  split at h
  · cases h
  · rename_i b r
    refine ⟨b, r, rfl, ?_⟩
    split at h
    · rename_i hb
      split at h
      · cases h
      · obtain ⟨h1, h2, h3⟩ := rd_inj h
        exact .inl ⟨hb, h2.symm, h3.symm, by rw [← h2]; omega, by rw [← h2]; exact h1.symm⟩
    rename_i hb
    have hb' : isLet b = false := by simpa using hb
    split at h
    · rename_i hd
      split at h
      · cases h
      · rename_i v hp
        obtain ⟨h1, h2, h3⟩ := rd_inj h
        exact .inr (.inl ⟨hb', hd, h2.symm, h3.symm, by rw [← h2, hp]; rfl, h1.symm⟩)
    rename_i hd
    have hd' : isDig b = false := by simpa using hd
    split at h
    · rename_i hq
      split at h
      · cases h
      · rename_i said rest' hs
        split at h
        · cases h
        · obtain ⟨h1, h2, h3⟩ := rd_inj h
          subst h2 h3
          exact .inr (.inr (.inl ⟨hq, hs, by omega, h1.symm⟩))
    rename_i hq
    split at h
    · cases h
    · rename_i h0
      obtain ⟨h1, h2, h3⟩ := rd_inj h
      exact .inr (.inr (.inr ⟨hb', hd', hq, h0, h2.symm, h3.symm, h1.symm⟩))

theorem all_takeWhile {p : UInt8 → Bool} (l : List UInt8) : (l.takeWhile p).all p = true := by
  induction l with
  | nil => rfl
  | cons b r ih =>
    by_cases h : p b = true
    · rw [List.takeWhile_cons_of_pos h]; simp [h, ih]
    · rw [List.takeWhile_cons_of_neg h]; rfl

theorem signV_two (l : List UInt8) : signV l ≤ 2 := by
  match l with
  | [] => simp [signV]
  | [a] => simp only [signV]; split <;> simp
  | a :: b :: r => simp only [signV]; split <;> (try split) <;> simp

theorem readV_kind {l t rest : List UInt8} {k : Int} (h : readV l = .tok k t rest) : KOk k t := by
  obtain ⟨b, r, rfl, ⟨hb, ht, _, hl, hk⟩ | ⟨_, hb, ht, _, _, hk⟩ | ⟨_, _, _, hk⟩ | ⟨_, _, _, h0, ht, _, hk⟩⟩ := readV_ways h
  · have hn : inNm b = true := by simp [inNm, hb]
    have e : t = b :: r.takeWhile inNm := by rw [ht, List.takeWhile_cons_of_pos hn]
    by_cases hw : wordsV.contains t = true
    · rw [if_pos hw] at hk
      exact .inr (.inl ⟨hk, by simpa using hw⟩)
    · rw [if_neg hw] at hk
      refine .inl ⟨hk, ?_⟩
      have ha : t.all inNm = true := by rw [ht]; exact all_takeWhile _
      rw [e] at hl ha hw ⊢
      unfold nameV
      simp only [hb, ha, hl, decide_true, Bool.and_self, Bool.true_and]
      simpa using hw
  · exact .inr (.inr (.inl ⟨hk, b, r.takeWhile isDig, by rw [ht, List.takeWhile_cons_of_pos hb], hb⟩))
  · exact .inr (.inr (.inr (.inl hk)))
  · refine .inr (.inr (.inr (.inr ⟨hk, ?_, ?_⟩)))
    all_goals
      have a := signV_le (b :: r)
      have c := signV_two (b :: r)
      rw [ht, List.length_take]
      omega

theorem chain_kinds {l : List UInt8} {li co : Nat} {ts : List Tok} (h : Chain l li co ts) : ∃ ini L C, ts = ini ++ [⟨0, [], L, C⟩] ∧ ∀ t ∈ ini, KOk t.kind t.text := by
  induction ts generalizing l li co with
  | nil => exact (chain_none h).elim
  | cons a0 ts ih0 =>
    have hw := chain_ways h
    clear h
    rcases hw with ⟨rfl, li', co', h, rfl⟩ | ⟨r, t, rest, li', co', k, h, hr, he, rfl, hc⟩
    · exact ⟨[], _, _, rfl, by simp⟩
    · have ih := ih0 hc
      obtain ⟨ini, L, C, rfl, hk⟩ := ih
      refine ⟨_ :: ini, L, C, rfl, ?_⟩
      intro t ht
      rcases List.mem_cons.1 ht with rfl | ht
      · exact readV_kind he
      · exact hk t ht
end Go.Proofs.YtgoppgopnhmhfaaDoor
