/- Strings are read as they were written; without a program in sight. -/
import Derived.Test.YtgoppgopnhmhfaaDoorLexG
namespace Go.Proofs.YtgoppgopnhmhfaaDoor

/-- A byte that a string may say. -/
def sayB (b : UInt8) : Prop := 32 ≤ b.toNat ∨ b = 9 ∨ b = 10

theorem str_quote (s : List UInt8) (hs : ∀ b ∈ s, sayB b) (acc rest : List UInt8) : strV (s.flatMap escV ++ 34 :: rest) acc = some (acc ++ s, rest) := by
  induction s generalizing acc with
  | nil => simp [strV_shut]
  | cons b r ih =>
    have ih' := ih (fun x hx => hs x (List.mem_cons_of_mem _ hx)) (acc ++ [b])
    rw [List.append_assoc, List.singleton_append] at ih'
    rw [← ih', List.flatMap_cons, List.append_assoc]
    unfold escV
    by_cases h1 : b = 92
    · subst h1
      rw [if_pos rfl]
      exact strV_some (by decide) _ _
    by_cases h2 : b = 34
    · subst h2
      rw [if_neg h1, if_pos rfl]
      exact strV_some (by decide) _ _
    by_cases h3 : b = 10
    · subst h3
      rw [if_neg h1, if_neg h2, if_pos rfl]
      exact strV_some (by decide) _ _
    by_cases h4 : b = 9
    · subst h4
      rw [if_neg h1, if_neg h2, if_neg h3, if_pos rfl]
      exact strV_some (by decide) _ _
    rw [if_neg h1, if_neg h2, if_neg h3, if_neg h4]
    have : 32 ≤ b.toNat := by
      rcases hs b (List.mem_cons_self ..) with h | h | h
      · exact h
      · exact absurd h h4
      · exact absurd h h3
    exact strV_on h2 (by omega) h1 _ _

theorem esc_len (s : List UInt8) : (s.flatMap escV).length ≤ 2 * s.length := by
  induction s with
  | nil => simp
  | cons b r ih =>
    rw [List.flatMap_cons, List.length_append, List.length_cons]
    have : (escV b).length ≤ 2 := by unfold escV; repeat' split
                                     all_goals simp
    omega

theorem quote_len (s : List UInt8) : (quoteV s).length ≤ 2 * s.length + 2 := by
  have := esc_len s
  rw [quoteV, List.length_cons, List.length_append, List.length_singleton]
  omega

theorem read_quote (s : List UInt8) (hs : ∀ b ∈ s, sayB b) (rest : List UInt8) : readV (quoteV s ++ rest) = if 256 < s.length then .bad 2 else .tok 4 s rest := by
  have h := str_quote s hs [] rest
  have e : quoteV s ++ rest = 34 :: (s.flatMap escV ++ 34 :: rest) := by simp [quoteV]
  rw [e]
  unfold readV
  have h1 : isLet 34 = false := by decide
  have h2 : isDig 34 = false := by decide
  simp only [h1, h2, h, Bool.false_eq_true, if_false, List.nil_append, if_true]

theorem skip_stay {b : UInt8} {r : List UInt8} {li co : Nat} (h : b ≠ 10 ∧ b ≠ 32 ∧ b ≠ 9 ∧ b ≠ 13 ∧ b ≠ 35) : skipV false (b :: r) li co = (b :: r, li, co) := by
  rw [skipV, if_neg h.1, if_neg (by simp [h.2.1, h.2.2.1, h.2.2.2.1]), if_neg h.2.2.2.2]

theorem lex_quote (s : List UInt8) (hs : ∀ b ∈ s, sayB b) (hl : s.length ≤ 5000) :
    lexV (quoteV s) = if 256 < s.length then .bad 2 1 1 else .toks [⟨4, s, 1, 1⟩, ⟨0, [], 1, 1 + (quoteV s).length⟩] := by
  have hq := quote_len s
  rw [lexV, if_neg (by omega)]
  have h := read_quote s hs []
  rw [List.append_nil] at h
  have hk : skipV false (quoteV s) 1 1 = (quoteV s, 1, 1) := skip_stay (by decide)
  have hne : quoteV s ≠ [] := by simp [quoteV]
  by_cases hb : 256 < s.length
  · rw [if_pos hb] at h ⊢
    exact lexGo_bad hk hne h
  · rw [if_neg hb] at h ⊢
    rw [lexGo_tok hk hne h (by omega)]
    obtain ⟨f, hf⟩ : ∃ f, (quoteV s).length = f + 1 := ⟨(quoteV s).length - 1, by have := List.length_pos_iff.2 hne; omega⟩
    have e : lexGo (quoteV s).length [] 1 (1 + ((quoteV s).length - ([] : List UInt8).length)) (0 + 1) = .toks [⟨0, [], 1, 1 + (quoteV s).length⟩] := by
      rw [hf]
      exact lexGo_end rfl
    rw [e]
    rfl
end Go.Proofs.YtgoppgopnhmhfaaDoor
