/- Where the tokens' function stands between two tokens; without a program in sight. -/
import Derived.Test.YtgoppgopnhmhfaaDoorLexG
namespace Go.Proofs.YtgoppgopnhmhfaaDoor

/-- Blanks are passed over, 'rest' is left at line li and column co, the tokens acc are there: the text's tokens are R. -/
def LexAt (R : Lx) (rest : List UInt8) (li co : Nat) (acc : List Tok) : Prop :=
  ∃ f l0 li0 co0, skipV false l0 li0 co0 = (rest, li, co) ∧ rest.length ≤ f ∧ R = (lexGo (f + 1) l0 li0 co0 acc.length).pre acc

theorem lexAt_start {l rest : List UInt8} {li co : Nat} (hl : l.length ≤ 65536) (h : skipV false l 1 1 = (rest, li, co)) : LexAt (lexV l) rest li co [] := by
  refine ⟨l.length, l, 1, 1, h, ?_, ?_⟩
  · have := skip_suffix false l 1 1
    rw [h] at this
    exact this.length_le
  · rw [lexV, if_neg (by omega), pre_nil]
    rfl

theorem lexAt_end {R : Lx} {li co : Nat} {acc : List Tok} (h : LexAt R [] li co acc) : R = .toks (acc ++ [⟨0, [], li, co⟩]) := by
  obtain ⟨f, l0, li0, co0, h1, _, h2⟩ := h
  rw [h2, lexGo_end h1]
  rfl

theorem lexAt_bad {R : Lx} {rest : List UInt8} {li co : Nat} {acc : List Tok} {e : Int} (h : LexAt R rest li co acc) (hr : rest ≠ []) (he : readV rest = .bad e) : R = .bad e li co := by
  obtain ⟨f, l0, li0, co0, h1, _, h2⟩ := h
  rw [h2, lexGo_bad h1 hr he]
  rfl

theorem lexAt_many {R : Lx} {rest t r2 : List UInt8} {li co : Nat} {acc : List Tok} {k : Int} (h : LexAt R rest li co acc) (hr : rest ≠ []) (he : readV rest = .tok k t r2) (hn : acc.length = 8192) : R = .bad 19 li co := by
  obtain ⟨f, l0, li0, co0, h1, _, h2⟩ := h
  rw [h2, hn, lexGo_many h1 hr he]
  rfl

theorem lexAt_tok {R : Lx} {rest t r2 r3 : List UInt8} {li co li3 co3 : Nat} {acc : List Tok} {k : Int} (h : LexAt R rest li co acc) (hr : rest ≠ []) (he : readV rest = .tok k t r2) (hn : acc.length ≠ 8192)
    (hs : skipV false r2 li (co + (rest.length - r2.length)) = (r3, li3, co3)) : LexAt R r3 li3 co3 (acc ++ [⟨k, t, li, co⟩]) := by
  obtain ⟨f, l0, li0, co0, h1, hf, h2⟩ := h
  obtain ⟨c, hc, hne⟩ := readV_rest he
  have hlt : r2.length < rest.length := by
    rw [hc, List.length_append]
    have := List.length_pos_iff.2 hne
    omega
  obtain ⟨g, rfl⟩ : ∃ g, f = g + 1 := ⟨f - 1, by omega⟩
  refine ⟨g, r2, li, _, hs, ?_, ?_⟩
  · have := skip_suffix false r2 li (co + (rest.length - r2.length))
    rw [hs] at this
    have := this.length_le
    simp at this
    omega
  · rw [h2, lexGo_tok h1 hr he hn, pre_pre, List.length_append]
    rfl
end Go.Proofs.YtgoppgopnhmhfaaDoor
