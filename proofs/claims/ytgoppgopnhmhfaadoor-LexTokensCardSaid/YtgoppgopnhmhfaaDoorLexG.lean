/- The steps of the tokens' function, and the chapter's examples; without a program in sight. -/
import Derived.Test.YtgoppgopnhmhfaaDoorLexV
import Derived.KernelRfl
namespace Go.Proofs.YtgoppgopnhmhfaaDoor

theorem lexGo_end {f n li co li' co' : Nat} {l : List UInt8} (h : skipV false l li co = ([], li', co')) : lexGo (f + 1) l li co n = .toks [⟨0, [], li', co'⟩] := by
  rw [lexGo, h]

theorem lexGo_bad {f n li co li' co' : Nat} {l r : List UInt8} {e : Int} (h : skipV false l li co = (r, li', co')) (hr : r ≠ []) (he : readV r = .bad e) : lexGo (f + 1) l li co n = .bad e li' co' := by
  cases r with
  | nil => exact absurd rfl hr
  | cons b r => rw [lexGo, h]; simp only; rw [he]

theorem lexGo_many {f li co li' co' : Nat} {l r t rest : List UInt8} {k : Int} (h : skipV false l li co = (r, li', co')) (hr : r ≠ []) (he : readV r = .tok k t rest) : lexGo (f + 1) l li co 8192 = .bad 19 li' co' := by
  cases r with
  | nil => exact absurd rfl hr
  | cons b r => rw [lexGo, h]; simp only; rw [he]; simp

theorem lexGo_tok {f n li co li' co' : Nat} {l r t rest : List UInt8} {k : Int} (h : skipV false l li co = (r, li', co')) (hr : r ≠ []) (he : readV r = .tok k t rest) (hn : n ≠ 8192) :
    lexGo (f + 1) l li co n = (lexGo f rest li' (co' + (r.length - rest.length)) (n + 1)).pre [⟨k, t, li', co'⟩] := by
  cases r with
  | nil => exact absurd rfl hr
  | cons b r => rw [lexGo, h]; simp only; rw [he]; simp [hn]

/-- A case for each way of a step. -/
theorem lexGo_cases {P : Nat → List UInt8 → Nat → Nat → Nat → Prop}
    (h1 : ∀ f l li co n li' co', skipV false l li co = ([], li', co') → P (f + 1) l li co n)
    (h2 : ∀ f l li co n r li' co' e, skipV false l li co = (r, li', co') → r ≠ [] → readV r = .bad e → P (f + 1) l li co n)
    (h3 : ∀ f l li co r li' co' k t rest, skipV false l li co = (r, li', co') → r ≠ [] → readV r = .tok k t rest → P (f + 1) l li co 8192)
    (h4 : ∀ f l li co n r li' co' k t rest, skipV false l li co = (r, li', co') → r ≠ [] → readV r = .tok k t rest → n ≠ 8192 → r.length ≤ l.length → rest.length < r.length → P f rest li' (co' + (r.length - rest.length)) (n + 1) → P (f + 1) l li co n)
    (f : Nat) (l : List UInt8) (li co n : Nat) (hf : l.length < f) : P f l li co n := by
  induction f generalizing l li co n with
  | zero => omega
  | succ f ih =>
    obtain ⟨r, li', co', h⟩ : ∃ r li' co', skipV false l li co = (r, li', co') := ⟨_, _, _, rfl⟩
    by_cases hr : r = []
    · subst hr; exact h1 f l li co n li' co' h
    cases he : readV r with
    | inl e => exact h2 f l li co n r li' co' e h hr he
    | inr q =>
      obtain ⟨k, t, rest⟩ := q
      by_cases hn : n = 8192
      · subst hn; exact h3 f l li co r li' co' k t rest h hr he
      have a1 : r.length ≤ l.length := by
        have := skip_suffix false l li co
        rw [h] at this
        exact this.length_le
      obtain ⟨c, hc, hne⟩ := readV_rest he
      have a2 : rest.length < r.length := by
        rw [hc, List.length_append]
        have := List.length_pos_iff.2 hne
        omega
      exact h4 f l li co n r li' co' k t rest h hr he hn a1 a2 (ih rest li' _ (n + 1) (by omega))

theorem awakeV1 : lexV [108, 101, 116, 32, 120, 49, 32, 61, 32, 49, 50, 59] = .toks [⟨2, [108, 101, 116], 1, 1⟩, ⟨1, [120, 49], 1, 5⟩, ⟨5, [61], 1, 8⟩, ⟨3, [49, 50], 1, 10⟩, ⟨5, [59], 1, 12⟩, ⟨0, [], 1, 13⟩] := by kernel_rfl
theorem awakeV2 : lexV [48, 48, 55] = .bad 3 1 1 := by kernel_rfl
theorem awakeV3 : lexV [34, 97] = .bad 4 1 1 := by kernel_rfl
theorem awakeV4 : lexV [63] = .bad 5 1 1 := by kernel_rfl
end Go.Proofs.YtgoppgopnhmhfaaDoor
