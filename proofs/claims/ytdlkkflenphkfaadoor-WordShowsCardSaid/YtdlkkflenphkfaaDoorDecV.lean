/- Numbers as digits, and digits as numbers: without a program in sight. -/
import Derived.Test.YtdlkkflenphkfaaDoorParV
import Derived.Lib.ItoaNum
import Derived.Lib.ItoaMem
namespace Go.Proofs.YtdlkkflenphkfaaDoor

/-- The number of a row of digits, behind the number so far. -/
def val : List UInt8 → Int → Int
  | [], n => n
  | d :: r, n => val r (n * 10 + ((d.toNat : Int) - 48))

def Digit (d : UInt8) : Prop := 48 ≤ (d.toNat : Int) ∧ (d.toNat : Int) ≤ 57

theorem val_ge : ∀ (l : List UInt8) (n : Int), 0 ≤ n → (∀ d ∈ l, Digit d) → n ≤ val l n
  | [], n, _, _ => Int.le_refl n
  | d :: r, n, hn, hd => by
    have h := hd d (List.mem_cons_self ..)
    unfold Digit at h
    have := val_ge r (n * 10 + ((d.toNat : Int) - 48)) (by omega) (fun x hx => hd x (List.mem_cons_of_mem _ hx))
    rw [val]
    omega

theorem val_append : ∀ (l : List UInt8) (d : UInt8) (n : Int), val (l ++ [d]) n = val l n * 10 + ((d.toNat : Int) - 48)
  | [], _, _ => rfl
  | x :: r, d, n => by
    rw [List.cons_append, val, val, val_append r d]

theorem parseGo_some : ∀ (l : List UInt8) (n : Int), 0 ≤ n → (∀ d ∈ l, Digit d) → val l n ≤ 9223372036854775807 → parseGo l n = some (val l n)
  | [], _, _, _, _ => rfl
  | d :: r, n, hn, hd, hv => by
    have h := hd d (List.mem_cons_self ..)
    unfold Digit at h
    have hr : ∀ x ∈ r, Digit x := fun x hx => hd x (List.mem_cons_of_mem _ hx)
    rw [val] at hv ⊢
    have hg := val_ge r (n * 10 + ((d.toNat : Int) - 48)) (by omega) hr
    rw [parseGo, if_neg (by omega), if_neg (by omega)]
    exact parseGo_some r _ (by omega) hr hv

theorem parseGo_none : ∀ (l : List UInt8) (n : Int), 0 ≤ n → ((∃ d ∈ l, ¬ Digit d) ∨ (∀ d ∈ l, Digit d) ∧ 9223372036854775807 < val l n ∧ n ≤ 9223372036854775807) → parseGo l n = none
  | [], n, _, h => by
    rcases h with ⟨d, hd, _⟩ | ⟨_, h, h2⟩
    · cases hd
    · rw [val] at h
      omega
  | d :: r, n, hn, h => by
    rw [parseGo]
    by_cases hd : (d.toNat : Int) < 48 ∨ 57 < (d.toNat : Int)
    · rw [if_pos hd]
    rw [if_neg hd]
    by_cases ho : (9223372036854775807 - ((d.toNat : Int) - 48)) / 10 < n
    · rw [if_pos ho]
    rw [if_neg ho]
    refine parseGo_none r _ (by omega) ?_
    rcases h with ⟨x, hx, hnx⟩ | ⟨ha, hv, hm⟩
    · rcases List.mem_cons.1 hx with rfl | hx
      · exact absurd (show Digit x from ⟨by omega, by omega⟩) hnx
      · exact Or.inl ⟨x, hx, hnx⟩
    · rw [val] at hv
      exact Or.inr ⟨fun x hx => ha x (List.mem_cons_of_mem _ hx), hv, by omega⟩

theorem digit_of (k : Nat) (h : k < 10) : Digit (UInt8.ofNat (48 + k)) ∧ ((UInt8.ofNat (48 + k)).toNat : Int) = 48 + k := by
  have e : (UInt8.ofNat (48 + k)).toNat = 48 + k := by
    rw [UInt8.toNat_ofNat']
    omega
  unfold Digit
  omega

theorem dec_facts (u : Nat) : (∀ d ∈ Lib.decDigits u, Digit d) ∧ val (Lib.decDigits u) 0 = u ∧ ∃ d r, Lib.decDigits u = d :: r ∧ ((d.toNat : Int) = 48 → u = 0 ∧ r = []) := by
  induction u using Nat.strongRecOn with
  | _ u ih =>
    rw [Lib.decDigits]
    by_cases h : u < 10
    · rw [dif_pos h]
      obtain ⟨h1, h2⟩ := digit_of u h
      refine ⟨fun d hd => ?_, ?_, _, _, rfl, fun h3 => ⟨by omega, rfl⟩⟩
      · rw [List.mem_singleton.1 hd]
        exact h1
      · rw [val, val, h2]
        omega
    · rw [dif_neg h]
      obtain ⟨h1, h2, d, r, h3, h4⟩ := ih (u / 10) (by omega)
      obtain ⟨g1, g2⟩ := digit_of (u % 10) (by omega)
      refine ⟨fun x hx => ?_, ?_, d, r ++ [UInt8.ofNat (48 + u % 10)], by rw [h3]; rfl, fun h5 => ?_⟩
      · rcases List.mem_append.1 hx with hx | hx
        · exact h1 x hx
        · rw [List.mem_singleton.1 hx]
          exact g1
      · rw [val_append, h2, g2]
        omega
      · have := h4 h5
        omega

theorem parse_itoa (n : Int) (h1 : n ≤ 9223372036854775807) : parseV (Lib.itoa n) = if n < 0 then none else some n := by
  by_cases hn : n < 0
  · rw [if_pos hn, Lib.itoa, if_pos hn]
    rw [parseV, if_neg (by rintro ⟨h, _⟩; revert h; decide), parseGo, if_pos (by decide)]
  · rw [if_neg hn, Lib.itoa, if_neg hn]
    obtain ⟨g1, g2, d, r, g3, g4⟩ := dec_facts n.toNat
    have e : parseV (Lib.decDigits n.toNat) = parseGo (Lib.decDigits n.toNat) 0 := by
      rw [g3, parseV, if_neg]
      rintro ⟨h, h2⟩
      exact h2 (g4 h).2
    rw [e, parseGo_some _ 0 (by omega) g1 (by rw [g2]; omega), g2]
    congr 1
    omega
end Go.Proofs.YtdlkkflenphkfaaDoor
