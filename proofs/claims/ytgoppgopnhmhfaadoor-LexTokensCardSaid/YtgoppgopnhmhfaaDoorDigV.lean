/- The number of a row of digits: without a program in sight. -/
import Derived.Test.YtgoppgopnhmhfaaDoorParV
namespace Go.Proofs.YtgoppgopnhmhfaaDoor

/-- The number of a row of digits, behind the number so far. -/
def val : List UInt8 → Int → Int
  | [], n => n
  | d :: r, n => val r (n * 10 + ((d.toNat : Int) - 48))

def Digit (d : UInt8) : Prop := 48 ≤ (d.toNat : Int) ∧ (d.toNat : Int) ≤ 57

theorem val_ge : ∀ (l : List UInt8) (n : Int), 0 ≤ n → (∀ d ∈ l, Digit d) → n ≤ val l n
  | [], n, _, _ => Int.le_refl n
  | d :: r, n, hn, hd => by
    have h := hd d (List.mem_cons_self ..)
    unfold Digit at h
    have := val_ge r (n * 10 + ((d.toNat : Int) - 48)) (by omega) (fun x hx => hd x (List.mem_cons_of_mem _ hx))
    rw [val]
    omega

theorem val_append : ∀ (l : List UInt8) (d : UInt8) (n : Int), val (l ++ [d]) n = val l n * 10 + ((d.toNat : Int) - 48)
  | [], _, _ => rfl
  | x :: r, d, n => by
    rw [List.cons_append, val, val, val_append r d]

theorem parseGo_some : ∀ (l : List UInt8) (n : Int), 0 ≤ n → (∀ d ∈ l, Digit d) → val l n ≤ 9223372036854775807 → parseGo l n = some (val l n)
  | [], _, _, _, _ => rfl
  | d :: r, n, hn, hd, hv => by
    have h := hd d (List.mem_cons_self ..)
    unfold Digit at h
    have hr : ∀ x ∈ r, Digit x := fun x hx => hd x (List.mem_cons_of_mem _ hx)
    rw [val] at hv ⊢
    have hg := val_ge r (n * 10 + ((d.toNat : Int) - 48)) (by omega) hr
    rw [parseGo, if_neg (by omega), if_neg (by omega)]
    exact parseGo_some r _ (by omega) hr hv

theorem parseGo_none : ∀ (l : List UInt8) (n : Int), 0 ≤ n → ((∃ d ∈ l, ¬ Digit d) ∨ (∀ d ∈ l, Digit d) ∧ 9223372036854775807 < val l n ∧ n ≤ 9223372036854775807) → parseGo l n = none
  | [], n, _, h => by
    rcases h with ⟨d, hd, _⟩ | ⟨_, h, h2⟩
    · cases hd
    · rw [val] at h
      omega
  | d :: r, n, hn, h => by
    rw [parseGo]
    by_cases hd : (d.toNat : Int) < 48 ∨ 57 < (d.toNat : Int)
    · rw [if_pos hd]
    rw [if_neg hd]
    by_cases ho : (9223372036854775807 - ((d.toNat : Int) - 48)) / 10 < n
    · rw [if_pos ho]
    rw [if_neg ho]
    refine parseGo_none r _ (by omega) ?_
    rcases h with ⟨x, hx, hnx⟩ | ⟨ha, hv, hm⟩
    · rcases List.mem_cons.1 hx with rfl | hx
      · exact absurd (show Digit x from ⟨by omega, by omega⟩) hnx
      · exact Or.inl ⟨x, hx, hnx⟩
    · rw [val] at hv
      exact Or.inr ⟨fun x hx => ha x (List.mem_cons_of_mem _ hx), hv, by omega⟩
end Go.Proofs.YtgoppgopnhmhfaaDoor
