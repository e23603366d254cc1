/- gradusref01.Parse by a contract: the same as word.Parse's. -/
import Derived.Test.YtgoppgopnhmhfaaDoorParL
import Derived.Test.YtgoppgopnhmhfaaDoorDigV
import Derived.LoopTactic
namespace Go.Proofs.YtgoppgopnhmhfaaDoor
open Go.RowKit

/-- So many digits and no more hold a number of at most so much. -/
def top (k : Nat) : Int := 10 ^ k - 1

theorem top_19 {k : Nat} (h : k ≤ 19) : top k ≤ 9999999999999999999 := by
  have : (10 : Nat) ^ k ≤ 10 ^ 19 := Nat.pow_le_pow_right (by decide) h
  have e : ((10 ^ k : Nat) : Int) = (10 : Int) ^ k := by simp
  unfold top
  omega

theorem top_18 {k : Nat} {m : Int} (h : m ≤ top k) (hk : k ≤ 18) : m ≤ 999999999999999999 := by
  have : (10 : Nat) ^ k ≤ 10 ^ 18 := Nat.pow_le_pow_right (by decide) hk
  have e : ((10 ^ k : Nat) : Int) = (10 : Int) ^ k := by simp
  unfold top at h
  omega

theorem top_succ {k : Nat} {m d : Int} (h : m ≤ top k) (hd : d ≤ 9) : 10 * m + d ≤ top (k + 1) := by
  have e : (10 : Int) ^ (k + 1) = 10 ^ k * 10 := Int.pow_succ 10 k
  unfold top at *
  omega

theorem take_at (s : ByteArray) (k : Nat) (hk : k < s.size) : s.data.toList.take (k + 1) = s.data.toList.take k ++ [s[k]] := by
  have h : k < s.data.toList.length := by rw [byteArray_len]; exact hk
  rw [List.take_succ_eq_append_getElem h]
  rfl

theorem val_take (s : ByteArray) (k : Nat) (hk : k < s.size) : val (s.data.toList.take (k + 1)) 0 = 10 * val (s.data.toList.take k) 0 + ((s[k].toNat : Int) - 48) := by
  rw [take_at s k hk, val_append]
  omega

theorem mem_byte (s : ByteArray) (k : Nat) (hk : k < s.size) : s[k] ∈ s.data.toList := by
  have h : k < s.data.toList.length := by rw [byteArray_len]; exact hk
  exact List.getElem_mem h

theorem digits_take (s : ByteArray) (k : Nat) (hk : k < s.size) (h : ∀ d ∈ s.data.toList.take k, Digit d) (hd : Digit s[k]) : ∀ d ∈ s.data.toList.take (k + 1), Digit d := by
  rw [take_at s k hk]
  intro d hm
  rcases List.mem_append.1 hm with hm | hm
  · exact h d hm
  · rw [List.mem_singleton.1 hm]
    exact hd

theorem val_long : ∀ (l : List UInt8) (n : Int), 0 ≤ n → (∀ d ∈ l, Digit d) → n * 10 ^ l.length ≤ val l n
  | [], n, _, _ => by simp [val]
  | d :: r, n, hn, hd => by
    have h := hd d (List.mem_cons_self ..)
    unfold Digit at h
    have ih := val_long r (n * 10 + ((d.toNat : Int) - 48)) (by omega) (fun x hx => hd x (List.mem_cons_of_mem _ hx))
    rw [val, List.length_cons, Int.pow_succ]
    have hp : (0 : Int) < 10 ^ r.length := Int.pow_pos (by decide)
    have : n * (10 ^ r.length * 10) ≤ (n * 10 + ((d.toNat : Int) - 48)) * 10 ^ r.length := by
      rw [Int.add_mul, Int.mul_comm (10 ^ r.length) 10, ← Int.mul_assoc]
      have := Int.mul_nonneg (show 0 ≤ (d.toNat : Int) - 48 by omega) (Int.le_of_lt hp)
      omega
    omega

/-- A text of twenty signs and more that has no nought ahead is no number. -/
theorem parse_long (s : ByteArray) (h0 : 0 < s.size) (hn : ¬ ((s[0].toNat : Int) = 48 ∧ 1 < s.size)) (hl : 19 < s.size) : parseV s.data.toList = none := by
  rw [parseV_go h0 hn]
  refine parseGo_none _ 0 (by omega) ?_
  by_cases ha : ∀ d ∈ s.data.toList, Digit d
  · refine Or.inr ⟨ha, ?_, by omega⟩
    have e := byteArray_drop s 0 h0
    rw [List.drop_zero] at e
    have hd := ha _ (mem_byte s 0 h0)
    unfold Digit at hd
    have hr : ∀ d ∈ s.data.toList.drop (0 + 1), Digit d := fun d hd => ha d (List.mem_of_mem_drop hd)
    obtain ⟨x, hx⟩ : ∃ x : Int, x = (s[0].toNat : Int) - 48 := ⟨_, rfl⟩
    have hv := val_long (s.data.toList.drop (0 + 1)) x (by omega) hr
    have hlen : (s.data.toList.drop (0 + 1)).length = s.size - 1 := by rw [List.length_drop, byteArray_len]
    rw [hlen] at hv
    have hp : (10 : Nat) ^ 19 ≤ 10 ^ (s.size - 1) := Nat.pow_le_pow_right (by decide) (by omega)
    have e2 : ((10 ^ (s.size - 1) : Nat) : Int) = (10 : Int) ^ (s.size - 1) := by simp
    have e3 : val s.data.toList 0 = val (s.data.toList.drop (0 + 1)) x := by
      rw [e, val, hx]
      simp
    rw [e3]
    have h1 : (1 : Int) ≤ x := by omega
    have := Int.mul_le_mul_of_nonneg_right h1 (show (0 : Int) ≤ 10 ^ (s.size - 1) by omega)
    omega
  · refine Or.inl ?_
    obtain ⟨d, hd⟩ := Classical.not_forall.1 ha
    obtain ⟨h1, h2⟩ := Classical.not_imp.1 hd
    exact ⟨d, h1, h2⟩

set_option maxRecDepth 100000 in
theorem parseR_c (s : ByteArray) (w : World) (hs : s.size ≤ 9223372036854775807) : Calls Tryd.prog 39 #[.string s] w fun e w' => e = .returned (parsed (parseV s.data.toList)) ∧ w' = w := by
  by_cases hz : s.size = 0
  · have hz1 : ((s.size : Int) == 0) = true := by simpa using hz
    rw [parseV_empty hz]
    go_enter Tryd.func39, Tryd.ntmps39
    go_wp2
    go_ret2
    exact ⟨rfl, rfl⟩
  have hz1 : ((s.size : Int) == 0) = false := by simpa using hz
  have h0 : 0 < s.size := by omega
  by_cases hn : (s[0].toNat : Int) = 48 ∧ 1 < s.size
  · rw [parseV_nought h0 hn.1 hn.2]
    obtain ⟨hn1, hn2⟩ := hn
    by_cases hl : 19 < s.size
    all_goals
      go_enter Tryd.func39, Tryd.ntmps39
      go_wp2
      go_ret2
      exact ⟨rfl, rfl⟩
  by_cases hl : 19 < s.size
  · rw [parse_long s h0 hn hl]
    clear hn
    go_enter Tryd.func39, Tryd.ntmps39
    go_wp2
    go_ret2
    exact ⟨rfl, rfl⟩
  have HV := hideP (parseV_go h0 hn)
  have hd : ((s[0].toNat : Int) = 48 ∧ s.size ≤ 1) ∨ ¬ (s[0].toNat : Int) = 48 := by omega
  clear hn hz
  rcases hd with ⟨hd, hd1⟩ | hd
  all_goals
    go_enter Tryd.func39, Tryd.ntmps39
    go_wp2
    go_loop [4, 5] (fun n i => ∃ (k : Nat) (m : Int), k ≤ s.size ∧ i = .int .i64 k ∧ n = .int .u64 m ∧ 0 ≤ m ∧ m ≤ top k ∧ m = val (s.data.toList.take k) 0 ∧ ∀ d ∈ s.data.toList.take k, Digit d) (fun _ i => s.size - (intOf i).toNat)
    case atStart => exact ⟨0, 0, Nat.zero_le _, rfl, rfl, by omega, by decide, rfl, by simp⟩
    case round =>
      obtain ⟨k, m, hk, rfl, rfl, hm0, hm1, hv, ha⟩ := hrel
      have HT := hideP hm1
      have HM := hideP hv
      have HA := hideP ha
      clear hm1 hv ha
      by_cases hkl : k < s.size
      · have hm2 : m ≤ 999999999999999999 := top_18 HT.out (by omega)
        by_cases b1 : (s[k].toNat : Int) < 48
        · go_wp2
          go_ret2
          rw [HV.out, parseGo_none _ 0 (by omega) (Or.inl ⟨s[k], mem_byte s k hkl, fun h => by unfold Digit at h; omega⟩)]
          exact ⟨rfl, rfl⟩
        by_cases b2 : 57 < (s[k].toNat : Int)
        · go_wp2
          go_ret2
          rw [HV.out, parseGo_none _ 0 (by omega) (Or.inl ⟨s[k], mem_byte s k hkl, fun h => by unfold Digit at h; omega⟩)]
          exact ⟨rfl, rfl⟩
        · go_wp2
          go_round
          case rel => exact ⟨k + 1, 10 * m + ((s[k].toNat : Int) - 48), by omega, by go_num, rfl, by omega, top_succ HT.out (by omega), by rw [val_take s k hkl, HM.out], digits_take s k hkl HA.out ⟨by omega, by omega⟩⟩
          case measure => simp [intOf]; omega
      · have hm2 : m ≤ 9999999999999999999 := Int.le_trans HT.out (top_19 (by omega))
        have e : s.data.toList.take k = s.data.toList := List.take_of_length_le (by rw [byteArray_len]; omega)
        rw [e] at HM HA
        by_cases ho : 9223372036854775807 < m
        · go_wp2
          go_ret2
          rw [HV.out, parseGo_none _ 0 (by omega) (Or.inr ⟨HA.out, by rw [← HM.out]; exact ho, by omega⟩)]
          exact ⟨rfl, rfl⟩
        · go_wp2
          go_ret2
          rw [HV.out, parseGo_some _ 0 (by omega) HA.out (by rw [← HM.out]; omega), ← HM.out]
          exact ⟨rfl, rfl⟩
end Go.Proofs.YtgoppgopnhmhfaaDoor
