/- What is put is read as it was, and no other bytes are read as it: without a program in sight. -/
import Derived.Test.YtdlkkflenphkfabDoorGetV
namespace Go.Proofs.YtdlkkflenphkfabDoor
open Go.RowKit

theorem get_groups (rest : List Int) : ∀ (f i : Nat) (u acc : Int), f + i = 9 → 0 ≤ u → u ≤ bnd i → (0 < i → 0 < u) →
    getGo (groups f u ++ rest) i acc = some (acc + u * 128 ^ i, i + (groups f u).length)
  | f, i, u, acc, hfi, hu0, hub, hpos => by
    by_cases hs : u < 128
    · rw [groups_small hs]
      have h9 : i = 9 → u ≤ 1 := by
        intro e
        rw [e, bnd_nine] at hub
        exact hub
      rw [List.singleton_append, getGo_last (by omega) h9 hs (by omega), show u % 128 = u by omega]
      rfl
    · have h9 : i ≠ 9 := by
        intro e
        rw [e, bnd_nine] at hub
        omega
      match f, hfi with
      | 0, hfi => omega
      | f + 1, hfi =>
        rw [groups_more hs, List.cons_append, getGo_more (by omega) (by omega), show (u % 128 + 128) % 128 = u % 128 by omega]
        rw [get_groups rest f (i + 1) (u / 128) _ (by omega) (by omega) (bnd_succ hub) (by omega)]
        have e : (128 : Int) ^ (i + 1) = 128 ^ i * 128 := Int.pow_succ 128 i
        have e2 : acc + u % 128 * 128 ^ i + u / 128 * 128 ^ (i + 1) = acc + u * 128 ^ i := by
          rw [e]
          have : u = 128 * (u / 128) + u % 128 := by omega
          generalize (128 : Int) ^ i = P
          generalize u / 128 = q at *
          generalize u % 128 = r at *
          subst this
          rw [Int.add_mul, Int.mul_comm P 128, ← Int.mul_assoc, Int.mul_comm q 128]
          omega
        rw [e2, List.length_cons]
        simp only [Option.some.injEq, Prod.mk.injEq, true_and]
        omega

theorem get_put (n : Int) (h0 : -9223372036854775808 ≤ n) (h1 : n ≤ 9223372036854775807) (rest : List Int) : getV (putV n ++ rest) = some (foldV n, (putV n).length) := by
  have h := get_groups rest 9 0 (foldV n) 0 (by omega) (foldV_lo n) (by rw [bnd_zero]; have := foldV_hi h0 h1; omega) (by omega)
  rw [getV, putV, h]
  simp

theorem bnd_back : ∀ i, i ≤ 8 → bnd (i + 1) * 128 + 127 = bnd i := by decide

theorem bnd_127 : ∀ i, i ≤ 8 → 127 ≤ bnd i := by decide

theorem groups_get : ∀ (zs : List Int) (i : Nat) (acc v : Int) (c : Nat), (∀ x ∈ zs, 0 ≤ x ∧ x ≤ 255) → getGo zs i acc = some (v, c) →
    i ≤ 9 ∧ ∃ u, v = acc + u * 128 ^ i ∧ 0 ≤ u ∧ u ≤ bnd i ∧ (0 < i → 0 < u) ∧ c = i + (groups (9 - i) u).length ∧ c - i ≤ zs.length ∧ zs.take (c - i) = groups (9 - i) u
  | [], _, _, _, _, _, h => by cases h
  | x :: r, i, acc, v, c, hb, h => by
    have hx := hb x (List.mem_cons_self ..)
    rw [getGo] at h
    by_cases h1 : 10 ≤ i ∨ (i = 9 ∧ 1 < x)
    · rw [if_pos h1] at h
      cases h
    rw [if_neg h1] at h
    refine ⟨by omega, ?_⟩
    by_cases h2 : 128 ≤ x
    · rw [if_pos h2] at h
      obtain ⟨hi, u, hv, hu0, hub, hup, hc, hcl, ht⟩ := groups_get r (i + 1) _ v c (fun y hy => hb y (List.mem_cons_of_mem _ hy)) h
      have hu := hup (by omega)
      have hbb := bnd_back i (by omega)
      have hm : (x % 128 + 128 * u) % 128 = x % 128 := by omega
      have hd : (x % 128 + 128 * u) / 128 = u := by omega
      have e9 : 9 - i = (9 - (i + 1)) + 1 := by omega
      refine ⟨x % 128 + 128 * u, ?_, by omega, by omega, by omega, ?_, ?_, ?_⟩
      · rw [hv, Int.pow_succ]
        generalize (128 : Int) ^ i = P
        generalize x % 128 = r
        rw [Int.add_mul, Int.mul_comm P 128, ← Int.mul_assoc, Int.mul_comm u 128]
        omega
      · rw [e9, groups_more (by omega), hd, List.length_cons, hc]
        omega
      · rw [List.length_cons]
        omega
      · have ec : c - i = (c - (i + 1)) + 1 := by omega
        rw [ec, List.take_succ_cons, ht, e9, groups_more (by omega), hm, hd]
        congr 1
        omega
    · rw [if_neg h2] at h
      by_cases h3 : x = 0 ∧ 0 < i
      · rw [if_pos h3] at h
        cases h
      rw [if_neg h3] at h
      simp only [Option.some.injEq, Prod.mk.injEq] at h
      obtain ⟨rfl, rfl⟩ := h
      have hbx : x ≤ bnd i := by
        by_cases h9 : i = 9
        · rw [h9, bnd_nine]
          omega
        · have := bnd_127 i (by omega)
          omega
      refine ⟨x, by rw [show x % 128 = x by omega], hx.1, hbx, by omega, ?_, ?_, ?_⟩
      · rw [groups_small (by omega)]
        rfl
      · simp
      · rw [groups_small (by omega), show i + 1 - i = 1 by omega]
        rfl

theorem put_get (zs : List Int) (u : Int) (c : Nat) (hb : ∀ x ∈ zs, 0 ≤ x ∧ x ≤ 255) (h : getV zs = some (u, c)) :
    1 ≤ c ∧ c ≤ zs.length ∧ 0 ≤ u ∧ u < 18446744073709551616 ∧ zs.take c = putV (unfoldV u) := by
  obtain ⟨_, u', hv, hu0, hub, _, hc, hcl, ht⟩ := groups_get zs 0 0 u c hb h
  have e : u' = u := by simpa using hv.symm
  subst e
  rw [bnd_zero] at hub
  have := groups_len 9 u'
  refine ⟨?_, by omega, hu0, by omega, ?_⟩
  · simp only [Nat.sub_zero, Nat.zero_add] at hc
    omega
  · simp only [Nat.sub_zero] at ht
    rw [ht, putV, fold_unfold hu0]
end Go.Proofs.YtdlkkflenphkfabDoor
