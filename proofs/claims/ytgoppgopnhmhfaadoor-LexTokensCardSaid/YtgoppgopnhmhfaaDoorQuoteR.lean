/- gradusref02.Quote by a contract. -/
import Derived.Test.YtgoppgopnhmhfaaDoorQuote
namespace Go.Proofs.YtgoppgopnhmhfaaDoor
open Go.RowKit

theorem str_add (T U : ByteArray) : (T ++ U).data.toList = T.data.toList ++ U.data.toList := by simp
theorem str_addS (T U : ByteArray) : (T ++ U).size = T.size + U.size := by simp [ByteArray.size_append]

theorem extract_one {S : ByteArray} {k : Nat} (hk : k < S.size) : (S.extract k (k + 1)).data.toList = [S[k]] := by
  rw [extract_eq, Nat.add_sub_cancel_left, byteArray_drop S k hk]
  rfl

theorem extract_oneS {S : ByteArray} {k : Nat} (hk : k < S.size) : (S.extract k (k + 1)).size = 1 := by
  rw [← byteArray_len, extract_one hk]
  rfl

set_option maxHeartbeats 4000000 in
set_option maxRecDepth 100000 in
theorem quoteR_c (S : ByteArray) (hS : S.size ≤ 65536) (w : World) : Calls Tryd.prog 18 #[.string S] w fun e w' => e = .returned (.string ⟨(quoteV S.data.toList).toArray⟩) ∧ w' = w := by
  obtain ⟨Q, hQ⟩ : ∃ Q, Q = quoteV S.data.toList := ⟨_, rfl⟩
  rw [← hQ]
  have HQ := hideP hQ
  clear hQ
  go_enter Tryd.func18, Tryd.ntmps18
  go_wp2
  go_loop [3, 4] (fun v i => ∃ (k : Nat) (T : ByteArray), k ≤ S.size ∧ i = .int .i64 k ∧ v = .string T ∧ Hid (T.data.toList = qV S k) ∧ T.size ≤ 2 * k + 1) (fun _ i => S.size - (intOf i).toNat)
  case atStart => exact ⟨0, _, Nat.zero_le _, rfl, rfl, by rw [qV_zero]; rfl, by decide⟩
  case round =>
    obtain ⟨k, T, hk, rfl, rfl, hT, hTs⟩ := hrel
    by_cases hlt : k < S.size
    · have hst := hideP (qV_step hlt)
      have hx1 := hideP (extract_one hlt)
      have hx2 := extract_oneS hlt
      have l1 : (k : Int) + 1 ≤ (S.size : Int) := by omega
      have l2 : (k : Int) ≤ (k : Int) + 1 := by omega
      have n : ∀ c : UInt8, S[k] ≠ c → ((S[k].toNat : Int) == (c.toNat : Int)) = false := fun c h => by
        simp only [beq_eq_false_iff_ne, ne_eq]
        intro e
        exact h (UInt8.toNat_inj.1 (by omega))
      have y : ∀ c : UInt8, S[k] = c → ((S[k].toNat : Int) == (c.toNat : Int)) = true := fun c h => by rw [h]; simp
      have n92 := n 92
      have n34 := n 34
      have n10 := n 10
      have n9 := n 9
      have y92 := y 92
      have y34 := y 34
      have y10 := y 10
      have y9 := y 9
      simp only [UInt8.reduceToNat] at n92 n34 n10 n9 y92 y34 y10 y9
      clear n y
      have fin : ∀ U : ByteArray, U.data.toList = escV S[k] → U.size ≤ 2 → Hid ((T ++ U).data.toList = qV S (k + 1)) ∧ (T ++ U).size ≤ 2 * (k + 1) + 1 := fun U h1 h2 => ⟨hideP (by rw [str_add, hT.out, hst.out, h1]), by rw [str_addS]; omega⟩
      have FIN := hideP fin
      clear fin
      by_cases b1 : S[k] = 92
      · have p1 := y92 b1
        have E := hideP (FIN.out ({ data := #[92] } ++ S.extract k (k + 1)) (by rw [str_add, hx1.out, b1]; rfl) (by rw [str_addS, hx2]; decide))
        clear n92 n34 n10 n9 y92 y34 y10 y9 FIN b1
        go_wp2
        refine ⟨⟨k + 1, _, by omega, by go_num, rfl, ?_, ?_⟩, by simp [intOf]; omega⟩
        · rw [ByteArray.append_assoc]; exact E.out.1
        · rw [ByteArray.append_assoc]; exact E.out.2
      have p1 := n92 b1
      by_cases b2 : S[k] = 34
      · have p2 := y34 b2
        have E := hideP (FIN.out ({ data := #[92] } ++ S.extract k (k + 1)) (by rw [str_add, hx1.out, b2]; rfl) (by rw [str_addS, hx2]; decide))
        clear n92 n34 n10 n9 y92 y34 y10 y9 FIN b1 b2
        go_wp2
        refine ⟨⟨k + 1, _, by omega, by go_num, rfl, ?_, ?_⟩, by simp [intOf]; omega⟩
        · rw [ByteArray.append_assoc]; exact E.out.1
        · rw [ByteArray.append_assoc]; exact E.out.2
      have p2 := n34 b2
      by_cases b3 : S[k] = 10
      · have p3 := y10 b3
        have E := hideP (FIN.out { data := #[92, 110] } (by rw [b3]; rfl) (by decide))
        clear n92 n34 n10 n9 y92 y34 y10 y9 FIN b1 b2 b3
        go_wp2
        exact ⟨⟨k + 1, _, by omega, by go_num, rfl, E.out.1, E.out.2⟩, by simp [intOf]; omega⟩
      have p3 := n10 b3
      by_cases b4 : S[k] = 9
      · have p4 := y9 b4
        have E := hideP (FIN.out { data := #[92, 116] } (by rw [b4]; rfl) (by decide))
        clear n92 n34 n10 n9 y92 y34 y10 y9 FIN b1 b2 b3 b4
        go_wp2
        exact ⟨⟨k + 1, _, by omega, by go_num, rfl, E.out.1, E.out.2⟩, by simp [intOf]; omega⟩
      have p4 := n9 b4
      have E := hideP (FIN.out (S.extract k (k + 1)) (by rw [hx1.out, escV, if_neg b1, if_neg b2, if_neg b3, if_neg b4]) (by omega))
      clear n92 n34 n10 n9 y92 y34 y10 y9 FIN b1 b2 b3 b4
      go_wp2
      exact ⟨⟨k + 1, _, by omega, by go_num, rfl, E.out.1, E.out.2⟩, by simp [intOf]; omega⟩
    · have E : Hid ((T ++ { data := #[34] } : ByteArray) = ⟨Q.toArray⟩) := hideP (by
        have hkk : k = S.size := by omega
        have h1 : (T ++ { data := #[34] } : ByteArray).data.toList = Q := by
          rw [str_add, hT.out, HQ.out, hkk]
          exact qV_end S
        cases hh : (T ++ { data := #[34] } : ByteArray) with
        | mk d =>
          rw [hh] at h1
          rw [← h1])
      go_wp2
      go_ret
      rw [← E.out]
      exact ⟨rfl, rfl⟩
end Go.Proofs.YtgoppgopnhmhfaaDoor
