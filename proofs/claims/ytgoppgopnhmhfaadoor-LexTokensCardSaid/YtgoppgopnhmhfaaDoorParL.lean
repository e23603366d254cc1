/- word.Parse by a contract: the number that the text says, and true, or 0 and false; the world is as it was. -/
import Derived.Test.YtgoppgopnhmhfaaDoorBytes
import Derived.Test.YtgoppgopnhmhfaaDoorParV
import Derived.LoopTactic
namespace Go.Proofs.YtgoppgopnhmhfaaDoor
open Go.RowKit

set_option maxRecDepth 100000 in
theorem parse_c (s : ByteArray) (hs : s.size ≤ 9223372036854775807) (w : World) : Calls Tryd.prog 36 #[.string s] w fun e w' => e = .returned (parsed (parseV s.data.toList)) ∧ w' = w := by
  by_cases hz : s.size = 0
  · have he : s.toList.isEmpty = true := by rw [toList_isEmpty]; simp [hz]
    rw [parseV_empty hz]
    go_enter Tryd.func36, Tryd.ntmps36
    go_wp2
    go_ret2
    exact ⟨rfl, rfl⟩
  have h0 : 0 < s.size := by omega
  have he : s.toList.isEmpty = false := by rw [toList_isEmpty]; simp [hz]
  by_cases hn : (s[0].toNat : Int) = 48 ∧ 1 < s.size
  · rw [parseV_nought h0 hn.1 hn.2]
    obtain ⟨hn1, hn2⟩ := hn
    go_enter Tryd.func36, Tryd.ntmps36
    go_wp2
    go_ret2
    exact ⟨rfl, rfl⟩
  rw [parseV_go h0 hn]
  have hd : ((s[0].toNat : Int) = 48 ∧ s.size ≤ 1) ∨ ¬ (s[0].toNat : Int) = 48 := by omega
  clear hn hz
  rcases hd with ⟨hd, hd1⟩ | hd
  all_goals
    go_enter Tryd.func36, Tryd.ntmps36
    go_wp2
    go_loop [4, 21] (fun n i => ∃ (k : Nat) (m : Int), k ≤ s.size ∧ i = .int .i64 k ∧ n = .int .i64 m ∧ 0 ≤ m ∧ m ≤ 9223372036854775807 ∧ parseGo s.data.toList 0 = parseGo (s.data.toList.drop k) m) (fun _ i => s.size - (intOf i).toNat)
    case atStart => exact ⟨0, 0, Nat.zero_le _, rfl, rfl, by omega, by omega, rfl⟩
    case round =>
      obtain ⟨k, m, hk, rfl, rfl, hm0, hm1, hgo⟩ := hrel
      have HG : Hid (parseGo s.data.toList 0 = parseGo (s.data.toList.drop k) m) := hgo
      clear hgo
      by_cases hkl : k < s.size
      · by_cases b1 : (s[k].toNat : Int) < 48
        · go_wp2
          go_ret2
          rw [HG.out, parseGo_bad hkl m (Or.inl b1)]
          exact ⟨rfl, rfl⟩
        by_cases b2 : 57 < (s[k].toNat : Int)
        · go_wp2
          go_ret2
          rw [HG.out, parseGo_bad hkl m (Or.inr b2)]
          exact ⟨rfl, rfl⟩
        by_cases b3 : (9223372036854775807 - ((s[k].toNat : Int) - 48)) / 10 < m
        · go_wp2
          go_ret2
          rw [HG.out, parseGo_over hkl m (by omega) b3]
          exact ⟨rfl, rfl⟩
        · go_wp2
          go_round
          case rel => exact ⟨k + 1, m * 10 + ((s[k].toNat : Int) - 48), by omega, by go_num, rfl, by omega, by omega, HG.out.trans (parseGo_on hkl m (by omega) b3)⟩
          case measure => simp [intOf]; omega
      · go_wp2
        go_ret2
        rw [HG.out, parseGo_end hkl m]
        exact ⟨rfl, rfl⟩
end Go.Proofs.YtgoppgopnhmhfaaDoor
