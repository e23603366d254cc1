/- word.Get by a contract. -/
import Derived.Test.YtdlkkflenphkfabDoorFns
import Derived.Test.YtdlkkflenphkfabDoorGetV
import Derived.LoopTactic
namespace Go.Proofs.YtdlkkflenphkfabDoor
open Go.RowKit

set_option maxRecDepth 100000 in
theorem get_c (b off len cap : Nat) (l : List Int) (hl : l.length = len) (hb : ∀ x ∈ l, 0 ≤ x ∧ x ≤ 255) (hlen : len ≤ 281474976710000) (w : World) (hc : ∀ i, i < len → w.cell? ⟨b, off + i, none⟩ = some (.int .u8 (l.getD i 0))) :
    Calls Tryd.prog 9 #[.slice (some ⟨b, off, none⟩) len cap] w fun e w' => e = .returned (gotten (getV l)) ∧ w' = w := by
  have HC := hideP hc
  have HL := hideP hl
  have HBy := hideP hb
  clear hc hl hb
  rcases Nat.lt_or_ge 10 len with hmin | hmin
  all_goals
    go_enter Tryd.func9, Tryd.ntmps9
    go_wp2
    go_loop [4, 9] (fun f i => ∃ (k : Nat) (u : Int), k ≤ len ∧ k ≤ 10 ∧ i = .int .i64 k ∧ f = .int .u64 u ∧ 0 ≤ u ∧ u < 128 ^ k ∧ u < 18446744073709551616 ∧ getV l = getGo (l.drop k) k u) (fun _ i => 10 - (intOf i).toNat)
    case atStart => exact ⟨0, 0, Nat.zero_le _, by omega, rfl, rfl, by omega, by decide, by omega, rfl⟩
    case round =>
      obtain ⟨k, u, hk, hk10, rfl, rfl, hu0, hu1, hu2, hgo⟩ := hrel
      have HG := hideP hgo
      have HU := hideP hu1
      clear hgo hu1
      by_cases hkl : k < len ∧ k < 10
      · obtain ⟨hkl, hk9⟩ := hkl
        have hcell := HC.out k hkl
        obtain ⟨x, hx⟩ : ∃ x, x = l.getD k 0 := ⟨_, rfl⟩
        rw [← hx] at hcell
        have hb := byte_at (show k < l.length by rw [HL.out]; exact hkl) HBy.out
        rw [← hx] at hb
        have HX := hideP (drop_at (show k < l.length by rw [HL.out]; exact hkl))
        rw [← hx] at HX
        obtain ⟨hb1, hb2⟩ := hb
        clear hx
        by_cases ht : k = 9 ∧ 1 < x
        · obtain ⟨ht1, ht2⟩ := ht
          have h9 : ((k : Int) == 9) = true := by simp; omega
          have HK := hideP ht1
          clear ht1
          go_wp2
          go_ret2
          rw [HG.out, HX.out, getGo_tenth HK.out ht2]
          exact ⟨rfl, rfl⟩
        obtain ⟨v, hor, hv, hv0, hv1, hv2⟩ := or_step u x k hu0 HU.out hb1 (by omega) (by omega)
        have HV := hideP hv
        have HV2 := hideP hv2
        clear hv hv2
        by_cases hx1 : 128 ≤ x
        · have h9 : ((k : Int) == 9) = false := by simp; omega
          have h8 : k < 9 := by omega
          clear ht
          go_wp2
          go_round
          case rel => exact ⟨k + 1, v, by omega, by omega, by go_num, rfl, hv0, HV2.out, hv1, by rw [HG.out, HX.out, HV.out]; exact getGo_more h8 hx1⟩
          case measure => simp [intOf]; omega
        have hk9b : (((k : Int) == 9) = true ∧ x ≤ 1) ∨ ((k : Int) == 9) = false := by
          by_cases h : k = 9
          · exact Or.inl ⟨by simp; omega, by omega⟩
          · exact Or.inr (by simp; omega)
        have HN := hideP (show k = 9 → x ≤ 1 by omega)
        clear ht
        by_cases hz : x = 0 ∧ 0 < k
        · obtain ⟨hz1, hz2⟩ := hz
          have hz3 : (x == 0) = true := by simpa using hz1
          have hz4 : x ≤ 0 := by omega
          have HZ := hideP hz1
          clear hz1
          rcases hk9b with ⟨h9, hx9⟩ | h9
          all_goals
            go_wp2
            go_ret2
            rw [HG.out, HX.out, getGo_nought hz2 HZ.out]
            exact ⟨rfl, rfl⟩
        have hzb : (x == 0) = false ∨ ((x == 0) = true ∧ k ≤ 0) := by
          by_cases h : x = 0
          · exact Or.inr ⟨by simp; omega, by omega⟩
          · exact Or.inl (by simp; omega)
        have R := hideP (show getV l = some (v, k + 1) by rw [HG.out, HX.out, HV.out]; exact getGo_last (by omega) HN.out (by omega) hz)
        clear hz
        rcases hk9b with ⟨h9, hx9⟩ | h9
        all_goals
          rcases hzb with hz | ⟨hz, hz2⟩
          all_goals
            go_wp2_with (go_at_call 17; refine (unfold_c v hv0 hv1 _).mono ?_; rintro e w' ⟨rfl, rfl⟩)
            go_ret2
            rw [R.out]
            exact ⟨rfl, rfl⟩
      · go_wp2
        go_ret2
        rw [HG.out, getGo_end (drop_end HL.out hkl)]
        exact ⟨rfl, rfl⟩
end Go.Proofs.YtdlkkflenphkfabDoor
