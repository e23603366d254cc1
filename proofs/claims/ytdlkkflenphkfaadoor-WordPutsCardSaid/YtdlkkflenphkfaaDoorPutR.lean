/- gradusref01.Put by a contract: a row of its own that holds what was handed in and the number's groups behind it; nothing that was there has changed. -/
import Derived.Test.YtdlkkflenphkfaaDoorRowC
import Derived.LoopTactic
namespace Go.Proofs.YtdlkkflenphkfaaDoor
open Go.RowKit

theorem foldR_neg {n : Int} (hn : n < 0) : (-1 - n) * 2 + 1 = foldV n := by
  rw [foldV, if_pos hn]
  omega

set_option maxRecDepth 100000 in
set_option maxHeartbeats 400000 in
theorem putR_c (ao : Option Addr) (len cap : Nat) (zs : List Int) (hl : zs.length = len) (n : Int) (hn0 : -9223372036854775808 ≤ n) (hn1 : n ≤ 9223372036854775807) (hlen : len ≤ 140737488351232) (w : World)
    (hnone : ao = none → len = 0 ∧ cap = 0) (hsrc : ∀ ad, ao = some ad → ∀ j u, (bv zs)[j]? = some u → w.cell? (ad.add j) = some u) :
    Calls Tryd.prog 19 #[.slice ao len cap, .int .i64 n] w fun e w' => ∃ v, e = .returned v ∧ w'.ownsRow w.heap.size 5 1 v (len + (putV n).length) (bv zs ++ bv (putV n)) ∧ Below w.heap.size w w' := by
  obtain ⟨i0, hi, hz0, hz1, hz2⟩ := info_parts info_byte
  have HL := hideP hl
  have HN := hideP hnone
  have HS := hideP hsrc
  clear hl hnone hsrc
  have hf0 := foldV_lo n
  have hf1 := foldV_hi hn0 hn1
  have two : (n < 0 ∧ (-1 - n) * 2 + 1 = foldV n) ∨ (0 ≤ n ∧ n * 2 = foldV n) := by
    by_cases h : n < 0
    · exact Or.inl ⟨h, foldR_neg h⟩
    · exact Or.inr ⟨by omega, fold_nonneg h⟩
  rcases two with ⟨hs, he⟩ | ⟨hs, he⟩
  all_goals
    go_enter Tryd.func19, Tryd.ntmps19
    go_wp2_with (at_builtin; refine wpList_append_any _ rfl (.const (.slice none 0 0)) (.tmp 7) 34 rfl w.heap.size 5 i0 (.int .u8 0) 1 Tryd.underlying34 hi hz0 hz1 hz2 rfl (.slice none 0 0) 0 [] rfl (World.ownsRow_nil _ _ _ _) ao len cap (bv zs) rfl (by rw [bv_len]; exact HL.out) HN.out HS.out (bv_one _) (by unfold maxLen; omega) (by omega) (Nat.le_refl _) ?_)
    intro v1 w1 hown1 hgrow1
    have hB1 : Below w.heap.size w w1 := (Below.refl _ w).grown hgrow1 (Nat.le_refl _) (by intro k hk; cases hk)
    have hown1' : w1.ownsRow w.heap.size 5 1 v1 (len + 0) (bv zs ++ bv []) := by simpa [bv] using hown1
    have HO := hideP hown1'
    clear hown1 hgrow1 hown1'
    go_wp2
    go_loopw [5, 6] (fun out rest wr => ∃ (k : Nat) (u : Int) (pre : List Int), k ≤ 9 ∧ rest = .int .u64 u ∧ 0 ≤ u ∧ u ≤ bnd k ∧ u < 18446744073709551616 ∧ pre.length = k ∧ putV n = pre ++ groups (9 - k) u ∧
        wr.ownsRow w.heap.size 5 1 out (len + k) (bv zs ++ bv pre) ∧ Below w.heap.size w wr) (fun _ r _ => (intOf r).toNat)
    case atStart => exact ⟨0, foldV n, [], by omega, rfl, hf0, by rw [bnd_zero]; omega, hf1, rfl, rfl, HO.out, hB1⟩
    case round =>
      obtain ⟨k, u, pre, hk, rfl, hu0, hub, hu1, hpl, hput, hown, hB⟩ := hrel
      have HP := hideP hpl
      have HT := hideP hput
      have HU := hideP hub
      clear hpl hput hub HO hB1
      have hsz := hB.size
      by_cases hs : u < 128
      · go_wp2_with (at_builtin; refine wpList_append_own _ rfl (.tmp 30) (.tmp 33) 34 rfl w.heap.size 5 i0 (.int .u8 0) 1 1 Tryd.underlying34 hi hz0 hz1 hz2 rfl (by decide) _ (len + k) (bv zs ++ bv pre) rfl (hown.alloc _) ⟨wr.heap.size, 0, none⟩ 1 1 [.int .u8 u] rfl rfl (cell_new1 wr u 5) (one_cell u) (by unfold maxLen; omega) (by omega) (by simp; omega) ?_)
        intro v' w' hown' hgrow _
        have hB' : Below w.heap.size w w' := (hB.alloc hsz _).grown hgrow (by simp; omega) (by intro j hj; exact (hown.lt j hj).1)
        have R := hideP (put_last HP.out HT.out hs)
        have HO := hideP hown'
        clear hgrow hown hB hown'
        go_wp2
        go_ret
        refine ⟨v', rfl, ?_, hB'⟩
        rw [R.out.1, R.out.2]
        have h := HO.out
        simpa [List.append_assoc, Nat.add_assoc] using h
      · go_wp2_with (at_builtin; refine wpList_append_own _ rfl (.tmp 21) (.tmp 26) 34 rfl w.heap.size 5 i0 (.int .u8 0) 1 1 Tryd.underlying34 hi hz0 hz1 hz2 rfl (by decide) _ (len + k) (bv zs ++ bv pre) rfl (hown.alloc _) ⟨wr.heap.size, 0, none⟩ 1 1 [.int .u8 (u % 128 + 128)] rfl rfl (cell_new1 wr (u % 128 + 128) 5) (one_cell (u % 128 + 128)) (by unfold maxLen; omega) (by omega) (by simp; omega) ?_)
        intro v' w' hown' hgrow _
        have hB' : Below w.heap.size w w' := (hB.alloc hsz _).grown hgrow (by simp; omega) (by intro j hj; exact (hown.lt j hj).1)
        have R := hideP (put_next hk HU.out HP.out HT.out (by omega))
        have HO := hideP hown'
        clear hgrow hown hB hown'
        go_wp2
        go_roundw
        case rel =>
          refine ⟨k + 1, u / 128, pre ++ [u % 128 + 128], R.out.1, rfl, by omega, R.out.2.2.2, by omega, R.out.2.1, R.out.2.2.1, ?_, hB'⟩
          rw [bv_append]
          have h := HO.out
          simpa [List.append_assoc, bv, Nat.add_assoc] using h
        case measure => simp [intOf]; omega
end Go.Proofs.YtdlkkflenphkfaaDoor
