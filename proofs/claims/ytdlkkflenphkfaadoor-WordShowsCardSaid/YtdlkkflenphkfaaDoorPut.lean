/- word.Put by a contract: a new slice that holds what was handed in and the number's groups behind it; nothing that was there has changed. -/
import Derived.Test.YtdlkkflenphkfaaDoorFns
import Derived.Test.YtdlkkflenphkfaaDoorPutV
import Derived.LoopTactic
namespace Go.Proofs.YtdlkkflenphkfaaDoor
open Go.RowKit

theorem info_byte : (Tryd.prog.info? 5).map (fun i => (i.zero, i.size, i.bytes)) = some (some (.int .u8 0), 1, 1) := by kernel_rfl
theorem size_byte : (Tryd.prog.info? 5).map (·.size) = some 1 := by kernel_rfl

set_option maxRecDepth 100000 in
set_option maxHeartbeats 400000 in
theorem put_c (ao : Option Addr) (len cap : Nat) (cs : List Value) (hl : cs.length = len) (h1 : ∀ v ∈ cs, v.oneCell' = true) (n : Int) (hn0 : -9223372036854775808 ≤ n) (hn1 : n ≤ 9223372036854775807) (hlen : len ≤ 281474976710000) (w : World)
    (hsrc : ∀ w', Below w.heap.size w w' → 0 < cs.length → ∃ ad, ao = some ad ∧ ∀ j v, cs[j]? = some v → w'.cell? (ad.add j) = some v) :
    Calls Tryd.prog 18 #[.slice ao len cap, .int .i64 n] w fun e w' => e = .returned (.slice (some ⟨w.heap.size, 0, none⟩) (len + (putV n).length) (len + 10)) ∧
      w'.ownsRow w.heap.size 5 1 (.slice (some ⟨w.heap.size, 0, none⟩) (len + (putV n).length) (len + 10)) (len + (putV n).length) (cs ++ bv (putV n)) ∧ Below w.heap.size w w' := by
  obtain ⟨i0, hi, hz0, hz1, hz2⟩ := info_parts info_byte
  have hb2 : (i0.bytes : Int) * ((len + 10 : Nat) : Int) ≤ 281474976710656 := by rw [hz2]; omega
  have HS := hideP hsrc
  have HL := hideP hl
  clear hsrc hl
  go_enter Tryd.func18, Tryd.ntmps18
  go_wp2_with (at_make; refine wpList_make_spare w rfl (.tmp 8) (.tmp 11) 34 rfl 5 i0 (.int .u8 0) Tryd.underlying34 hi hz0 hz1 .i64 .i64 _ _ len (len + 10) rfl rfl rfl ?hC (by omega) hb2 (by omega) ?_)
  case hC => omega
  intro w1 cur hcur hheap hgrow
  have hB1 : Below w.heap.size w w1 := (Below.refl _ w).grown hgrow (Nat.le_refl _) (by intro k hk; cases hk)
  have HC := hideP hcur
  clear hcur hgrow
  go_wp2_with (refine wpList_copy_splice rfl (.tmp 13) (.tmp 14) 34 34 rfl 5 Tryd.underlying34 size_byte (some ⟨w.heap.size, 0, none⟩) ao len (len + 10) len cap rfl rfl w.heap.size 0 cur 5 hheap cs ?k1 ?k2 ?k3 h1 w.heap.size w hB1 (Nat.le_refl _) ?_)
  case k1 => rw [HL.out]; exact (Nat.min_self _).symm
  case k2 => exact fun h0 => HS.out w1 hB1 h0
  case k3 => rw [HL.out, HC.out]; omega
  intro w2 hH2 hB2
  have hown2 := owns_copied (Nat.le_refl w.heap.size) HC.out (by unfold maxLen; omega) HL.out (by omega) hH2.out
  clear hheap hB1 HC hH2 HS
  go_wp2_with (go_at_call 27; refine (fold_c n hn0 hn1 _).mono ?_; rintro e w' ⟨rfl, rfl⟩)
  have hf0 := foldV_lo n
  have hf1 := foldV_hi hn0 hn1
  go_loopw [5, 6, 18] (fun out rest i wr => ∃ (k : Nat) (u : Int) (pre : List Int), k ≤ 9 ∧ i = .int .i64 k ∧ rest = .int .u64 u ∧ 0 ≤ u ∧ u ≤ bnd k ∧ u < 18446744073709551616 ∧ pre.length = k ∧ putV n = pre ++ groups (9 - k) u ∧
      out = .slice (some ⟨w.heap.size, 0, none⟩) (len + k) (len + 10) ∧ wr.ownsRow w.heap.size 5 1 (.slice (some ⟨w.heap.size, 0, none⟩) (len + k) (len + 10)) (len + k) (cs ++ bv pre) ∧ Below w.heap.size w wr) (fun _ _ i _ => 10 - (intOf i).toNat)
  case atStart => exact ⟨0, foldV n, [], by omega, rfl, rfl, hf0, by rw [bnd_zero]; omega, hf1, rfl, rfl, rfl, by simpa [bv] using hown2, hB2⟩
  case round =>
    obtain ⟨k, u, pre, hk, rfl, rfl, hu0, hub, hu1, hpl, hput, rfl, hown, hB⟩ := hrel
    have HP := hideP hpl
    have HT := hideP hput
    have HU := hideP hub
    clear hpl hput hub hown2 hB2
    have hsz := hB.size
    by_cases hs : u < 128
    · go_wp2_with (at_builtin; refine wpList_append_fits _ rfl (.tmp 32) (.tmp 35) 34 rfl w.heap.size 5 i0 1 Tryd.underlying34 hi hz1 w.heap.size (len + k) (len + 10) (cs ++ bv pre) rfl (hown.alloc _) ⟨wr.heap.size, 0, none⟩ 1 1 [.int .u8 u] rfl rfl (cell_new1 wr u 5) (one_cell u) (by omega) ?_)
      intro w' hown' hgrow
      have hB' : Below w.heap.size w w' := (hB.alloc hsz _).grown hgrow (by simp; omega) (by intro j hj; cases hj; exact Nat.le_refl _)
      have R := hideP (put_last HP.out HT.out hs)
      have HO := hideP hown'
      clear hgrow hown hB hown'
      go_wp2
      go_ret
      rw [R.out.1, R.out.2]
      exact ⟨rfl, HO.out, hB'⟩
    · go_wp2_with (at_builtin; refine wpList_append_fits _ rfl (.tmp 22) (.tmp 27) 34 rfl w.heap.size 5 i0 1 Tryd.underlying34 hi hz1 w.heap.size (len + k) (len + 10) (cs ++ bv pre) rfl (hown.alloc _) ⟨wr.heap.size, 0, none⟩ 1 1 [.int .u8 (u % 128 + 128)] rfl rfl (cell_new1 wr (u % 128 + 128) 5) (one_cell (u % 128 + 128)) (by omega) ?_)
      intro w' hown' hgrow
      have hB' : Below w.heap.size w w' := (hB.alloc hsz _).grown hgrow (by simp; omega) (by intro j hj; cases hj; exact Nat.le_refl _)
      have R := hideP (put_next hk HU.out HP.out HT.out (by omega))
      have HO := hideP hown'
      clear hgrow hown hB hown'
      go_wp2
      go_roundw
      case rel => exact ⟨k + 1, u / 128, pre ++ [u % 128 + 128], R.out.1, by go_num, rfl, by omega, R.out.2.2.2, by omega, R.out.2.1, R.out.2.2.1, rfl, by rw [bv_append]; exact HO.out, hB'⟩
      case measure => simp [intOf]; omega
end Go.Proofs.YtdlkkflenphkfaaDoor
