/- The chapter's examples (graduslaw01.awake): the call returns true; nothing that was there has changed. -/
import Derived.Test.YtdlkkflenphkfaaDoorFns
import Derived.Test.YtdlkkflenphkfaaDoorPar
import Derived.Test.YtdlkkflenphkfaaDoorPut
import Derived.Test.YtdlkkflenphkfaaDoorItoa
import Derived.Laws.BytesArg
namespace Go.Proofs.YtdlkkflenphkfaaDoor
open Go.RowKit

/-- The library's table of powers of ten lies where strconv reads it. -/
def Tab (w : World) : Prop := Lib.TabIs Tryd.prog w "internal/strconv.uint64pow10" .u64 Lib.pow10Tab

theorem tab_glob : Tryd.prog.globalNamed "internal/strconv.uint64pow10" = some 0 := by kernel_rfl

theorem Tab.below {w w' : World} (h : Tab w) (hb : Below w.heap.size w w') : Tab w' := by
  have h0 := Lib.TabIs.cell h tab_glob 0 (by decide)
  exact var?_below hb tab_glob (World.block_lt_of_cell? w _ h0) h

theorem below_grow (w : World) (k : Nat) (os : Array Obj) : Below w.heap.size w (Sort.grow (w.drewN k) os) :=
  ⟨rfl, rfl, rfl, by simp, fun j hj => by
    rw [Sort.heap_grow_old _ _ (by simpa using hj)]
    rfl⟩

theorem show_c (n : Int) (h0 : -9223372036854775808 ≤ n) (h1 : n ≤ 9223372036854775807) (w : World) (htab : Tab w) :
    Calls Tryd.prog 14 #[.int .i64 n] w fun e w' => e = .returned (.string ⟨(Lib.itoa n).toArray⟩) ∧ Below w.heap.size w w' := by
  go_enter Tryd.func14, Tryd.ntmps14
  go_wp2_with fail
  refine (Tryd.strconv_Itoa n h0 h1 _ htab).mono ?_
  rintro e w' ⟨rfl, k, os, rfl⟩
  go_wp2
  go_ret
  exact ⟨rfl, below_grow _ _ _⟩

theorem itoa_m5 : Lib.itoa (-5) = [45, 53] := by
  simp [Lib.itoa, Lib.decDigits]

theorem conv_own {w : World} {B g n cap : Nat} {l : List Int} (h : w.ownsRow B 5 1 (.slice (some ⟨g, 0, none⟩) n cap) n (bv l)) :
    (convert 34 9 (.slice (some ⟨g, 0, none⟩) n cap)).run Tryd.prog w = .ok (.string (strOfNums l)) w := by
  have hl : l.length = n := by
    have := h.1
    rw [bv_len] at this
    omega
  refine run_convert_bytes_arg w 34 5 Tryd.underlying34 Tryd.underlying5 g 0 n cap l hl ?_ 9 Tryd.underlying9
  intro i hi
  have := h.cells (g := g) rfl i (.int .u8 (l.getD i 0)) (by simp [bv, List.getD, show i < l.length by omega])
  have hadd : (⟨g, 0, none⟩ : Addr).add i = ⟨g, 0 + i, none⟩ := by unfold Addr.add; split <;> simp_all
  rw [hadd] at this
  exact this

theorem awk1 (w : World) : Calls Tryd.prog 10 #[.int .i64 3, .int .i64 (-7), .int .i64 2] w fun e w' => e = .returned (.tuple #[.int .i64 (-3), .int .i64 0]) ∧ w' = w := by
  have h := bin_div (-7) 2 (by decide) w
  rw [show wrap64 (Int.tdiv (-7) 2) = -3 by unfold wrap64; decide] at h
  exact h

theorem awk2 (w : World) : Calls Tryd.prog 10 #[.int .i64 4, .int .i64 (-7), .int .i64 2] w fun e w' => e = .returned (.tuple #[.int .i64 (-1), .int .i64 0]) ∧ w' = w := by
  have h := bin_mod (-7) 2 (by decide) w
  rw [show Int.tmod (-7) 2 = -1 by decide] at h
  exact h

theorem awk4 (w : World) : Calls Tryd.prog 10 #[.int .i64 5, .int .i64 1, .int .i64 65] w fun e w' => e = .returned (.tuple #[.int .i64 2, .int .i64 0]) ∧ w' = w := by
  have h := bin_shl 1 65 w
  rw [show wrap64 (1 * 2 ^ ((65 : Int) % 64).toNat) = 2 by unfold wrap64; decide] at h
  exact h

theorem awk5 (w : World) : Calls Tryd.prog 10 #[.int .i64 6, .int .i64 (-8), .int .i64 1] w fun e w' => e = .returned (.tuple #[.int .i64 (-4), .int .i64 0]) ∧ w' = w := by
  have h := bin_shr (-8) 1 (by decide) (by decide) w
  rw [show (-8 : Int) / 2 ^ ((1 : Int) % 64).toNat = -4 by decide] at h
  exact h

theorem awk6 (w : World) : Calls Tryd.prog 12 #[.string { data := #[48, 48, 55] }] w fun e w' => e = .returned (.tuple #[.int .i64 0, .bool false]) ∧ w' = w :=
  parse_c { data := #[48, 48, 55] } (by decide) w

theorem awk7 (w : World) : Calls Tryd.prog 12 #[.string { data := #[48] }] w fun e w' => e = .returned (.tuple #[.int .i64 0, .bool true]) ∧ w' = w :=
  parse_c { data := #[48] } (by decide) w

theorem awk8 (w : World) : Calls Tryd.prog 16 #[.int .i64 255, .int .i64 8] w fun e w' => e = .returned (.int .i64 (-1)) ∧ w' = w := by
  have h := fit_c 255 8 w
  rw [show fitV 255 8 = -1 by unfold fitV wrap64; decide] at h
  exact h

theorem awk9 (w : World) : Calls Tryd.prog 16 #[.int .i64 128, .int .i64 8] w fun e w' => e = .returned (.int .i64 (-128)) ∧ w' = w := by
  have h := fit_c 128 8 w
  rw [show fitV 128 8 = -128 by unfold fitV wrap64; decide] at h
  exact h

theorem put_nil (n : Int) (hn0 : -9223372036854775808 ≤ n) (hn1 : n ≤ 9223372036854775807) (w : World) :
    Calls Tryd.prog 18 #[.slice none 0 0, .int .i64 n] w fun e w' => e = .returned (.slice (some ⟨w.heap.size, 0, none⟩) (putV n).length 10) ∧
      w'.ownsRow w.heap.size 5 1 (.slice (some ⟨w.heap.size, 0, none⟩) (putV n).length 10) (putV n).length (bv (putV n)) ∧ Below w.heap.size w w' := by
  have h := put_c none 0 0 [] rfl (by intro v hv; cases hv) n hn0 hn1 (by omega) w (by intro w' _ h; cases h)
  simpa using h

set_option maxRecDepth 100000 in
set_option maxHeartbeats 400000 in
theorem awake_c (w : World) (htab : Tab w) : Calls Tryd.prog 9 #[] w fun e w' => e = .returned (.bool true) ∧ Below w.heap.size w w' := by
  have HT := hideP htab
  clear htab
  go_enter Tryd.func9, Tryd.ntmps9
  go_wp2_with fail
  refine (awk1 _).mono ?_
  rintro e w' ⟨rfl, rfl⟩
  go_wp2_with fail
  refine (awk2 _).mono ?_
  rintro e w' ⟨rfl, rfl⟩
  go_wp2_with fail
  refine (bin_zero 3 1 (Or.inl rfl) _).mono ?_
  rintro e w' ⟨rfl, rfl⟩
  go_wp2_with fail
  refine (awk4 _).mono ?_
  rintro e w' ⟨rfl, rfl⟩
  go_wp2_with fail
  refine (awk5 _).mono ?_
  rintro e w' ⟨rfl, rfl⟩
  go_wp2_with fail
  refine (awk6 _).mono ?_
  rintro e w' ⟨rfl, rfl⟩
  go_wp2_with fail
  refine (awk7 _).mono ?_
  rintro e w' ⟨rfl, rfl⟩
  go_wp2_with fail
  refine (awk8 _).mono ?_
  rintro e w' ⟨rfl, rfl⟩
  go_wp2_with fail
  refine (awk9 _).mono ?_
  rintro e w' ⟨rfl, rfl⟩
  go_wp2_with fail
  refine (put_nil (-1) (by decide) (by decide) _).mono ?_
  rintro e w1 ⟨rfl, hown1, hB1⟩
  have hc1 := conv_own hown1
  rw [show strOfNums (putV (-1)) = { data := #[1] } by decide] at hc1
  have HT1 := hideP (HT.out.below hB1)
  clear hown1
  go_wp2_with fail
  refine (put_nil 64 (by decide) (by decide) _).mono ?_
  rintro e w2 ⟨rfl, hown2, hB2⟩
  have hc2 := conv_own hown2
  rw [show strOfNums (putV 64) = { data := #[128, 1] } by decide] at hc2
  have HT2 := hideP (HT1.out.below hB2)
  clear hown2 hc1
  go_wp2_with fail
  refine (show_c (-5) (by decide) (by decide) _ HT2.out).mono ?_
  rintro e w3 ⟨rfl, hB3⟩
  rw [show (Lib.itoa (-5)).toArray = #[45, 53] by rw [itoa_m5]]
  go_wp2
  go_ret
  exact ⟨rfl, (hB1.trans (hB2.mono hB1.size)).trans (hB3.mono (Nat.le_trans hB1.size hB2.size))⟩
end Go.Proofs.YtdlkkflenphkfaaDoor
