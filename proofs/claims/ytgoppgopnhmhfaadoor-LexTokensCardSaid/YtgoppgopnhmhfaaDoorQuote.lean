/- lex.Quote by a contract. -/
import Derived.Test.YtgoppgopnhmhfaaDoorAwakeL
import Derived.Test.YtgoppgopnhmhfaaDoorQuoV
namespace Go.Proofs.YtgoppgopnhmhfaaDoor
open Go.RowKit

def escX (c : UInt8) : Int := if c = 92 then 0 else if c = 34 then 1 else if c = 10 then 2 else if c = 9 then 3 else -1

theorem indexByte_escaped (c : UInt8) : Lib.indexByte [92, 34, 10, 9] c = escX c := by
  unfold escX
  by_cases h1 : c = 92
  · subst h1; decide
  by_cases h2 : c = 34
  · subst h2; decide
  by_cases h3 : c = 10
  · subst h3; decide
  by_cases h4 : c = 9
  · subst h4; decide
  have e1 : ((92 : UInt8) == c) = false := by simpa using fun h => h1 h.symm
  have e2 : ((34 : UInt8) == c) = false := by simpa using fun h => h2 h.symm
  have e3 : ((10 : UInt8) == c) = false := by simpa using fun h => h3 h.symm
  have e4 : ((9 : UInt8) == c) = false := by simpa using fun h => h4 h.symm
  simp [Lib.indexByte, e1, e2, e3, e4, h1, h2, h3, h4]

theorem escaped_c (c : UInt8) (w : World) : Calls Tryd.prog 32 #[.string { data := #[92, 34, 10, 9] }, .int .u8 c.toNat] w fun e w' => e = .returned (.int .i64 (escX c)) ∧ w' = w := by
  have h := Tryd.strings_IndexByte { data := #[92, 34, 10, 9] } c.toNat w
  rw [toNat_u8, indexByte_escaped] at h
  exact h

/-- The five ways of a byte. -/
theorem esc_ways (c : UInt8) : (escX c = 0 ∧ escV c = [92, 92]) ∨ (escX c = 1 ∧ escV c = [92, 34]) ∨ (escX c = 2 ∧ escV c = [92, 110]) ∨ (escX c = 3 ∧ escV c = [92, 116]) ∨ (escX c = -1 ∧ escV c = [c]) := by
  unfold escX escV
  by_cases h1 : c = 92
  · simp [h1]
  by_cases h2 : c = 34
  · simp [h2]
  by_cases h3 : c = 10
  · simp [h3]
  by_cases h4 : c = 9
  · simp [h4]
  simp [h1, h2, h3, h4]

/-- What is written of the first k bytes. -/
def qV (S : ByteArray) (k : Nat) : List UInt8 := 34 :: (S.data.toList.take k).flatMap escV

theorem qV_zero (S : ByteArray) : qV S 0 = [34] := by simp [qV]

theorem qV_step {S : ByteArray} {k : Nat} (hk : k < S.size) : qV S (k + 1) = qV S k ++ escV S[k] := by
  have h : k < S.data.toList.length := by rw [byteArray_len]; exact hk
  unfold qV
  rw [List.take_succ_eq_append_getElem h, List.flatMap_append]
  simp
  rfl

theorem qV_end (S : ByteArray) : qV S S.size ++ [34] = quoteV S.data.toList := by
  unfold qV quoteV
  rw [← byteArray_len, List.take_length]
  rfl

theorem qV_len (S : ByteArray) (k : Nat) : (qV S k).length ≤ 2 * k + 1 := by
  unfold qV
  have h := esc_len (S.data.toList.take k)
  have h2 : (S.data.toList.take k).length ≤ k := by rw [List.length_take]; omega
  rw [List.length_cons]
  omega

theorem cell_new2 (W : World) (x y : Int) (t : TypeId) : ∀ j u, [Value.int .u8 x, Value.int .u8 y][j]? = some u → (W.alloc (.cells #[.int .u8 x, .int .u8 y] t)).cell? ((⟨W.heap.size, 0, none⟩ : Addr).add j) = some u := by
  intro j u hj
  have hadd : (⟨W.heap.size, 0, none⟩ : Addr).add j = ⟨W.heap.size, j, none⟩ := by unfold Addr.add; split <;> simp_all
  rw [hadd, cell_of_row _ _ j _ t (0, 0) (heap_alloc_last W _)]
  simpa using hj

theorem two_cell (x y : Int) : ∀ u ∈ [Value.int .u8 x, Value.int .u8 y], u.oneCell' = true := by
  intro u hu
  simp at hu
  rcases hu with rfl | rfl <;> rfl

theorem q_step {w wr w1 : World} {v v' : Value} {acc l : List UInt8} {ob : Obj} {n : Nat} (hg : w.grownBy wr none) (hown' : w1.ownsRow w.heap.size 5 1 v' n (bcs acc ++ bcs l)) (hn : n = (acc ++ l).length)
    (hgrow : (wr.alloc ob).grownBy w1 v.ownBlock) (hb : ∀ j, v.ownBlock = some j → w.heap.size ≤ j) : w1.ownsRow w.heap.size 5 1 v' (acc ++ l).length (bcs (acc ++ l)) ∧ w.grownBy w1 none := by
  refine ⟨?_, (hg.trans (World.grownBy_alloc _ _ _)).andThen hgrow fun j hj => .inl (hb j hj)⟩
  rw [← hn, show bcs (acc ++ l) = bcs acc ++ bcs l from List.map_append]
  exact hown'

set_option maxHeartbeats 4000000 in
set_option maxRecDepth 100000 in
theorem quote_c (S : ByteArray) (hS : S.size ≤ 65536) (w : World) : Calls Tryd.prog 17 #[.string S] w fun e w' => e = .returned (.string ⟨(quoteV S.data.toList).toArray⟩) ∧ w.grownBy w' none := by
  obtain ⟨i0, hi, hz0, hz1, hz2⟩ := info_parts info_byte
  have h0 : Hid ((w.alloc (.cells #[.int .u8 34] 5)).ownsRow w.heap.size 5 1 (.slice (some ⟨w.heap.size, 0, none⟩) 1 1) (qV S 0).length (bcs (qV S 0))) := by
    rw [qV_zero]
    exact ⟨rfl, .inr ⟨w.heap.size, 1, _, rfl, Nat.le_refl _, heap_alloc_last w _, by simp, by decide, rfl, rfl⟩⟩
  obtain ⟨Q, hQ⟩ : ∃ Q, Q = quoteV S.data.toList := ⟨_, rfl⟩
  rw [← hQ]
  have HQ := hideP hQ
  clear hQ
  go_enter Tryd.func17, Tryd.ntmps17
  go_wp2
  go_loopw [3, 9] (fun v i wr => ∃ k : Nat, k ≤ S.size ∧ i = .int .i64 k ∧ Hid (wr.ownsRow w.heap.size 5 1 v (qV S k).length (bcs (qV S k))) ∧ Hid (w.grownBy wr none)) (fun _ i _ => S.size - (intOf i).toNat)
  case atStart => exact ⟨0, Nat.zero_le _, rfl, h0, World.grownBy_alloc _ _ _⟩
  case round =>
    clear h0
    obtain ⟨k, hk, rfl, hown, hg⟩ := hrel
    have hql := qV_len S k
    have hbl := owns_base hown.out
    have hsz := hg.out.size
    obtain ⟨a, cap, rfl⟩ := owns_shape hown.out
    by_cases hlt : k < S.size
    · have hst := hideP (qV_step hlt)
      have hc := escaped_c S[k]
      have hways := esc_ways S[k]
      rcases hways with ⟨h1, h2⟩ | ⟨h1, h2⟩ | ⟨h1, h2⟩ | ⟨h1, h2⟩ | ⟨h1, h2⟩
      · rw [h1] at hc
        have HC := hideP hc
        have H2 := hideP h2
        clear hc h1 h2
        go_wp2_with fail
        refine (HC.out _).mono ?_
        rintro e w' ⟨rfl, rfl⟩
        go_wp2_with (at_builtin; refine wpList_append_own _ rfl (.tmp 18) (.tmp 21) 50 rfl w.heap.size 5 i0 (.int .u8 0) 1 1 Tryd.underlying50 hi hz0 hz1 hz2 rfl (by decide) _ _ _ rfl (hown.out.alloc _) ⟨_, 0, none⟩ 2 2 [.int .u8 92, .int .u8 92] rfl rfl (cell_new2 _ 92 92 5) (two_cell 92 92) (by unfold maxLen; omega) (by omega) (by simp; omega) ?_)
        intro v' w3 hown' hgrow _
        have R := hideP (q_step (acc := qV S k) (l := [92, 92]) hg.out hown' (by simp) hgrow hbl.out)
        have E : Hid (qV S (k + 1) = qV S k ++ [92, 92]) := hideP (by rw [hst.out, H2.out])
        clear hown' hgrow
        go_wp2
        go_roundw
        case rel => exact ⟨k + 1, by omega, by go_num, by rw [E.out]; exact R.out.1, R.out.2⟩
        case measure => simp [intOf]; omega
      · rw [h1] at hc
        have HC := hideP hc
        have H2 := hideP h2
        clear hc h1 h2
        go_wp2_with fail
        refine (HC.out _).mono ?_
        rintro e w' ⟨rfl, rfl⟩
        go_wp2_with (at_builtin; refine wpList_append_own _ rfl (.tmp 18) (.tmp 21) 50 rfl w.heap.size 5 i0 (.int .u8 0) 1 1 Tryd.underlying50 hi hz0 hz1 hz2 rfl (by decide) _ _ _ rfl (hown.out.alloc _) ⟨_, 0, none⟩ 2 2 [.int .u8 92, .int .u8 34] rfl rfl (cell_new2 _ 92 34 5) (two_cell 92 34) (by unfold maxLen; omega) (by omega) (by simp; omega) ?_)
        intro v' w3 hown' hgrow _
        have R := hideP (q_step (acc := qV S k) (l := [92, 34]) hg.out hown' (by simp) hgrow hbl.out)
        have E : Hid (qV S (k + 1) = qV S k ++ [92, 34]) := hideP (by rw [hst.out, H2.out])
        clear hown' hgrow
        go_wp2
        go_roundw
        case rel => exact ⟨k + 1, by omega, by go_num, by rw [E.out]; exact R.out.1, R.out.2⟩
        case measure => simp [intOf]; omega
      · rw [h1] at hc
        have HC := hideP hc
        have H2 := hideP h2
        clear hc h1 h2
        go_wp2_with fail
        refine (HC.out _).mono ?_
        rintro e w' ⟨rfl, rfl⟩
        go_wp2_with (at_builtin; refine wpList_append_own _ rfl (.tmp 18) (.tmp 21) 50 rfl w.heap.size 5 i0 (.int .u8 0) 1 1 Tryd.underlying50 hi hz0 hz1 hz2 rfl (by decide) _ _ _ rfl (hown.out.alloc _) ⟨_, 0, none⟩ 2 2 [.int .u8 92, .int .u8 110] rfl rfl (cell_new2 _ 92 110 5) (two_cell 92 110) (by unfold maxLen; omega) (by omega) (by simp; omega) ?_)
        intro v' w3 hown' hgrow _
        have R := hideP (q_step (acc := qV S k) (l := [92, 110]) hg.out hown' (by simp) hgrow hbl.out)
        have E : Hid (qV S (k + 1) = qV S k ++ [92, 110]) := hideP (by rw [hst.out, H2.out])
        clear hown' hgrow
        go_wp2
        go_roundw
        case rel => exact ⟨k + 1, by omega, by go_num, by rw [E.out]; exact R.out.1, R.out.2⟩
        case measure => simp [intOf]; omega
      · rw [h1] at hc
        have HC := hideP hc
        have H2 := hideP h2
        clear hc h1 h2
        go_wp2_with fail
        refine (HC.out _).mono ?_
        rintro e w' ⟨rfl, rfl⟩
        go_wp2_with (at_builtin; refine wpList_append_own _ rfl (.tmp 18) (.tmp 21) 50 rfl w.heap.size 5 i0 (.int .u8 0) 1 1 Tryd.underlying50 hi hz0 hz1 hz2 rfl (by decide) _ _ _ rfl (hown.out.alloc _) ⟨_, 0, none⟩ 2 2 [.int .u8 92, .int .u8 116] rfl rfl (cell_new2 _ 92 116 5) (two_cell 92 116) (by unfold maxLen; omega) (by omega) (by simp; omega) ?_)
        intro v' w3 hown' hgrow _
        have R := hideP (q_step (acc := qV S k) (l := [92, 116]) hg.out hown' (by simp) hgrow hbl.out)
        have E : Hid (qV S (k + 1) = qV S k ++ [92, 116]) := hideP (by rw [hst.out, H2.out])
        clear hown' hgrow
        go_wp2
        go_roundw
        case rel => exact ⟨k + 1, by omega, by go_num, by rw [E.out]; exact R.out.1, R.out.2⟩
        case measure => simp [intOf]; omega
      · rw [h1] at hc
        have HC := hideP hc
        have H2 := hideP h2
        clear hc h1 h2
        go_wp2_with fail
        refine (HC.out _).mono ?_
        rintro e w' ⟨rfl, rfl⟩
        go_wp2_with (at_builtin; refine wpList_append_own _ rfl (.tmp 23) (.tmp 27) 50 rfl w.heap.size 5 i0 (.int .u8 0) 1 1 Tryd.underlying50 hi hz0 hz1 hz2 rfl (by decide) _ _ _ rfl (hown.out.alloc _) ⟨_, 0, none⟩ 1 1 [.int .u8 S[k].toNat] rfl rfl (cell_new1 _ S[k].toNat 5) (one_cell S[k].toNat) (by unfold maxLen; omega) (by omega) (by simp; omega) ?_)
        intro v' w3 hown' hgrow _
        have R := hideP (q_step (acc := qV S k) (l := [S[k]]) hg.out hown' (by simp) hgrow hbl.out)
        have E : Hid (qV S (k + 1) = qV S k ++ [S[k]]) := hideP (by rw [hst.out, H2.out])
        clear hown' hgrow
        go_wp2
        go_roundw
        case rel => exact ⟨k + 1, by omega, by go_num, by rw [E.out]; exact R.out.1, R.out.2⟩
        case measure => simp [intOf]; omega
    · go_wp2_with (at_builtin; refine wpList_append_own _ rfl (.tmp 30) (.tmp 31) 50 rfl w.heap.size 5 i0 (.int .u8 0) 1 1 Tryd.underlying50 hi hz0 hz1 hz2 rfl (by decide) _ _ _ rfl (hown.out.alloc _) ⟨_, 0, none⟩ 1 1 [.int .u8 34] rfl rfl (cell_new1 _ 34 5) (one_cell 34) (by unfold maxLen; omega) (by omega) (by simp; omega) ?_)
      intro v' w3 hown' hgrow _
      have R := q_step (acc := qV S k) (l := [34]) hg.out hown' (by simp) hgrow hbl.out
      have hcv := conv_bytes R.1
      have HG := hideP R.2
      have E : Hid (qV S k ++ [34] = Q) := hideP (by
        have hkk : k = S.size := by omega
        rw [HQ.out, hkk]
        exact qV_end S)
      clear hown' hgrow R
      go_wp2
      go_ret
      rw [E.out]
      exact ⟨rfl, HG.out⟩
end Go.Proofs.YtgoppgopnhmhfaaDoor
