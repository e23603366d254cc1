/- gradusref02.blank by a contract: how many bytes are passed over. -/
import Derived.Test.YtgoppgopnhmhfaaDoorBytes
import Derived.Test.YtgoppgopnhmhfaaDoorPlaceV
namespace Go.Proofs.YtgoppgopnhmhfaaDoor
open Go.RowKit

/-- n bytes are passed over at the beginning. -/
def BlankAt (l : List UInt8) (n : Nat) : Prop := n ≤ l.length ∧ ∀ p : Nat × Nat, skipV false l p.1 p.2 = (l.drop n, placeV (l.take n) p)

/-- i bytes are passed over so far, within a comment or not. -/
def MidAt (c : Bool) (S : ByteArray) (i : Nat) : Prop := ∀ p : Nat × Nat, skipV false S.data.toList p.1 p.2 = skipV c (S.data.toList.drop i) (placeV (S.data.toList.take i) p).1 (placeV (S.data.toList.take i) p).2

theorem place_at {S : ByteArray} {i : Nat} (hi : i < S.size) (p : Nat × Nat) : placeV (S.data.toList.take (i + 1)) p = stepP (placeV (S.data.toList.take i) p) S[i] := by
  have h : i < S.data.toList.length := by rw [byteArray_len]; exact hi
  rw [List.take_succ_eq_append_getElem h, placeV_append]
  rfl

section
variable {S : ByteArray} {i : Nat}
theorem mid_start : MidAt false S 0 := fun p => by simp [placeV]
theorem mid_remark (h : MidAt false S i) (hi : i < S.size) (hb : S[i].toNat = 35) : MidAt true S i := fun p => by
  have e : S[i] = 35 := UInt8.toNat_inj.1 hb
  rw [h p, byteArray_drop S i hi, e]
  simp [skipV]
theorem mid_on (h : MidAt true S i) (hi : i < S.size) (hb : S[i].toNat ≠ 10) : MidAt true S (i + 1) := fun p => by
  have e : ¬ S[i] = 10 := fun e => hb (by rw [e]; rfl)
  rw [h p, place_at hi, byteArray_drop S i hi, skipV, if_neg e, stepP, if_neg e]
theorem mid_off (h : MidAt true S i) (hi : i < S.size) (hb : S[i].toNat = 10) : MidAt false S i := fun p => by
  have e : S[i] = 10 := UInt8.toNat_inj.1 hb
  rw [h p, byteArray_drop S i hi, e]
  simp [skipV]
theorem mid_out (h : MidAt true S i) (hi : ¬ i < S.size) : MidAt false S i := fun p => by
  rw [h p, List.drop_eq_nil_of_le (by rw [byteArray_len]; omega)]
  simp [skipV]
theorem mid_blank (h : MidAt false S i) (hi : i < S.size) (hb : S[i].toNat = 32 ∨ S[i].toNat = 9 ∨ S[i].toNat = 10 ∨ S[i].toNat = 13) : MidAt false S (i + 1) := fun p => by
  rw [h p, place_at hi, byteArray_drop S i hi, skipV, stepP]
  by_cases e : S[i] = 10
  · rw [if_pos e, if_pos e]
  · have e2 : S[i] = 32 ∨ S[i] = 9 ∨ S[i] = 13 := by
      rcases hb with hb | hb | hb | hb
      · exact .inl (UInt8.toNat_inj.1 hb)
      · exact .inr (.inl (UInt8.toNat_inj.1 hb))
      · exact absurd (UInt8.toNat_inj.1 hb) e
      · exact .inr (.inr (UInt8.toNat_inj.1 hb))
    rw [if_neg e, if_neg e, if_pos e2]
theorem mid_stay (h : MidAt false S i) (hi : i < S.size) (hb : S[i].toNat ≠ 10 ∧ S[i].toNat ≠ 32 ∧ S[i].toNat ≠ 9 ∧ S[i].toNat ≠ 13 ∧ S[i].toNat ≠ 35) : BlankAt S.data.toList i := by
  have f : ∀ n : UInt8, S[i].toNat ≠ n.toNat → ¬ S[i] = n := fun n hn e => hn (by rw [e])
  refine ⟨by rw [byteArray_len]; omega, fun p => ?_⟩
  rw [h p, byteArray_drop S i hi, skipV, if_neg (f 10 hb.1), if_neg, if_neg (f 35 hb.2.2.2.2)]
  rintro (e | e | e)
  · exact f 32 hb.2.1 e
  · exact f 9 hb.2.2.1 e
  · exact f 13 hb.2.2.2.1 e
theorem mid_end (h : MidAt false S i) (hi : ¬ i < S.size) (hle : i ≤ S.size) : BlankAt S.data.toList i := by
  refine ⟨by rw [byteArray_len]; omega, fun p => ?_⟩
  rw [h p, List.drop_eq_nil_of_le (by rw [byteArray_len]; omega)]
  simp [skipV]
end

set_option maxHeartbeats 4000000 in
set_option maxRecDepth 100000 in
theorem blankR_c (S : ByteArray) (hS : S.size ≤ 65536) (w : World) : Calls Tryd.prog 23 #[.string S] w fun e w' => (∃ n : Nat, e = .returned (.int .i64 n) ∧ BlankAt S.data.toList n) ∧ w' = w := by
  go_enter Tryd.func23, Tryd.ntmps23
  go_wp2
  go_loop [3] (fun i => ∃ k : Nat, k ≤ S.size ∧ i = .int .i64 k ∧ Hid (MidAt false S k)) (fun i => S.size - (intOf i).toNat)
  case atStart => exact ⟨0, Nat.zero_le _, rfl, mid_start⟩
  case round =>
    obtain ⟨k, hk, rfl, hm⟩ := hrel
    by_cases hlt : k < S.size
    · have hltI : (k : Int) < (S.size : Int) := by omega
      by_cases b1 : S[k].toNat = 35
      · have p1 : ((S[k].toNat : Int) == 35) = true := by simp; omega
        have hm1 := hideP (mid_remark hm.out hlt b1)
        have HB1 := hideP b1
        clear b1
        go_wp2
        go_loop [3] (fun i => ∃ m : Nat, k ≤ m ∧ m ≤ S.size ∧ i = .int .i64 m ∧ Hid (MidAt true S m)) (fun i => S.size - (intOf i).toNat)
        case atStart => exact ⟨k, Nat.le_refl _, hk, rfl, hm1⟩
        case round =>
          obtain ⟨m, hkm, hmS, rfl, hmm⟩ := hrel
          by_cases hltm : m < S.size
          · have hltmI : (m : Int) < (S.size : Int) := by omega
            by_cases b2 : S[m].toNat = 10
            · have p2 : ((S[m].toNat : Int) != 10) = false := by simp; omega
              have hm2 := hideP (mid_off hmm.out hltm b2)
              have hkm2 : k < m := by
                by_cases e : m = k
                · subst e
                  have := HB1.out
                  omega
                · omega
              clear b2
              go_wp2
              go_round
              case rel => exact ⟨m, hmS, rfl, hm2⟩
              case measure => simp [intOf]; omega
            · have p2 : ((S[m].toNat : Int) != 10) = true := by simp; omega
              have hm2 := hideP (mid_on hmm.out hltm b2)
              clear b2
              go_wp2
              go_round
              case rel => exact ⟨m + 1, by omega, by omega, by go_num, hm2⟩
              case measure => simp [intOf]; omega
          · have hltmI : ¬ (m : Int) < (S.size : Int) := by omega
            have hm2 := hideP (mid_out hmm.out hltm)
            go_wp2
            go_round
            case rel => exact ⟨m, hmS, rfl, hm2⟩
            case measure => simp [intOf]; omega
      have n1 : ((S[k].toNat : Int) == 35) = false := by simp; omega
      by_cases b2 : S[k].toNat = 32 ∨ S[k].toNat = 9 ∨ S[k].toNat = 10 ∨ S[k].toNat = 13
      · have hm2 := hideP (mid_blank hm.out hlt b2)
        have b2' : ((S[k].toNat : Int) != 32) = false ∨ (((S[k].toNat : Int) != 32) = true ∧ ((S[k].toNat : Int) != 9) = false) ∨ (((S[k].toNat : Int) != 32) = true ∧ ((S[k].toNat : Int) != 9) = true ∧ ((S[k].toNat : Int) != 10) = false) ∨
            (((S[k].toNat : Int) != 32) = true ∧ ((S[k].toNat : Int) != 9) = true ∧ ((S[k].toNat : Int) != 10) = true ∧ ((S[k].toNat : Int) != 13) = false) := by simp; omega
        clear b2 b1
        rcases b2' with p1 | ⟨p1, p2⟩ | ⟨p1, p2, p3⟩ | ⟨p1, p2, p3, p4⟩
        all_goals
          go_wp2
          go_round
          case rel => exact ⟨k + 1, by omega, by go_num, hm2⟩
          case measure => simp [intOf]; omega
      · have hst := hideP (mid_stay hm.out hlt ⟨by omega, by omega, by omega, by omega, b1⟩)
        have p1 : ((S[k].toNat : Int) != 32) = true := by simp; omega
        have p2 : ((S[k].toNat : Int) != 9) = true := by simp; omega
        have p3 : ((S[k].toNat : Int) != 10) = true := by simp; omega
        have p4 : ((S[k].toNat : Int) != 13) = true := by simp; omega
        clear b1 b2
        go_wp2
        go_ret
        exact ⟨⟨k, rfl, hst.out⟩, rfl⟩
    · have hst := hideP (mid_end hm.out hlt hk)
      go_wp2
      go_ret
      exact ⟨⟨k, rfl, hst.out⟩, rfl⟩
end Go.Proofs.YtgoppgopnhmhfaaDoor
