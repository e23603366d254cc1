/- gradusref02.quoted by a contract: the string that a text begins with. -/
import Derived.Test.YtgoppgopnhmhfaaDoorReadS
import Derived.Test.YtgoppgopnhmhfaaDoorQuoteR
namespace Go.Proofs.YtgoppgopnhmhfaaDoor
open Go.RowKit

/-- What a call of quoted hands back. -/
def QuotPost (S : ByteArray) (o : Option (List UInt8 × List UInt8)) (e : Ending) : Prop :=
  match o with
  | none => e = .returned (.tuple #[.string { data := #[] }, .int .i64 0])
  | some (said, rest) => ∃ m : Nat, 1 < m ∧ m ≤ S.size ∧ rest = S.data.toList.drop m ∧ e = .returned (.tuple #[.string ⟨said.toArray⟩, .int .i64 m])

set_option maxHeartbeats 4000000 in
set_option maxRecDepth 100000 in
theorem quotedR_c (S : ByteArray) (hS : S.size ≤ 65536) (w : World) : Calls Tryd.prog 40 #[.string S] w fun e w' => QuotPost S (strAt S 1 []) e ∧ w' = w := by
  obtain ⟨o, ho⟩ : ∃ o, o = strAt S 1 [] := ⟨_, rfl⟩
  rw [← ho]
  have HO := hideP ho
  clear ho
  go_enter Tryd.func40, Tryd.ntmps40
  go_wp2
  go_loop [4, 5] (fun v i => ∃ (m : Nat) (T : ByteArray), 1 ≤ m ∧ m ≤ S.size + 1 ∧ i = .int .i64 m ∧ v = .string T ∧ T.size ≤ m ∧ Hid (o = strAt S m T.data.toList)) (fun _ i => S.size + 1 - (intOf i).toNat)
  case atStart => exact ⟨1, _, Nat.le_refl _, by omega, rfl, rfl, by decide, HO.out⟩
  case round =>
    obtain ⟨m, T, hm1, hmS, rfl, rfl, hT, hrel⟩ := hrel
    by_cases hlt : m < S.size
    · have hltI : (m : Int) < (S.size : Int) := by omega
      by_cases b1 : S[m].toNat = 34
      · have p1 : ((S[m].toNat : Int) == 34) = true := by simp; omega
        have e := hrel.out.trans (strAt_shut hlt b1)
        subst e
        clear b1 hrel HO
        go_wp2
        go_ret2
        exact ⟨⟨m + 1, by omega, by omega, rfl, rfl⟩, rfl⟩
      have n1 : ((S[m].toNat : Int) == 34) = false := by simp; omega
      by_cases b2 : S[m].toNat < 32
      · have p2 : (S[m].toNat : Int) < 32 := by omega
        have e := hrel.out.trans (strAt_low hlt b2)
        subst e
        clear b1 b2 hrel HO
        go_wp2
        go_ret2
        exact ⟨rfl, rfl⟩
      have n2 : ¬ (S[m].toNat : Int) < 32 := by omega
      by_cases b3 : S[m].toNat = 92
      · have p3 : ((S[m].toNat : Int) != 92) = false := by simp; omega
        by_cases hl1 : m + 1 < S.size
        · have hl1I : ¬ (S.size : Int) ≤ (m : Int) + 1 := by omega
          have hl1J : (m : Int) + 1 < (S.size : Int) := by omega
          have hx1 := hideP (extract_one hl1)
          have hx2 := extract_oneS hl1
          have l1 : (m : Int) + 1 + 1 ≤ (S.size : Int) := by omega
          have l2 : (m : Int) + 1 ≤ (m : Int) + 1 + 1 := by omega
          have some1 := fun x => strAt_some (acc := T.data.toList) (x := x) hlt b3 hl1
          have none1 := strAt_none (acc := T.data.toList) hlt b3 hl1
          by_cases c1 : S[m + 1].toNat = 92
          · have q1 : ((S[m + 1].toNat : Int) == 92) = true := by simp; omega
            have e1 : S[m + 1] = 92 := UInt8.toNat_inj.1 c1
            have E : Hid (o = strAt S (m + 2) (T ++ S.extract (m + 1) (m + 1 + 1)).data.toList) := by
              show _ = _
              rw [str_add, hx1.out, e1, hrel.out]
              exact some1 92 (by rw [e1]; rfl)
            clear c1 e1 b1 b2 b3 some1 none1 hrel HO hx1
            go_wp2
            go_round
            case rel => exact ⟨m + 2, _, by omega, by omega, by go_num, rfl, by rw [str_addS]; omega, E⟩
            case measure => simp [intOf]; omega
          have r1 : ((S[m + 1].toNat : Int) == 92) = false := by simp; omega
          by_cases c2 : S[m + 1].toNat = 34
          · have q2 : ((S[m + 1].toNat : Int) == 34) = true := by simp; omega
            have e1 : S[m + 1] = 34 := UInt8.toNat_inj.1 c2
            have E : Hid (o = strAt S (m + 2) (T ++ S.extract (m + 1) (m + 1 + 1)).data.toList) := by
              show _ = _
              rw [str_add, hx1.out, e1, hrel.out]
              exact some1 34 (by rw [e1]; rfl)
            clear c1 c2 e1 b1 b2 b3 some1 none1 hrel HO hx1
            go_wp2
            go_round
            case rel => exact ⟨m + 2, _, by omega, by omega, by go_num, rfl, by rw [str_addS]; omega, E⟩
            case measure => simp [intOf]; omega
          have r2 : ((S[m + 1].toNat : Int) == 34) = false := by simp; omega
          by_cases c3 : S[m + 1].toNat = 110
          · have q3 : ((S[m + 1].toNat : Int) == 110) = true := by simp; omega
            have e1 : S[m + 1] = 110 := UInt8.toNat_inj.1 c3
            have E : Hid (o = strAt S (m + 2) (T ++ { data := #[10] }).data.toList) := by
              show _ = _
              rw [str_add, hrel.out]
              exact some1 10 (by rw [e1]; rfl)
            have hs1 : (T ++ { data := #[10] } : ByteArray).size ≤ m + 2 := by rw [str_addS]; show T.size + 1 ≤ m + 2; omega
            clear c1 c2 c3 e1 b1 b2 b3 some1 none1 hrel HO hx1
            go_wp2
            go_round
            case rel => exact ⟨m + 2, _, by omega, by omega, by go_num, rfl, hs1, E⟩
            case measure => simp [intOf]; omega
          have r3 : ((S[m + 1].toNat : Int) == 110) = false := by simp; omega
          by_cases c4 : S[m + 1].toNat = 116
          · have q4 : ((S[m + 1].toNat : Int) == 116) = true := by simp; omega
            have e1 : S[m + 1] = 116 := UInt8.toNat_inj.1 c4
            have E : Hid (o = strAt S (m + 2) (T ++ { data := #[9] }).data.toList) := by
              show _ = _
              rw [str_add, hrel.out]
              exact some1 9 (by rw [e1]; rfl)
            have hs1 : (T ++ { data := #[9] } : ByteArray).size ≤ m + 2 := by rw [str_addS]; show T.size + 1 ≤ m + 2; omega
            clear c1 c2 c3 c4 e1 b1 b2 b3 some1 none1 hrel HO hx1
            go_wp2
            go_round
            case rel => exact ⟨m + 2, _, by omega, by omega, by go_num, rfl, hs1, E⟩
            case measure => simp [intOf]; omega
          have r4 : ((S[m + 1].toNat : Int) == 116) = false := by simp; omega
          have f : ∀ n : UInt8, S[m + 1].toNat ≠ n.toNat → ¬ S[m + 1] = n := fun n hn e => hn (by rw [e])
          have e := hrel.out.trans (none1 (by rw [unescV, if_neg (f 92 c1), if_neg (f 34 c2), if_neg (f 110 c3), if_neg (f 116 c4)]))
          subst e
          clear c1 c2 c3 c4 b1 b2 b3 some1 none1 hrel HO hx1 f
          go_wp2
          go_ret2
          exact ⟨rfl, rfl⟩
        · have hl1I : (S.size : Int) ≤ (m : Int) + 1 := by omega
          have e := hrel.out.trans (strAt_cut hlt b3 hl1)
          subst e
          clear b1 b2 b3 hrel HO
          go_wp2
          go_ret2
          exact ⟨rfl, rfl⟩
      have n3 : ((S[m].toNat : Int) != 92) = true := by simp; omega
      have hx1 := hideP (extract_one hlt)
      have hx2 := extract_oneS hlt
      have l1 : (m : Int) + 1 ≤ (S.size : Int) := by omega
      have l2 : (m : Int) ≤ (m : Int) + 1 := by omega
      have E : Hid (o = strAt S (m + 1) (T ++ S.extract m (m + 1)).data.toList) := by
        show _ = _
        rw [str_add, hx1.out, hrel.out]
        exact strAt_on hlt b1 b2 b3
      clear b1 b2 b3 hrel HO hx1
      go_wp2
      go_round
      case rel => exact ⟨m + 1, _, by omega, by omega, by go_num, rfl, by rw [str_addS]; omega, E⟩
      case measure => simp [intOf]; omega
    · have hltI : ¬ (m : Int) < (S.size : Int) := by omega
      have e := hrel.out.trans (strAt_end hlt)
      subst e
      clear hrel HO
      go_wp2
      go_ret2
      exact ⟨rfl, rfl⟩
end Go.Proofs.YtgoppgopnhmhfaaDoor
