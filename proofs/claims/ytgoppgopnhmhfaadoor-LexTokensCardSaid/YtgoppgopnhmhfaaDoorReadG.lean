/- (*scanner).readSign by a contract. -/
import Derived.Test.YtgoppgopnhmhfaaDoorUpd
import Derived.Test.YtgoppgopnhmhfaaDoorSignL
namespace Go.Proofs.YtgoppgopnhmhfaaDoor
open Go.RowKit

/-- What a call that reads a sign leaves. -/
def SignPost (S : ByteArray) (sb mb k : Nat) (li ls : Int) (tb : Nat) (kd tl tc : Int) (w : World) (n : Nat) (e : Ending) (w' : World) : Prop :=
  if n = 0 then e = .returned (.int .i64 5) ∧ w.grownBy w' none else
    e = .returned (.int .i64 0) ∧ Scan w' sb S ((k + n : Nat) : Int) li ls mb ∧ TokB w' tb kd ⟨((S.data.toList.drop k).take n).toArray⟩ tl tc ∧ Upd w w' sb tb

set_option maxHeartbeats 4000000 in
set_option maxRecDepth 100000 in
theorem readSign_c (S : ByteArray) (hS : S.size ≤ 65536) (sb mb k : Nat) (li ls : Int) (hk : k < S.size) (tb : Nat) (kd : Int) (tx : ByteArray) (tl tc : Int) (hne : sb ≠ tb) (w : World) (hsc : Scan w sb S k li ls mb) (htk : TokB w tb kd tx tl tc)
    (D : DataW Unit) (hown : w.ownsMap Tryd.prog 52 unitElem mb 8 D) (hD : PairsD D) :
    Calls Tryd.prog 38 #[.pointer (some ⟨sb, 0, none⟩), .pointer (some ⟨tb, 0, none⟩)] w (SignPost S sb mb k li ls tb kd tl tc w (signV (S.data.toList.drop k))) := by
  have hc := signLength_c S hS sb mb k li ls hk w hsc D hown hD
  have hle := signV_le (S.data.toList.drop k)
  rw [List.length_drop, byteArray_len] at hle
  obtain ⟨n, hn⟩ : ∃ n, n = signV (S.data.toList.drop k) := ⟨_, rfl⟩
  rw [← hn] at hc hle ⊢
  have HC := hideP hc
  have HS := hideP hsc
  have HT := hideP htk
  clear hn hc hsc htk hown hD
  by_cases h0 : n = 0
  · subst h0
    go_enter Tryd.func38, Tryd.ntmps38
    go_wp2_with fail
    refine HC.out.mono ?_
    rintro e w1 ⟨rfl, hg⟩
    have HG := hideP hg
    clear hg
    go_wp2
    go_ret
    exact ⟨rfl, HG.out⟩
  have b0 : ((n : Int) == 0) = false := by simp; omega
  have l1 : (k : Int) + (n : Int) ≤ (S.size : Int) := by omega
  have l2 : (k : Int) ≤ (k : Int) + (n : Int) := by omega
  go_enter Tryd.func38, Tryd.ntmps38
  go_wp2_with fail
  refine HC.out.mono ?_
  rintro e w1 ⟨rfl, hg⟩
  have HG := hideP hg
  have hs1 := HS.out.kept hg (by simp)
  have ht1 := HT.out.kept hg (by simp)
  have HS1 := hideP hs1
  have HT1 := hideP ht1
  have c0 := hs1.c0
  have c1 := hs1.c1
  have f1 := hs1.fz 1
  have t1 := ht1.c1
  have g1 := ht1.fz 1
  clear hg hs1 ht1
  go_wp2
  go_region
  all_goals
    have hs2 := HS1.out.kept (grown_setCell w1 ⟨tb, 1, none⟩ (.string (S.extract k (k + n)))) (by simpa using hne)
    have HS2 := hideP hs2
    have d1 := hs2.c1
    have e1 := hs2.fz 1
    clear hs2
    go_wp2
    go_ret
    rw [SignPost, if_neg h0]
    refine ⟨rfl, HS2.out.set1 _, ?_, ?_⟩
    · have := (HT1.out.set1 (S.extract k (k + n))).kept (grown_setCell _ ⟨sb, 1, none⟩ (.int .i64 ((k : Int) + n))) (by simpa using hne.symm)
      rw [extract_eq, Nat.add_sub_cancel_left] at this
      rw [extract_eq, Nat.add_sub_cancel_left]
      exact this
    · exact (((Upd.ofNone HG.out sb tb).setR 1 _).setL 1 _).drew
end Go.Proofs.YtgoppgopnhmhfaaDoor
