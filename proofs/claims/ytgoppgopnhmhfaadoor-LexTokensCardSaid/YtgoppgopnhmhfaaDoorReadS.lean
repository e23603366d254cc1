/- (*scanner).readString by a contract. -/
import Derived.Test.YtgoppgopnhmhfaaDoorUpd
import Derived.Test.YtgoppgopnhmhfaaDoorSignR
namespace Go.Proofs.YtgoppgopnhmhfaaDoor
open Go.RowKit

theorem letX_some {c x : UInt8} (h : unescV c = some x) : ∃ j : Nat, j < 4 ∧ letX c = j ∧ (ByteArray.mk #[92, 34, 10, 9])[j]? = some x := by
  unfold unescV at h
  unfold letX
  repeat' split at h
  · injection h with h; subst h; exact ⟨0, by omega, by simp [*], rfl⟩
  · injection h with h; subst h; exact ⟨1, by omega, by simp [*], rfl⟩
  · injection h with h; subst h; exact ⟨2, by omega, by simp [*], rfl⟩
  · injection h with h; subst h; exact ⟨3, by omega, by simp [*], rfl⟩
  · cases h

theorem letX_none {c : UInt8} (h : unescV c = none) : letX c < 0 := by
  unfold unescV at h
  unfold letX
  repeat' split at h
  · cases h
  · cases h
  · cases h
  · cases h
  · rename_i h1 h2 h3 h4
    rw [if_neg h1, if_neg h2, if_neg h3, if_neg h4]
    decide

/-- The string that goes on at m, behind what it said so far. -/
def strAt (S : ByteArray) (m : Nat) (acc : List UInt8) : Option (List UInt8 × List UInt8) := strV (S.data.toList.drop m) acc

section
variable {S : ByteArray} {m : Nat} {acc : List UInt8}
theorem strAt_end (h : ¬ m < S.size) : strAt S m acc = none := by
  unfold strAt
  rw [List.drop_eq_nil_of_le (by rw [byteArray_len]; omega), strV_nil]
theorem strAt_shut (h : m < S.size) (hb : S[m].toNat = 34) : strAt S m acc = some (acc, S.data.toList.drop (m + 1)) := by
  unfold strAt
  rw [byteArray_drop S m h, show S[m] = 34 from UInt8.toNat_inj.1 hb, strV_shut]
theorem strAt_low (h : m < S.size) (hb : S[m].toNat < 32) : strAt S m acc = none := by
  unfold strAt
  rw [byteArray_drop S m h, strV_low hb]
theorem strAt_on (h : m < S.size) (h1 : S[m].toNat ≠ 34) (h2 : ¬ S[m].toNat < 32) (h3 : S[m].toNat ≠ 92) : strAt S m acc = strAt S (m + 1) (acc ++ [S[m]]) := by
  unfold strAt
  rw [byteArray_drop S m h, strV_on (fun e => h1 (by rw [e]; rfl)) h2 (fun e => h3 (by rw [e]; rfl))]
theorem strAt_cut (h : m < S.size) (hb : S[m].toNat = 92) (h1 : ¬ m + 1 < S.size) : strAt S m acc = none := by
  unfold strAt
  rw [byteArray_drop S m h, show S[m] = 92 from UInt8.toNat_inj.1 hb, List.drop_eq_nil_of_le (by rw [byteArray_len]; omega), strV_cut]
theorem strAt_none (h : m < S.size) (hb : S[m].toNat = 92) (h1 : m + 1 < S.size) (hu : unescV S[m + 1] = none) : strAt S m acc = none := by
  unfold strAt
  rw [byteArray_drop S m h, show S[m] = 92 from UInt8.toNat_inj.1 hb, byteArray_drop S (m + 1) h1, strV_none hu]
theorem strAt_some (h : m < S.size) (hb : S[m].toNat = 92) (h1 : m + 1 < S.size) {x : UInt8} (hu : unescV S[m + 1] = some x) : strAt S m acc = strAt S (m + 2) (acc ++ [x]) := by
  unfold strAt
  rw [byteArray_drop S m h, show S[m] = 92 from UInt8.toNat_inj.1 hb, byteArray_drop S (m + 1) h1, strV_some hu]
end

theorem owns_shape {w : World} {B e z n : Nat} {v : Value} {xs : List Value} (h : w.ownsRow B e z v n xs) : ∃ a cap, v = .slice a n cap := by
  rcases h.2 with ⟨h1, h2⟩ | ⟨g, cap, cur, h1, _⟩
  · exact ⟨none, 0, by rw [h1, h2]⟩
  · exact ⟨_, _, h1⟩

theorem owns_base {w : World} {B e z n : Nat} {v : Value} {xs : List Value} (h : w.ownsRow B e z v n xs) : Hid (∀ j, v.ownBlock = some j → B ≤ j) := by
  intro j hj
  rcases h.2 with ⟨h1, h2⟩ | ⟨g, cap, cur, h1, h2, _⟩
  · rw [h1] at hj; cases hj
  · rw [h1] at hj
    simp [Value.ownBlock] at hj
    omega

theorem str_step {w wr w1 : World} {v v' : Value} {acc : List UInt8} {ob : Obj} (x : UInt8) (hg : w.grownBy wr none) (hown' : w1.ownsRow w.heap.size 5 1 v' (acc.length + 1) (bcs acc ++ [.int .u8 x.toNat]))
    (hgrow : (wr.alloc ob).grownBy w1 v.ownBlock) (hb : ∀ j, v.ownBlock = some j → w.heap.size ≤ j) : w1.ownsRow w.heap.size 5 1 v' (acc ++ [x]).length (bcs (acc ++ [x])) ∧ w.grownBy w1 none := by
  refine ⟨?_, (hg.trans (World.grownBy_alloc _ _ _)).andThen hgrow fun j hj => .inl (hb j hj)⟩
  rw [bcs_snoc, List.length_append]
  exact hown'

/-- What a call that reads a string leaves. -/
def StrPost (S : ByteArray) (sb mb k : Nat) (li ls : Int) (tb : Nat) (kd tl tc : Int) (w : World) (o : Option (List UInt8 × List UInt8)) (e : Ending) (w' : World) : Prop :=
  match o with
  | none => e = .returned (.int .i64 4) ∧ w.grownBy w' none
  | some (said, rest) => if 256 < said.length then e = .returned (.int .i64 2) ∧ w.grownBy w' none else
      e = .returned (.int .i64 0) ∧ ∃ m : Nat, k < m ∧ m ≤ S.size ∧ rest = S.data.toList.drop m ∧ Scan w' sb S m li ls mb ∧ TokB w' tb kd ⟨said.toArray⟩ tl tc ∧ Upd w w' sb tb

set_option maxHeartbeats 4000000 in
set_option maxRecDepth 100000 in
theorem readString_c (S : ByteArray) (hS : S.size ≤ 65536) (sb mb k : Nat) (li ls : Int) (hk : k < S.size) (tb : Nat) (kd : Int) (tx : ByteArray) (tl tc : Int) (hne : sb ≠ tb) (w : World) (hsc : Scan w sb S k li ls mb) (htk : TokB w tb kd tx tl tc) :
    Calls Tryd.prog 37 #[.pointer (some ⟨sb, 0, none⟩), .pointer (some ⟨tb, 0, none⟩)] w (StrPost S sb mb k li ls tb kd tl tc w (strAt S (k + 1) [])) := by
  obtain ⟨o, ho⟩ : ∃ o, o = strAt S (k + 1) [] := ⟨_, rfl⟩
  rw [← ho]
  have HO := hideP ho
  have HS := hideP hsc
  have HT := hideP htk
  have c0 := hsc.c0
  have c1 := hsc.c1
  clear ho hsc htk
  obtain ⟨i0, hi, hz0, hz1, hz2⟩ := info_parts info_byte
  go_enter Tryd.func37, Tryd.ntmps37
  go_wp2
  go_loopw [5, 6] (fun v i wr => ∃ (m : Nat) (acc : List UInt8), k + 1 ≤ m ∧ m ≤ S.size + 1 ∧ i = .int .i64 m ∧ acc.length ≤ m ∧ wr.ownsRow w.heap.size 5 1 v acc.length (bcs acc) ∧ w.grownBy wr none ∧ o = strAt S m acc) (fun _ i _ => S.size + 1 - (intOf i).toNat)
  case atStart => exact ⟨k + 1, [], Nat.le_refl _, by omega, by go_num, by simp, World.ownsRow_nil _ _ _ _, World.grownBy.refl _ _, HO.out⟩
  case round =>
    obtain ⟨m, acc, hm, hm1, rfl, hal, hown, hg, hrel⟩ := hrel
    have HR := hideP hrel
    have HG := hideP hg
    have hsc := HS.out.kept hg (by simp)
    have htk := HT.out.kept hg (by simp)
    have HSC := hideP hsc
    have HTK := hideP htk
    have d0 := hsc.c0
    have d1 := hsc.c1
    have f1 := hsc.fz 1
    have t1 := htk.c1
    have g1 := htk.fz 1
    have HOW := hideP hown
    have hsz := hg.size
    obtain ⟨a, cap, rfl⟩ := owns_shape hown
    have hbl := owns_base hown
    clear hrel hg hsc htk c0 c1
    by_cases hlt : m < S.size
    · by_cases b1 : S[m].toNat = 34
      · have p1 : ((S[m].toNat : Int) == 34) = true := by simp; omega
        have e := HR.out.trans (strAt_shut hlt b1)
        have hcv := conv_bytes hown
        clear hown
        by_cases hl : 256 < acc.length
        · subst e
          go_wp2
          go_ret
          simp only [StrPost, if_pos hl]
          exact ⟨rfl, HG.out⟩
        · subst e
          go_wp2
          go_ret
          simp only [StrPost, if_neg hl]
          refine ⟨rfl, m + 1, by omega, by omega, rfl, ?_, ?_, ?_⟩
          · exact (HSC.out.kept (grown_setCell wr ⟨tb, 1, none⟩ _) (by simpa using hne)).set1 (m + 1)
          · exact (HTK.out.set1 _).kept (grown_setCell _ ⟨sb, 1, none⟩ _) (by simpa using hne.symm)
          · exact ((Upd.ofNone HG.out sb tb).setR 1 _).setL 1 _
      have n1 : ((S[m].toNat : Int) == 34) = false := by simp; omega
      by_cases b2 : S[m].toNat < 32
      · have e := HR.out.trans (strAt_low hlt b2)
        have p2 : (S[m].toNat : Int) < 32 := by omega
        clear hown
        subst e
        go_wp2
        go_ret
        exact ⟨rfl, HG.out⟩
      have n2 : ¬ (S[m].toNat : Int) < 32 := by omega
      by_cases b3 : S[m].toNat = 92
      · have p3 : ((S[m].toNat : Int) == 92) = true := by simp; omega
        by_cases hl1 : m + 1 < S.size
        · have hc := letterIndex_in S (m + 1) hl1
          cases hu : unescV S[m + 1] with
          | none =>
            have e := HR.out.trans (strAt_none hlt b3 hl1 hu)
            have hneg := letX_none hu
            obtain ⟨x, hx⟩ : ∃ x, x = letX S[m + 1] := ⟨_, rfl⟩
            rw [← hx] at hc hneg
            have HC := hideP hc
            clear hown hc hx hu
            subst e
            go_wp2_with fail
            refine (HC.out _).mono ?_
            rintro e w' ⟨rfl, rfl⟩
            go_wp2
            go_ret
            exact ⟨rfl, HG.out⟩
          | some x =>
            have e := hideP (HR.out.trans (strAt_some hlt b3 hl1 hu))
            obtain ⟨j, hj, hjx, hix⟩ := letX_some hu
            rw [hjx] at hc
            have HC := hideP hc
            clear hc hjx hu
            have hj4 : (j = 0 ∧ x = 92) ∨ (j = 1 ∧ x = 34) ∨ (j = 2 ∧ x = 10) ∨ (j = 3 ∧ x = 9) := by
              match j, hj with
              | 0, _ => exact .inl ⟨rfl, (Option.some.inj hix).symm⟩
              | 1, _ => exact .inr (.inl ⟨rfl, (Option.some.inj hix).symm⟩)
              | 2, _ => exact .inr (.inr (.inl ⟨rfl, (Option.some.inj hix).symm⟩))
              | 3, _ => exact .inr (.inr (.inr ⟨rfl, (Option.some.inj hix).symm⟩))
            clear hix hj
            rcases hj4 with ⟨rfl, rfl⟩ | ⟨rfl, rfl⟩ | ⟨rfl, rfl⟩ | ⟨rfl, rfl⟩
            · go_wp2_with fail
              refine (HC.out _).mono ?_
              rintro e w' ⟨rfl, rfl⟩
              go_wp2_with (at_builtin; refine wpList_append_own _ rfl (.tmp 60) (.tmp 62) 50 rfl w.heap.size 5 i0 (.int .u8 0) 1 1 Tryd.underlying50 hi hz0 hz1 hz2 rfl (by decide) _ _ _ rfl (HOW.out.alloc _) ⟨_, 0, none⟩ 1 1 [.int .u8 92] rfl rfl (cell_new1 _ 92 5) (one_cell 92) (by unfold maxLen; omega) (by omega) (by simp; omega) ?_)
              intro v' w1 hown' hgrow _
              have R := hideP (str_step 92 HG.out hown' hgrow hbl.out)
              clear hown' hgrow hown
              go_wp2
              go_roundw
              case rel => exact ⟨m + 2, acc ++ [92], by omega, by omega, by go_num, by simp; omega, R.out.1, R.out.2, e.out⟩
              case measure => simp [intOf]; omega
            · go_wp2_with fail
              refine (HC.out _).mono ?_
              rintro e w' ⟨rfl, rfl⟩
              go_wp2_with (at_builtin; refine wpList_append_own _ rfl (.tmp 60) (.tmp 62) 50 rfl w.heap.size 5 i0 (.int .u8 0) 1 1 Tryd.underlying50 hi hz0 hz1 hz2 rfl (by decide) _ _ _ rfl (HOW.out.alloc _) ⟨_, 0, none⟩ 1 1 [.int .u8 34] rfl rfl (cell_new1 _ 34 5) (one_cell 34) (by unfold maxLen; omega) (by omega) (by simp; omega) ?_)
              intro v' w1 hown' hgrow _
              have R := hideP (str_step 34 HG.out hown' hgrow hbl.out)
              clear hown' hgrow hown
              go_wp2
              go_roundw
              case rel => exact ⟨m + 2, acc ++ [34], by omega, by omega, by go_num, by simp; omega, R.out.1, R.out.2, e.out⟩
              case measure => simp [intOf]; omega
            · go_wp2_with fail
              refine (HC.out _).mono ?_
              rintro e w' ⟨rfl, rfl⟩
              go_wp2_with (at_builtin; refine wpList_append_own _ rfl (.tmp 60) (.tmp 62) 50 rfl w.heap.size 5 i0 (.int .u8 0) 1 1 Tryd.underlying50 hi hz0 hz1 hz2 rfl (by decide) _ _ _ rfl (HOW.out.alloc _) ⟨_, 0, none⟩ 1 1 [.int .u8 10] rfl rfl (cell_new1 _ 10 5) (one_cell 10) (by unfold maxLen; omega) (by omega) (by simp; omega) ?_)
              intro v' w1 hown' hgrow _
              have R := hideP (str_step 10 HG.out hown' hgrow hbl.out)
              clear hown' hgrow hown
              go_wp2
              go_roundw
              case rel => exact ⟨m + 2, acc ++ [10], by omega, by omega, by go_num, by simp; omega, R.out.1, R.out.2, e.out⟩
              case measure => simp [intOf]; omega
            · go_wp2_with fail
              refine (HC.out _).mono ?_
              rintro e w' ⟨rfl, rfl⟩
              go_wp2_with (at_builtin; refine wpList_append_own _ rfl (.tmp 60) (.tmp 62) 50 rfl w.heap.size 5 i0 (.int .u8 0) 1 1 Tryd.underlying50 hi hz0 hz1 hz2 rfl (by decide) _ _ _ rfl (HOW.out.alloc _) ⟨_, 0, none⟩ 1 1 [.int .u8 9] rfl rfl (cell_new1 _ 9 5) (one_cell 9) (by unfold maxLen; omega) (by omega) (by simp; omega) ?_)
              intro v' w1 hown' hgrow _
              have R := hideP (str_step 9 HG.out hown' hgrow hbl.out)
              clear hown' hgrow hown
              go_wp2
              go_roundw
              case rel => exact ⟨m + 2, acc ++ [9], by omega, by omega, by go_num, by simp; omega, R.out.1, R.out.2, e.out⟩
              case measure => simp [intOf]; omega
        · have e := HR.out.trans (strAt_cut hlt b3 hl1)
          have HC := hideP (letterIndex_out S (m + 1) (by omega))
          clear hown
          subst e
          go_wp2_with fail
          refine (HC.out _).mono ?_
          rintro e w' ⟨rfl, rfl⟩
          go_wp2
          go_ret
          exact ⟨rfl, HG.out⟩
      have n3 : ((S[m].toNat : Int) == 92) = false := by simp; omega
      have e := hideP (HR.out.trans (strAt_on hlt b1 b2 b3))
      go_wp2_with (at_builtin; refine wpList_append_own _ rfl (.tmp 60) (.tmp 62) 50 rfl w.heap.size 5 i0 (.int .u8 0) 1 1 Tryd.underlying50 hi hz0 hz1 hz2 rfl (by decide) _ _ _ rfl (HOW.out.alloc _) ⟨_, 0, none⟩ 1 1 [.int .u8 S[m].toNat] rfl rfl (cell_new1 _ S[m].toNat 5) (one_cell S[m].toNat) (by unfold maxLen; omega) (by omega) (by simp; omega) ?_)
      intro v' w1 hown' hgrow _
      have R := hideP (str_step S[m] HG.out hown' hgrow hbl.out)
      clear hown' hgrow hown
      go_wp2
      go_roundw
      case rel => exact ⟨m + 1, acc ++ [S[m]], by omega, by omega, by go_num, by simp; omega, R.out.1, R.out.2, e.out⟩
      case measure => simp [intOf]; omega
    · have e := HR.out.trans (strAt_end hlt)
      clear hown
      subst e
      go_wp2
      go_ret
      exact ⟨rfl, HG.out⟩
end Go.Proofs.YtgoppgopnhmhfaaDoor
