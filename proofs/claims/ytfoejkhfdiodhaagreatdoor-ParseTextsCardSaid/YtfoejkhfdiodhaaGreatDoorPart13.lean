/- Part. -/
import Derived.Maps.RangeWalk
import Derived.BigRegion
import Derived.Laws.BytesArg
import Derived.Shelf.Small.Strs
import Derived.Shelf.Strings.Search1
import Derived.Test.YtfoejkhfdiodhaaGreatDoorPart12
set_option maxRecDepth 100000
set_option maxHeartbeats 4000000
namespace Go.Proofs.YtfoejkhfdiodhaaGreatDoor.Lx
open Go.Proofs.Tryz
open Go.RowKit
def Xa (w : World) (sb : Nat) (S : ByteArray) (k li ls : Int) (mb : Nat) : Prop :=
 w.heap[sb]? = some (.cells #[.string S, .int .i64 k, .int .i64 li, .int .i64 ls, .map (some mb)] 109 (0, 0))
section
variable {w : World} {sb : Nat} {S : ByteArray} {k li ls : Int} {mb : Nat}
theorem Xa.c0 (h : Xa w sb S k li ls mb) : w.cell? ⟨sb, 0, none⟩ = some (.string S) := by unfold Xa at h; simp [World.cell?, h]
theorem Xa.c1 (h : Xa w sb S k li ls mb) : w.cell? ⟨sb, 1, none⟩ = some (.int .i64 k) := by unfold Xa at h; simp [World.cell?, h]
theorem Xa.c2 (h : Xa w sb S k li ls mb) : w.cell? ⟨sb, 2, none⟩ = some (.int .i64 li) := by unfold Xa at h; simp [World.cell?, h]
theorem Xa.c3 (h : Xa w sb S k li ls mb) : w.cell? ⟨sb, 3, none⟩ = some (.int .i64 ls) := by unfold Xa at h; simp [World.cell?, h]
theorem Xa.c4 (h : Xa w sb S k li ls mb) : w.cell? ⟨sb, 4, none⟩ = some (.map (some mb)) := by unfold Xa at h; simp [World.cell?, h]
theorem Xa.fz (h : Xa w sb S k li ls mb) (o : Nat) : w.frozen? ⟨sb, o, none⟩ = false := by unfold Xa at h; simp [World.frozen?, h]
theorem Xa.lt (h : Xa w sb S k li ls mb) : sb < w.heap.size := xB h
theorem Xe {w : World} {b o : Nat} {cs : Array Value} {u : Value} {t : TypeId} {fr : Nat × Nat} (h : w.heap[b]? = some (.cells cs t fr)) : (w.setCell ⟨b, o, none⟩ u).heap[b]? = some (.cells (cs.setIfInBounds o u) t fr) := by
 have Zo := xB h
 have h' : w.heap[b] = .cells cs t fr := by simpa [Array.getElem?_eq_getElem Zo] using h
 show (w.heap.modify b _)[b]? = _
 rw [Array.getElem?_eq_getElem (by simpa using Zo), Array.getElem_modify_self, h']
 rfl
theorem Xa.set1 (h : Xa w sb S k li ls mb) (v : Int) : Xa (w.setCell ⟨sb, 1, none⟩ (.int .i64 v)) sb S v li ls mb := Xe h
theorem Xa.set2 (h : Xa w sb S k li ls mb) (v : Int) : Xa (w.setCell ⟨sb, 2, none⟩ (.int .i64 v)) sb S k v ls mb := Xe h
theorem Xa.set3 (h : Xa w sb S k li ls mb) (v : Int) : Xa (w.setCell ⟨sb, 3, none⟩ (.int .i64 v)) sb S k li v mb := Xe h
theorem Xa.kept {w' : World} {row : Option Nat} (h : Xa w sb S k li ls mb) (hg : w.grownBy w' row) (Z3 : some sb ≠ row) : Xa w' sb S k li ls mb := by
 unfold Xa at *
 rw [hg.block sb (xB h) Z3]
 exact h
end
def Xr (w : World) (tb : Nat) (kind : Int) (text : ByteArray) (li co : Int) : Prop :=
 w.heap[tb]? = some (.cells #[.int .i64 kind, .string text, .int .i64 li, .int .i64 co] 81 (0, 0))
section
variable {w : World} {tb : Nat} {kind : Int} {text : ByteArray} {li co : Int}
theorem Xr.c0 (h : Xr w tb kind text li co) : w.cell? ⟨tb, 0, none⟩ = some (.int .i64 kind) := by unfold Xr at h; simp [World.cell?, h]
theorem Xr.c1 (h : Xr w tb kind text li co) : w.cell? ⟨tb, 1, none⟩ = some (.string text) := by unfold Xr at h; simp [World.cell?, h]
theorem Xr.c2 (h : Xr w tb kind text li co) : w.cell? ⟨tb, 2, none⟩ = some (.int .i64 li) := by unfold Xr at h; simp [World.cell?, h]
theorem Xr.c3 (h : Xr w tb kind text li co) : w.cell? ⟨tb, 3, none⟩ = some (.int .i64 co) := by unfold Xr at h; simp [World.cell?, h]
theorem Xr.fz (h : Xr w tb kind text li co) (o : Nat) : w.frozen? ⟨tb, o, none⟩ = false := by unfold Xr at h; simp [World.frozen?, h]
theorem Xr.set0 (h : Xr w tb kind text li co) (v : Int) : Xr (w.setCell ⟨tb, 0, none⟩ (.int .i64 v)) tb v text li co := Xe h
theorem Xr.set1 (h : Xr w tb kind text li co) (v : ByteArray) : Xr (w.setCell ⟨tb, 1, none⟩ (.string v)) tb kind v li co := Xe h
theorem Xr.kept {w' : World} {row : Option Nat} (h : Xr w tb kind text li co) (hg : w.grownBy w' row) (Z3 : some tb ≠ row) : Xr w' tb kind text li co := by
 unfold Xr at *
 rw [hg.block tb (xB h) Z3]
 exact h
end
theorem lT {a w : World} {row : Option Nat} (h : a.grownBy w row) : a.grownBy w.drew row := ⟨h.os, h.tape, h.output, h.size, h.block⟩
theorem B2 {a w : World} {row : Option Nat} (h : a.grownBy w row) (n : Nat) : a.grownBy (w.drewN n) row := ⟨h.os, h.tape, h.output, h.size, h.block⟩
theorem Fp {a w : World} {b : Nat} (h : a.grownBy w (some b)) (o : Nat) (v : Value) : a.grownBy (w.setCell ⟨b, o, none⟩ v) (some b) :=
 ⟨h.os, h.tape, h.output, by simpa using h.size, fun k hk Z3 => (Below.heap_setCell w _ v k (fun e => Z3 (by rw [e]))).trans (h.block k hk Z3)⟩
theorem K6 (w : World) (a : Addr) (v : Value) : w.grownBy (w.setCell a v) (some a.block) :=
 ⟨rfl, rfl, rfl, by simp, fun k _ Z3 => Below.heap_setCell w a v k (fun e => Z3 (by rw [e]))⟩
def Cv (w : World) (sb : Nat) : Nat := match w.cell? ⟨sb, 1, none⟩ with | some v => (intOf v).toNat | none => 0
theorem Xa.at {w : World} {sb : Nat} {S : ByteArray} {k : Nat} {li ls : Int} {mb : Nat} (h : Xa w sb S k li ls mb) : Cv w sb = k := by
 unfold Cv
 rw [h.c1]
 simp [intOf]
def Le (S : ByteArray) (k li ls : Nat) : List UInt8 × Nat × Nat := Vg false (S.data.toList.drop k) li (k - ls + 1)
theorem s7 {S : ByteArray} {k li ls : Nat} (hk : k < S.size) (h : S[k].toNat = 10) : Le S k li ls = Le S (k + 1) (li + 1) (k + 1) := by
 have e : S[k] = 10 := UInt8.toNat_inj.1 h
 unfold Le
 rw [Va S k hk, Vg, if_pos e]
 simp
theorem s5 {S : ByteArray} {k li ls : Nat} (hk : k < S.size) (hl : ls <= k) (h : S[k].toNat = 32 ∨ S[k].toNat = 9 ∨ S[k].toNat = 13) : Le S k li ls = Le S (k + 1) li ls := by
 have e : S[k] = 32 ∨ S[k] = 9 ∨ S[k] = 13 := by
  rcases h with h | h | h
  ·exact .inl (UInt8.toNat_inj.1 h)
  ·exact .inr (.inl (UInt8.toNat_inj.1 h))
  ·exact .inr (.inr (UInt8.toNat_inj.1 h))
 unfold Le
 rw [Va S k hk, Vg, if_neg (by rintro e2; rw [e2] at e; revert e; decide), if_pos e]
 rw [show k - ls + 1 + 1 = k + 1 - ls + 1 from by omega]
theorem O1 (S : ByteArray) (k : Nat) (p : UInt8 -> Bool) : S.data.toList.drop (Y5 S k p) = (S.data.toList.drop k).dropWhile p := by
 unfold Y5
 rw [<- List.drop_drop]
 generalize S.data.toList.drop k = l
 induction l with
 | nil => rfl
 | cons b r ih =>
  by_cases h : p b = true
  ·rw [List.takeWhile_cons_of_pos h, List.dropWhile_cons_of_pos h, List.length_cons, List.drop_succ_cons, ih]
  ·rw [List.takeWhile_cons_of_neg h, List.dropWhile_cons_of_neg h]; rfl
theorem s8 {S : ByteArray} {k li ls : Nat} (hk : k < S.size) (hl : ls <= k) (h : S[k].toNat = 35) : Le S k li ls = Le S (Y5 S k Mc) li ls /\ k < Y5 S k Mc := by
 have e : S[k] = 35 := UInt8.toNat_inj.1 h
 have hn : Mc S[k] = true := by rw [e]; decide
 have hr := F0 hk hn
 have Zo : k + 1 <= Y5 S (k + 1) Mc := by unfold Y5; omega
 refine ⟨?_, by omega⟩
 rw [hr]
 unfold Le
 rw [O1, Va S k hk, Vg, if_neg (by rw [e]; decide), if_neg (by rw [e]; decide), if_pos e, aA]
 unfold Y5
 rw [show k - ls + 1 + 1 + (List.takeWhile Mc (List.drop (k + 1) S.data.toList)).length = k + 1 + (List.takeWhile Mc (List.drop (k + 1) S.data.toList)).length - ls + 1 from by omega]
theorem s9 {S : ByteArray} {k li ls : Nat} (hk : k < S.size) (h : S[k].toNat ≠ 10 /\ S[k].toNat ≠ 32 /\ S[k].toNat ≠ 9 /\ S[k].toNat ≠ 13 /\ S[k].toNat ≠ 35) : Le S k li ls = (S.data.toList.drop k, li, k - ls + 1) := by
 have f : ∀ n : UInt8, S[k].toNat ≠ n.toNat -> ¬ S[k] = n := fun n hn e => hn (by rw [e])
 unfold Le
 rw [Va S k hk, Vg, if_neg (f 10 h.1), if_neg, if_neg (f 35 h.2.2.2.2)]
 rintro (e | e | e)
 ·exact f 32 h.2.1 e
 ·exact f 9 h.2.2.1 e
 ·exact f 13 h.2.2.2.1 e
theorem s6 {S : ByteArray} {k li ls : Nat} (hk : ¬ k < S.size) : Le S k li ls = (S.data.toList.drop k, li, k - ls + 1) := by
 unfold Le
 rw [List.drop_eq_nil_of_le (by rw [Xw]; omega)]
 rfl
theorem qR (S : ByteArray) (hS : S.size <= 65536) (sb mb k0 li0 ls0 : Nat) (hk0 : k0 <= S.size) (hls0 : ls0 <= k0) (hli0 : li0 <= k0 + 1) (w : World) (Yv : Xa w sb S k0 li0 ls0 mb) :
  Calls prog 60 #[.pointer (some ⟨sb, 0, none⟩)] w fun e w' => e = .returned (.tuple #[]) /\ ∃ k li ls : Nat, Xa w' sb S k li ls mb /\ w.grownBy w' (some sb) /\
   k0 <= k /\ k <= S.size /\ ls <= k /\ li <= k + 1 /\ Le S k0 li0 ls0 = (S.data.toList.drop k, li, k - ls + 1) := by
 go_enter func60, ntmps60
 go_wp2
 go_loopw [20] (fun _ wr => ∃ k li ls : Nat, Xa wr sb S k li ls mb /\ w.grownBy wr (some sb) /\ k0 <= k /\ k <= S.size /\ ls <= k /\ li <= k + 1 /\ Le S k0 li0 ls0 = Le S k li ls) (fun _ wr => S.size - Cv wr sb)
 case atStart => exact ⟨k0, li0, ls0, Yv, World.grownBy.refl _ _, xR, hk0, hls0, hli0, rfl⟩
 case round =>
  obtain ⟨k, li, ls, hs, hg, hk0', hk, Ng, B5, hrel⟩ := hrel;have HR := Za hrel;have HS := Za hs;have Zd := Za hs.at;have c0 := hs.c0;have c1 := hs.c1;have c2 := hs.c2;have c3 := hs.c3;have f1 := hs.fz 1;have f2 := hs.fz 2;have f3 := hs.fz 3;have HG := Za hg;clear hrel hs hg Yv;by_cases Zo : k < S.size
  ·have hlt' : (k : Int) < (S.size : Int) := by omega
   by_cases b1 : S[k].toNat = 10
   ·have b1' : ((S[k].toNat : Int) == 10) = true := by simp; omega
    go_wp2
    go_quiet (fail)
    go_wp2
    go_quiet (fail)
    go_wp2;have Mr := (((HS.o : Xa (wr.drewN (_ + _)) sb S k li ls mb).set1 (k + 1)).set2 (li + 1)).set3 (k + 1);refine ⟨⟨k + 1, li + 1, k + 1, Mr, Fp (Fp (Fp (B2 HG.o _) _ _) _ _) _ _, by omega, by omega, by omega, by omega, HR.o.trans (s7 Zo b1)⟩, ?_⟩;have e2 := Xa.at (k := k + 1) Mr;have e1 := Zd.o;rw [e1];exact Nat.lt_of_le_of_lt (Nat.le_of_eq (congrArg (S.size - ·) e2)) (by omega)
   have n1 : ((S[k].toNat : Int) == 10) = false := by simp; omega
   by_cases b2 : S[k].toNat = 32 ∨ S[k].toNat = 9 ∨ S[k].toNat = 13
   ·have Zb := s5 (li := li) Zo Ng b2
    have Zu := Za Zb;clear Zb
    have b2' : ((S[k].toNat : Int) == 32) = true ∨ (((S[k].toNat : Int) == 32) = false /\ ((S[k].toNat : Int) == 9) = true) ∨ (((S[k].toNat : Int) == 32) = false /\ ((S[k].toNat : Int) == 9) = false /\ ((S[k].toNat : Int) == 13) = true) := by simp; omega
    rcases b2' with p1 | ⟨p1, p2⟩ | ⟨p1, p2, p3⟩
    all_goals
     go_wp2
     go_quiet (fail)
     go_wp2
     go_quiet (fail)
     go_wp2;have Mr := (HS.o : Xa (wr.drewN (_ + _)) sb S k li ls mb).set1 (k + 1);refine ⟨⟨k + 1, li, ls, Mr, Fp (B2 HG.o _) _ _, by omega, by omega, by omega, by omega, HR.o.trans Zu.o⟩, ?_⟩;have e2 := Xa.at (k := k + 1) Mr;have e1 := Zd.o;rw [e1];exact Nat.lt_of_le_of_lt (Nat.le_of_eq (congrArg (S.size - ·) e2)) (by omega)
   have n2 : ((S[k].toNat : Int) == 32) = false := by simp; omega
   have n3 : ((S[k].toNat : Int) == 9) = false := by simp; omega
   have n4 : ((S[k].toNat : Int) == 13) = false := by simp; omega
   by_cases b3 : S[k].toNat = 35
   ·obtain ⟨Zb, hlt2⟩ := s8 (li := li) Zo Ng b3
    have U8 := G2 S k Mc hk;have hc := dS S (by omega) k hk;obtain ⟨r, hr⟩ := xE (Y5 S k Mc);rw [<- hr] at Zb hlt2 U8 hc;have Zu := Za Zb;have HC := Za hc;clear Zb hc hr
    have p4 : ((S[k].toNat : Int) == 35) = true := by simp; omega
    go_wp2
    go_quiet (fail)
    go_wp2
    go_quiet (fail)
    go_wp2
    go_region_with (go_at_call 102; refine (HC.o _).mono ?_; rintro e w' ⟨rfl, rfl⟩)
    all_goals
     go_wp2;have Mr := (HS.o : Xa (wr.drewN (_ + _ + 1)) sb S k li ls mb).set1 r;refine ⟨⟨r, li, ls, Mr, Fp (B2 HG.o _) _ _, by omega, by omega, by omega, by omega, HR.o.trans Zu.o⟩, ?_⟩;have e2 := Xa.at (k := r) Mr;have e1 := Zd.o;rw [e1];exact Nat.lt_of_le_of_lt (Nat.le_of_eq (congrArg (S.size - ·) e2)) (by omega)
   have n5 : ((S[k].toNat : Int) == 35) = false := by simp; omega
   have Zb := s9 (li := li) (ls := ls) Zo ⟨b1, by omega, by omega, by omega, b3⟩;have Zu := Za Zb;clear Zb;go_wp2
   go_quiet (fail)
   go_wp2
   go_quiet (fail)
   go_wp2
   first | go_end0 | (simp only [Exit.inBlock, Exit.then]; refine bodyPost_ret (results_none rfl _ _ _) rfl ?_) | refine bodyPost_ret (results_none rfl _ _ _) rfl ?_
   exact ⟨rfl, k, li, ls, HS.o, B2 HG.o _, by omega, by omega, by omega, by omega, HR.o.trans Zu.o⟩
  ·have Zb := s6 (li := li) (ls := ls) Zo
   have Zu := Za Zb;clear Zb;go_wp2
   go_quiet (fail)
   go_wp2
   first | go_end0 | (simp only [Exit.inBlock, Exit.then]; refine bodyPost_ret (results_none rfl _ _ _) rfl ?_) | refine bodyPost_ret (results_none rfl _ _ _) rfl ?_
   exact ⟨rfl, k, li, ls, HS.o, B2 HG.o _, by omega, by omega, by omega, by omega, HR.o.trans Zu.o⟩
def Mi (i : Nat) : ByteArray := ⟨(Tl.getD i []).toArray⟩
def Words (w : World) : Prop := ∀ i, i < 25 -> w.cell? ⟨4, i, none⟩ = some (.string (Mi i))
theorem Words.lt {w : World} (h : Words w) : 4 < w.heap.size := World.block_lt_of_cell? w _ (h 0 (by decide))
theorem Words.below {w w' : World} (h : Words w) (hb : Below w.heap.size w w') : Words w' := fun i hi => (hb.cell (show 4 < w.heap.size from h.lt)).trans (h i hi)
def Jq : List Value := (List.range 25).map fun i => .string (Mi i)
theorem Cm (i : Nat) (hi : i < 25) : Jq[i]? = some (.string (Mi i)) := by simp [Jq, hi]
theorem Words.range {w : World} (h : Words w) : w.rangeAt 4 0 Jq := by
 intro j v hv
 have hj : j < 25 := by
  have := (List.getElem?_eq_some_iff.1 hv).1
  simpa [Jq] using this
 rw [Cm j hj] at hv
 injection hv with hv
 rw [<- hv, Nat.zero_add]
 exact h j hj
theorem yV : (prog.info? 181).map (·.size) = some Jq.length := by kernel_rfl
def Al (s : ByteArray) (k : Nat) : Prop := ∀ i, i < k -> s ≠ Mi i
theorem Ay (s : ByteArray) : Tl.contains s.data.toList = true ↔ ∃ i, i < 25 /\ s = Mi i := by
 rw [List.contains_iff_mem]
 constructor
 ·intro h
  obtain ⟨i, hi, e⟩ := List.mem_iff_getElem.1 h;refine ⟨i, hi, ?_⟩;unfold Mi;rw [List.getD_eq_getElem?_getD, List.getElem?_eq_getElem hi, Option.getD_some, e]
 ·rintro ⟨i, hi, e⟩
  rw [e];unfold Mi;rw [List.getD_eq_getElem?_getD, List.getElem?_eq_getElem (show i < Tl.length from hi), Option.getD_some];exact List.getElem_mem ..
theorem Ge {s t : ByteArray} : (s.toList == t.toList) = true ↔ s = t := by
 rw [ByteArray.toList_eq, ByteArray.toList_eq, beq_iff_eq]
 constructor
 ·intro h
  cases s; cases t
  simp at h;rw [h]
 ·rintro rfl; rfl
theorem Ar {s t : ByteArray} (h : (s.toList == t.toList) = false) : s ≠ t := fun e => by
 rw [Ge.2 e] at h
 cases h
theorem yU {A : List Value} {k : Nat} {t : ByteArray} (hk : k < 25) (h : A[k]? = some (.string t)) (w : World) :
  (Instr.index 181 (.agg A.toArray) (.int .i64 k)).run prog w = .ok (.string t) w := by
 have hu := underlying181
 have ha := isAgg9
 have hz := sizeOf9
 simp [Instr.index, asIntOf, run_underlying hu, part, ha, hz, Result.andThen, hk]
 rw [h]
 rfl
theorem Ii (s : ByteArray) (w : World) (hw : Words w) :
  Calls prog 107 #[.string s] w fun e w' => e = .returned (.bool (Tl.contains s.data.toList)) /\ w' = w := by
 obtain ⟨b, hb⟩ := xE (Tl.contains s.data.toList)
 rw [<- hb]
 have HB := Za hb
 clear hb
 have hr := Za hw.range
 obtain ⟨A, hA⟩ := xE Jq
 have Zd := Cm
 have hsz := yV
 rw [<- hA] at hr Zd hsz
 clear hA hw
 have HA := Za Zd
 clear Zd
 go_enter func107, ntmps107
 go_wp2_with (refine wpList_load_mid rfl 181 (.global 4) rfl 4 0 rfl A (.array 25 9) hr.o underlying181 rfl hsz ?_)
 go_loop [6] (fun i => ∃ k : Nat, k <= 25 /\ i = .int .i64 k /\ xQ (Al s k)) (fun i => 25 - (intOf i).toNat)
 case atStart => exact ⟨0, by omega, rfl, fun i hi => by omega⟩
 case round =>
  obtain ⟨k, hk, rfl, Vb⟩ := hrel;by_cases Zo : k < 25
  ·have hAk := HA.o k Zo
   obtain ⟨t, ht⟩ := xE (Mi k);rw [<- ht] at hAk;have hix := yU Zo hAk w;clear hAk;have HT := Za ht;clear ht;cases hq : (s.toList == t.toList)
   ·have Jg : xQ (Al s (k + 1)) := fun i hi => by
     by_cases hik : i = k
     ·subst hik; rw [<- HT.o]; exact Ar hq
     ·exact Vb.o i (by omega)
    go_wp2
    go_round
    case rel => exact ⟨k + 1, by omega, by go_num, Jg⟩
    case measure => simp [intOf]; omega
   ·have e : b = true := by
     rw [HB.o];exact (Ay s).2 ⟨k, Zo, (Ge.1 hq).trans HT.o⟩
    subst e;go_wp2;go_ret;exact ⟨rfl, rfl⟩
  ·have e : b = false := by
    rw [HB.o, Bool.eq_false_iff];intro h;obtain ⟨i, hi, e⟩ := (Ay s).1 h;exact Vb.o i (by omega) e
   subst e;go_wp2;go_ret;exact ⟨rfl, rfl⟩
theorem Dh (S : ByteArray) (i j : Nat) : S.extract i j = ⟨((S.data.toList.drop i).take (j - i)).toArray⟩ := by
 apply ByteArray.ext
 rw [ByteArray.data_extract]
 apply Array.toList_inj.1
 rw [Array.toList_extract]
theorem aR (p : UInt8 -> Bool) (l : List UInt8) : l.take (l.takeWhile p).length = l.takeWhile p := by
 induction l with
 | nil => rfl
 | cons b r ih =>
  by_cases h : p b = true
  ·rw [List.takeWhile_cons_of_pos h, List.length_cons, List.take_succ_cons, ih]
  ·rw [List.takeWhile_cons_of_neg h]; rfl
theorem O4 (S : ByteArray) (k : Nat) (p : UInt8 -> Bool) : S.extract k (Y5 S k p) = ⟨((S.data.toList.drop k).takeWhile p).toArray⟩ := by
 rw [Dh]
 unfold Y5
 rw [Nat.add_sub_cancel_left, aR]
theorem dU (S : ByteArray) (hS : S.size <= 65536) (sb mb k li ls : Nat) (hk : k <= S.size) (w : World) (Yv : Xa w sb S k li ls mb) :
  Calls prog 105 #[.pointer (some ⟨sb, 0, none⟩), .func (.func 106) #[] #[]] w fun e w' => e = .returned (.string ⟨((S.data.toList.drop k).takeWhile Y8).toArray⟩) /\
   Xa w' sb S (Y5 S k Y8) li ls mb /\ w.grownBy w' (some sb) := by
 have U8 := G2 S k Y8 hk
 have hge : k <= Y5 S k Y8 := by unfold Y5; omega
 have hc := Oc S (by omega) k hk
 obtain ⟨r, hr⟩ := xE (Y5 S k Y8)
 rw [<- hr] at U8 hge hc ⊢
 have HC := Za hc
 have HR := Za hr
 have HS := Za Yv
 have c0 := Yv.c0
 have c1 := Yv.c1
 have f1 := Yv.fz 1
 clear hc hr Yv
 go_enter func105, ntmps105
 go_wp2_with fail
 refine (HC.o _).mono ?_
 rintro e w' ⟨rfl, rfl⟩
 go_wp2
 go_quiet (fail)
 go_wp2
 go_ret
 refine ⟨?_, HS.o.set1 r, B2 (Fp (World.grownBy.refl _ _) _ _) _⟩
 rw [<- O4, <- HR.o]
 rfl
theorem dT (S : ByteArray) (hS : S.size <= 65536) (sb mb k li ls : Nat) (hk : k <= S.size) (w : World) (Yv : Xa w sb S k li ls mb) :
  Calls prog 105 #[.pointer (some ⟨sb, 0, none⟩), .func (.func 108) #[] #[]] w fun e w' => e = .returned (.string ⟨((S.data.toList.drop k).takeWhile Y9).toArray⟩) /\
   Xa w' sb S (Y5 S k Y9) li ls mb /\ w.grownBy w' (some sb) := by
 have U8 := G2 S k Y9 hk
 have hge : k <= Y5 S k Y9 := by unfold Y5; omega
 have hc := dR S (by omega) k hk
 obtain ⟨r, hr⟩ := xE (Y5 S k Y9)
 rw [<- hr] at U8 hge hc ⊢
 have HC := Za hc
 have HR := Za hr
 have HS := Za Yv
 have c0 := Yv.c0
 have c1 := Yv.c1
 have f1 := Yv.fz 1
 clear hc hr Yv
 go_enter func105, ntmps105
 go_wp2_with fail
 refine (HC.o _).mono ?_
 rintro e w' ⟨rfl, rfl⟩
 go_wp2
 go_quiet (fail)
 go_wp2
 go_ret
 refine ⟨?_, HS.o.set1 r, B2 (Fp (World.grownBy.refl _ _) _ _) _⟩
 rw [<- O4, <- HR.o]
 rfl
def tokA (kind : Int) (text : ByteArray) (li co : Int) : Value := .agg #[.int .i64 kind, .string text, .int .i64 li, .int .i64 co]
theorem vM (S : ByteArray) (sb mb k li ls : Nat) (hk : k <= 65536) (Ng : ls <= k) (w : World) (Yv : Xa w sb S k li ls mb) :
  Calls prog 61 #[.pointer (some ⟨sb, 0, none⟩)] w fun e w' => e = .returned (tokA 0 ByteArray.empty li ((k - ls + 1 : Nat) : Int)) /\ w.grownBy w' none := by
 have Ws := Yv.lt
 have c1 := Yv.c1
 have c2 := Yv.c2
 have c3 := Yv.c3
 clear Yv
 go_enter func61, ntmps61
 go_wp2
 go_region
 all_goals
  go_wp2;refine bodyPost_ret (results_cell_row rfl _ _ w.heap.size 81 #[.int .i64 0, .string { data := #[] }, .int .i64 li, .int .i64 ((k : Int) - (ls : Int) + 1)] (0, 0) _ rfl (xL w _) underlying81 rfl (by kernel_rfl)) rfl ⟨?_, ?_⟩
  ·rw [show ((k - ls + 1 : Nat) : Int) = (k : Int) - (ls : Int) + 1 from by omega]
   rfl
  ·exact lT (World.grownBy_alloc _ _ _)
structure Xv (w w' : World) (a b : Nat) : Prop where
 os : w'.os = w.os
 tape : w'.tape = w.tape
 output : w'.output = w.output
 size : w.heap.size <= w'.heap.size
 block : ∀ i, i < w.heap.size -> i ≠ a -> i ≠ b -> w'.heap[i]? = w.heap[i]?
theorem Xv.refl (w : World) (a b : Nat) : Xv w w a b := ⟨rfl, rfl, rfl, xR, fun _ _ _ _ => rfl⟩
theorem Xv.trans {w w1 w2 : World} {a b : Nat} (h : Xv w w1 a b) (k : Xv w1 w2 a b) : Xv w w2 a b :=
 ⟨k.os.trans h.os, k.tape.trans h.tape, k.output.trans h.output, Nat.le_trans h.size k.size, fun i hi ha hb => (k.block i (xT hi h.size) ha hb).trans (h.block i hi ha hb)⟩
theorem Xv.ofNone {w w' : World} (h : w.grownBy w' none) (a b : Nat) : Xv w w' a b := ⟨h.os, h.tape, h.output, h.size, fun i hi _ _ => h.block i hi (by simp)⟩
theorem Xv.ofL {w w' : World} {a : Nat} (h : w.grownBy w' (some a)) (b : Nat) : Xv w w' a b := ⟨h.os, h.tape, h.output, h.size, fun i hi ha _ => h.block i hi (by simpa using ha)⟩
theorem Xv.ofR {w w' : World} {b : Nat} (h : w.grownBy w' (some b)) (a : Nat) : Xv w w' a b := ⟨h.os, h.tape, h.output, h.size, fun i hi _ hb => h.block i hi (by simpa using hb)⟩
theorem Xv.setL {w w' : World} {a b : Nat} (h : Xv w w' a b) (o : Nat) (v : Value) : Xv w (w'.setCell ⟨a, o, none⟩ v) a b := h.trans (.ofL (Fp (World.grownBy.refl _ _) o v) b)
theorem Xv.setR {w w' : World} {a b : Nat} (h : Xv w w' a b) (o : Nat) (v : Value) : Xv w (w'.setCell ⟨b, o, none⟩ v) a b := h.trans (.ofR (Fp (World.grownBy.refl _ _) o v) a)
theorem Xv.drewN {w w' : World} {a b : Nat} (h : Xv w w' a b) (n : Nat) : Xv w (w'.drewN n) a b := ⟨h.os, h.tape, h.output, h.size, h.block⟩
theorem Xv.drew {w w' : World} {a b : Nat} (h : Xv w w' a b) : Xv w w'.drew a b := ⟨h.os, h.tape, h.output, h.size, h.block⟩
theorem Xv.below {w w' : World} {a b B : Nat} (h : Xv w w' a b) (hB : B <= w.heap.size) (ha : B <= a) (hb : B <= b) : Below B w w' :=
 ⟨h.os, h.tape, h.output, h.size, fun i hi => h.block i (by omega) (by omega) (by omega)⟩
theorem Xv.words {w w' : World} {a b : Nat} (h : Xv w w' a b) (hw : Words w) (ha : 4 ≠ a) (hb : 4 ≠ b) : Words w' := fun i hi => by
 have := hw i hi
 rw [World.cell?_of_block (w := w) (h.block 4 hw.lt ha hb)]
 exact this
theorem Xv.map {w w' : World} {a b mb n : Nat} {D : DataW Unit} (h : Xv w w' a b) (ho : w.ownsMap prog 150 unitElem mb n D) (ha : mb ≠ a) (hb : mb ≠ b) : w'.ownsMap prog 150 unitElem mb n D := by
 have Zo := ho.lt
 obtain ⟨es, clock, hh, r⟩ := ho
 exact ⟨es, clock, by rw [h.block mb Zo ha hb]; exact hh, r⟩
theorem Xv.owns {w w' : World} {a b base e size n : Nat} {v : Value} {xs : List Value} (h : Xv w w' a b) (ho : w.ownsRow base e size v n xs) (ha : v.ownBlock ≠ some a) (hb : v.ownBlock ≠ some b) : w'.ownsRow base e size v n xs := by
 obtain ⟨h1, h2⟩ := ho
 refine ⟨h1, ?_⟩
 rcases h2 with h2 | ⟨g, cap, cur, rfl, hg, hh, r⟩
 ·exact .inl h2
 ·refine .inr ⟨g, cap, cur, rfl, hg, ?_, r⟩
  rw [h.block g (xB hh) (fun e => ha (by simp [Value.ownBlock, e])) (fun e => hb (by simp [Value.ownBlock, e]))];exact hh
def Gm (l : List UInt8) : List Value := l.map fun b => .int .u8 b.toNat
theorem bB (l : List UInt8) : (Gm l).length = l.length := by simp [Gm]
theorem bC (l : List UInt8) (b : UInt8) : Gm (l ++ [b]) = Gm l ++ [.int .u8 b.toNat] := by simp [Gm]
theorem aI (l : List UInt8) : strOfNums (l.map fun b => (b.toNat : Int)) = ⟨l.toArray⟩ := by
 unfold strOfNums
 congr 1
 simp [Function.comp_def]
theorem bW {w : World} {B n : Nat} {v : Value} {l : List UInt8} (h : w.ownsRow B 5 1 v n (Gm l)) : (convert 145 9 v).run prog w = .ok (.string ⟨l.toArray⟩) w := by
 have hl : l.length = n := by
  have := h.1;rw [bB] at this;omega
 rw [<- aI]
 rcases h.2 with ⟨rfl, h0⟩ | ⟨g, cap, cur, rfl, _⟩
 ·have : l = [] := List.eq_nil_of_length_eq_zero (by omega)
  rw [this];exact run_convert_bytes_nil w 145 5 underlying145 underlying5 0 0 9 underlying9
 ·refine run_convert_bytes_arg w 145 5 underlying145 underlying5 g 0 n cap _ (by simpa using hl) ?_ 9 underlying9
  intro i hi;have := h.cells (g := g) rfl i (.int .u8 ((l.map fun b => (b.toNat : Int)).getD i 0)) (by simp [Gm, List.getD, show i < l.length by omega])
  have Fq : (⟨g, 0, none⟩ : Addr).add i = ⟨g, 0 + i, none⟩ := by unfold Addr.add; split <;> simp_all
  rw [Fq] at this;exact this
theorem Es (W : World) (x : Int) (t : TypeId) : ∀ j u, [Value.int .u8 x][j]? = some u -> (W.alloc (.cells #[.int .u8 x] t)).cell? ((⟨W.heap.size, 0, none⟩ : Addr).add j) = some u := by
 intro j u hj
 match j, hj with
 | 0, hj =>
  simp at hj;subst hj;simp [Addr.add]
theorem Rr (x : Int) : ∀ u ∈ [Value.int .u8 x], u.oneCell' = true := by
 intro u hu
 simp at hu
 subst hu
 rfl
theorem kD : (prog.info? 5).map (fun i => (i.zero, i.size, i.bytes)) = some (some (.int .u8 0), 1, 1) := by kernel_rfl
end Go.Proofs.YtfoejkhfdiodhaaGreatDoor.Lx
/- The contracts of Go's library that this seat uses, laid at its dump: each is one application of the shelf's theorem. -/
namespace Go.Proofs
open Go.Proofs.Tryz
open Go.Shelf Go.RowKit Go.Lib
def lays137_ren : Go.Shelf.Ren := ⟨fun | 137 => 96 | 217 => 136 | 266 => 153 | n => n, fun | 9 => 9 | 5 => 5 | 3 => 3 | n => n, fun | n => n⟩
theorem lays137 : Go.Proofs.Lays.n137 prog lays137_ren := {
  mixed := by kernel_rfl
  f137 := func96.trans (congrArg some (by kernel_rfl))
  f217 := func136.trans (congrArg some (by kernel_rfl))
  f266 := func153.trans (congrArg some (by kernel_rfl))
  t3 := underlying3
  a3 := isAgg3
  z3 := sizeOf3
  v3 := zeroValue3
  t5 := underlying5
  a5 := isAgg5
  z5 := sizeOf5
  v5 := zeroValue5
  t9 := underlying9
  a9 := isAgg9
  z9 := sizeOf9
  v9 := zeroValue9 }
theorem strings_IndexByte (s : ByteArray) (c : Int) (w : World) :
    Calls prog 96 #[.string s, .int .u8 c] w fun e w' => e = .returned (.int .i64 (Lib.indexByte s.data.toList c.toNat.toUInt8)) /\ w' = w := Any.strings_IndexByte lays137 s c w
end Go.Proofs
namespace Go.Proofs.YtfoejkhfdiodhaaGreatDoor.Lx
open Go.Proofs.Tryz
open Go.RowKit Go.Maps
def Gv (c : UInt8) : Int := if c = 92 then 0 else if c = 34 then 1 else if c = 110 then 2 else if c = 116 then 3 else -1
theorem kA (c : UInt8) : Lib.indexByte [92, 34, 110, 116] c = Gv c := by
 unfold Gv
 by_cases h1 : c = 92
 ·subst h1; decide
 by_cases h2 : c = 34
 ·subst h2; decide
 by_cases h3 : c = 110
 ·subst h3; decide
 by_cases h4 : c = 116
 ·subst h4; decide
 have e1 : ((92 : UInt8) == c) = false := by simpa using fun h => h1 h.symm
 have e2 : ((34 : UInt8) == c) = false := by simpa using fun h => h2 h.symm
 have e3 : ((110 : UInt8) == c) = false := by simpa using fun h => h3 h.symm
 have e4 : ((116 : UInt8) == c) = false := by simpa using fun h => h4 h.symm
 simp [Lib.indexByte, e1, e2, e3, e4, h1, h2, h3, h4]
theorem pM (c : UInt8) : ((c.toNat : Int).toNat).toUInt8 = c := by simp
theorem kT (c : UInt8) (w : World) : Calls prog 96 #[.string { data := #[92, 34, 110, 116] }, .int .u8 c.toNat] w fun e w' => e = .returned (.int .i64 (Gv c)) /\ w' = w := by
 have h := strings_IndexByte { data := #[92, 34, 110, 116] } c.toNat w
 rw [pM, kA] at h
 exact h
theorem kS (S : ByteArray) (i : Nat) (hi : S.size <= i) (w : World) : Calls prog 140 #[.string S, .int .i64 i] w fun e w' => e = .returned (.int .i64 (-1)) /\ w' = w := by
 go_enter func140, ntmps140
 go_wp2
 go_ret
 exact ⟨rfl, rfl⟩
theorem kR (S : ByteArray) (i : Nat) (hi : i < S.size) (w : World) : Calls prog 140 #[.string S, .int .i64 i] w fun e w' => e = .returned (.int .i64 (Gv S[i])) /\ w' = w := by
 have hc := Za (kT S[i])
 obtain ⟨x, hx⟩ := xE (Gv S[i])
 rw [<- hx] at hc ⊢
 clear hx
 go_enter func140, ntmps140
 go_wp2_with fail
 refine (hc.o _).mono ?_
 rintro e w' ⟨rfl, rfl⟩
 go_wp2
 go_ret
 exact ⟨rfl, rfl⟩
theorem kB (l : List UInt8) (c : UInt8) : (0 <= Lib.indexByte l c) ↔ c ∈ l := by
 induction l with
 | nil => simp [Lib.indexByte]
 | cons b r ih =>
  unfold Lib.indexByte;by_cases h : b = c
  ·subst h; simp
  ·have e : (b == c) = false := by simpa using h
   rw [if_neg (by rw [e]; decide)];by_cases h2 : c ∈ r
   ·have h3 := ih.2 h2
    have e2 : (Lib.indexByte r c == -1) = false := by simp; omega
    rw [if_neg (by rw [e2]; decide)];simp [h2];omega
   ·have h3 : ¬ 0 <= Lib.indexByte r c := fun hh => h2 (ih.1 hh)
    simp only [List.mem_cons, h2, or_false]
    constructor
    ·intro h4
     exfalso
     split at h4
     ·omega
     ·rename_i h5
      simp at h5
      have : Lib.indexByte r c < -1 ∨ Lib.indexByte r c = -1 := by omega
      have Je : -1 <= Lib.indexByte r c := by
       clear ih h2 h3 h4 h5 this
       induction r with
       | nil => simp [Lib.indexByte]
       | cons d r ih2 =>
        unfold Lib.indexByte
        split
        ·omega
        split
        ·omega
        ·omega
      omega
    ·intro h4; exact absurd h4.symm h
def I8 (c : UInt8) : Int := Lib.indexByte Gb c
theorem gH (c : UInt8) : 0 <= I8 c ↔ Gb.contains c = true := by
 rw [I8, kB, List.contains_iff_mem]
theorem gG (c : UInt8) (w : World) : Calls prog 96 #[.string { data := #[40, 41, 123, 125, 91, 93, 44, 58, 59, 61, 43, 45, 42, 47, 37, 38, 94, 60, 124, 46] }, .int .u8 c.toNat] w fun e w' =>
  e = .returned (.int .i64 (I8 c)) /\ w' = w := by
 have h := strings_IndexByte { data := #[40, 41, 123, 125, 91, 93, 44, 58, 59, 61, 43, 45, 42, 47, 37, 38, 94, 60, 124, 46] } c.toNat w
 rw [pM] at h
 exact h
theorem sY {S : ByteArray} {k : Nat} (hk : k + 1 < S.size) (h : L5.contains (S[k], S[k + 1]) = true) : V5 (S.data.toList.drop k) = 2 := by
 rw [Va S k (by omega), Va S (k + 1) hk, V5, if_pos h]
theorem qQ {S : ByteArray} {k : Nat} (hk : k < S.size) (h : ∀ P8 : k + 1 < S.size, L5.contains (S[k], S[k + 1]) = false) : V5 (S.data.toList.drop k) = if Gb.contains S[k] then 1 else 0 := by
 rw [Va S k hk]
 by_cases h1 : k + 1 < S.size
 ·rw [Va S (k + 1) h1, V5, if_neg (by rw [h h1]; decide)]
 ·rw [List.drop_eq_nil_of_le (by rw [Xw]; omega), V5]
theorem tP {w : World} {mb : Nat} {D : DataW Unit} (Xk : w.ownsMap prog 150 unitElem mb 8 D) (hD : St D) (a b : UInt8) {v : Bool} (hv : L5.contains (a, b) = v) :
  (Instr.lookup 106 (.map (some mb)) (.agg #[.int .u8 a.toNat, .int .u8 b.toNat]) true).run prog w = .ok (.tuple #[.agg #[], .bool v]) w := by
 subst hv
 obtain ⟨v, ps, Dm, hv⟩ := Xk.look_ok zU underlying106 (zeroValue151 w) (zd := .agg []) (zp := []) unitElem_mk (E4 a b)
 obtain ⟨rfl, _⟩ := unitElem_inv hv
 rw [hD a b _ (E4 a b)] at Dm
 exact Dm
theorem Ah (w : World) (n : Nat) (o : Obj) : w.grownBy ((w.drewN n).alloc o) none := (B2 (World.grownBy.refl w none) n).trans (World.grownBy_alloc _ _ _)
theorem sV (S : ByteArray) (hS : S.size <= 65536) (sb mb k : Nat) (li ls : Int) (hk0 : k < S.size) (w : World) (Yv : Xa w sb S k li ls mb) (D : DataW Unit) (Xk : w.ownsMap prog 150 unitElem mb 8 D) (hD : St D) :
  Calls prog 141 #[.pointer (some ⟨sb, 0, none⟩)] w fun e w' => e = .returned (.int .i64 (V5 (S.data.toList.drop k))) /\ w.grownBy w' none := by
 obtain ⟨r, hr⟩ := xE (V5 (S.data.toList.drop k))
 rw [<- hr]
 have HR := Za hr
 clear hr
 have hone := Za (gG S[k])
 have Ac := Za (gH S[k])
 obtain ⟨x, hx⟩ := xE (I8 S[k])
 rw [<- hx] at hone Ac
 clear hx
 have c0 := Yv.c0
 have c1 := Yv.c1
 have c4 := Yv.c4
 have hx0 : 0 <= x ∨ x < 0 := by omega
 by_cases hk : k + 1 < S.size
 ·have P8 : (k : Int) + 1 < (S.size : Int) := by omega
  have Mq : (0 : Int) <= (k : Int) + 1 := by omega
  obtain ⟨v, hv⟩ := xE (L5.contains (S[k], S[k + 1]))
  have hl : ∀ n, (Instr.lookup 106 (.map (some mb)) (.agg #[.int .u8 S[k].toNat, .int .u8 S[k + 1].toNat]) true).run prog (w.drewN n) = .ok (.tuple #[.agg #[], .bool v]) (w.drewN n) :=
   fun n => tP (w := w.drewN n) Xk hD _ _ hv.symm
  have V0 : ∀ n, (Instr.lookup 106 (.map (some mb)) (.agg #[.int .u8 S[k].toNat, .int .u8 S[k + 1].toNat]) true).run prog ((w.drewN n).alloc (.cells #[] 151)) = .ok (.tuple #[.agg #[], .bool v]) ((w.drewN n).alloc (.cells #[] 151)) :=
   fun n => tP (Xk.kept (Ah w n _) (by simp)) hD _ _ hv.symm
  have d0 : ∀ n, ((w.drewN n).alloc (.cells #[] 151)).cell? ⟨sb, 0, none⟩ = some (.string S) := fun n => (Yv.kept (Ah w n _) (by simp)).c0
  have d1 : ∀ n, ((w.drewN n).alloc (.cells #[] 151)).cell? ⟨sb, 1, none⟩ = some (.int .i64 k) := fun n => (Yv.kept (Ah w n _) (by simp)).c1
  have d4 : ∀ n, ((w.drewN n).alloc (.cells #[] 151)).cell? ⟨sb, 4, none⟩ = some (.map (some mb)) := fun n => (Yv.kept (Ah w n _) (by simp)).c4
  have HV := Za hv;clear Yv Xk hD hv;cases v
  ·have e1 := qQ hk0 (fun _ => HV.o.symm)
   rw [<- HR.o] at e1
   have e3 : (0 <= x /\ r = 1) ∨ (x < 0 /\ r = 0) := by
    rcases hx0 with h | h
    ·exact .inl ⟨h, by rw [e1, Ac.o.1 h]; rfl⟩
    ·refine .inr ⟨h, ?_⟩
     rw [e1, if_neg];intro hh;have := Ac.o.2 hh;omega
   clear e1 hx0;go_enter func141, ntmps141;go_wp2
   go_quiet (fail)
   go_wp2;go_region
   all_goals
    clear hl V0 c0 c1 c4;rcases e3 with ⟨h, rfl⟩ | ⟨h, rfl⟩
    ·go_wp2
     go_quiet ((go_at_call 96; refine Calls.quiet_of_same (hone.o _)))
     go_wp2;go_ret;exact ⟨rfl, B2 (Ah _ _ _) _⟩
    ·go_wp2
     go_quiet ((go_at_call 96; refine Calls.quiet_of_same (hone.o _)))
     go_wp2;go_ret;exact ⟨rfl, B2 (Ah _ _ _) _⟩
  ·have e1 := sY hk HV.o.symm
   rw [<- HR.o] at e1;subst e1;go_enter func141, ntmps141;go_wp2
   go_quiet (fail)
   go_wp2;go_region
   all_goals
    go_wp2;go_ret;exact ⟨rfl, Ah _ _ _⟩
 ·have P8 : ¬ (k : Int) + 1 < (S.size : Int) := by omega
  have e1 := qQ hk0 (fun h => absurd h hk);rw [<- HR.o] at e1
  have e3 : (0 <= x /\ r = 1) ∨ (x < 0 /\ r = 0) := by
   rcases hx0 with h | h
   ·exact .inl ⟨h, by rw [e1, Ac.o.1 h]; rfl⟩
   ·refine .inr ⟨h, ?_⟩
    rw [e1, if_neg];intro hh;have := Ac.o.2 hh;omega
  clear Yv Xk hD c4 e1 hx0;have C0 := Za c0;have C1 := Za c1;go_enter func141, ntmps141;go_wp2
  go_quiet (fail)
  go_wp2;generalize hw1 : World.drewN w _ = w1
  have hg : xQ (w.grownBy w1 none) := by rw [<- hw1]; exact B2 (World.grownBy.refl _ _) _
  have d0 : w1.cell? ⟨sb, 0, none⟩ = some (.string S) := by rw [<- hw1]; exact C0.o
  have d1 : w1.cell? ⟨sb, 1, none⟩ = some (.int .i64 k) := by rw [<- hw1]; exact C1.o
  clear c0 c1 hw1;rcases e3 with ⟨h, rfl⟩ | ⟨h, rfl⟩
  ·go_quiet ((go_at_call 96; refine Calls.quiet_of_same (hone.o _)))
   go_wp2;go_ret;exact ⟨rfl, B2 hg.o _⟩
  ·go_quiet ((go_at_call 96; refine Calls.quiet_of_same (hone.o _)))
   go_wp2;go_ret;exact ⟨rfl, B2 hg.o _⟩
end Go.Proofs.YtfoejkhfdiodhaaGreatDoor.Lx
namespace Go.Proofs.YtfoejkhfdiodhaaGreatDoor.Lx
open Go.Proofs.Tryz
open Go.RowKit
def Ct (S : ByteArray) (sb mb k : Nat) (li ls : Int) (tb : Nat) (kd tl tc : Int) (w : World) (n : Nat) (e : Ending) (w' : World) : Prop :=
 if n = 0 then e = .returned (.int .i64 5) /\ w.grownBy w' none else
  e = .returned (.int .i64 0) /\ Xa w' sb S ((k + n : Nat) : Int) li ls mb /\ Xr w' tb kd ⟨((S.data.toList.drop k).take n).toArray⟩ tl tc /\ Xv w w' sb tb
theorem dC (S : ByteArray) (hS : S.size <= 65536) (sb mb k : Nat) (li ls : Int) (hk : k < S.size) (tb : Nat) (kd : Int) (tx : ByteArray) (tl tc : Int) (Z3 : sb ≠ tb) (w : World) (Yv : Xa w sb S k li ls mb) (Vm : Xr w tb kd tx tl tc)
  (D : DataW Unit) (Xk : w.ownsMap prog 150 unitElem mb 8 D) (hD : St D) :
  Calls prog 111 #[.pointer (some ⟨sb, 0, none⟩), .pointer (some ⟨tb, 0, none⟩)] w (Ct S sb mb k li ls tb kd tl tc w (V5 (S.data.toList.drop k))) := by
 have hc := sV S hS sb mb k li ls hk w Yv D Xk hD
 have U8 := Oh (S.data.toList.drop k)
 rw [List.length_drop, Xw] at U8
 obtain ⟨n, hn⟩ := xE (V5 (S.data.toList.drop k))
 rw [<- hn] at hc U8 ⊢
 have HC := Za hc
 have HS := Za Yv
 have HT := Za Vm
 clear hn hc Yv Vm Xk hD
 by_cases h0 : n = 0
 ·subst h0
  go_enter func111, ntmps111;go_wp2_with fail;refine HC.o.mono ?_;rintro e w1 ⟨rfl, hg⟩;have HG := Za hg;clear hg;go_wp2;go_ret;exact ⟨rfl, HG.o⟩
 have b0 : ((n : Int) == 0) = false := by simp; omega
 have l1 : (k : Int) + (n : Int) <= (S.size : Int) := by omega
 have l2 : (k : Int) <= (k : Int) + (n : Int) := by omega
 go_enter func111, ntmps111
 go_wp2_with fail
 refine HC.o.mono ?_
 rintro e w1 ⟨rfl, hg⟩
 have HG := Za hg
 have Xx := HS.o.kept hg (by simp)
 have Vt := HT.o.kept hg (by simp)
 have Y7 := Za Xx
 have M1 := Za Vt
 have c0 := Xx.c0
 have c1 := Xx.c1
 have f1 := Xx.fz 1
 have t1 := Vt.c1
 have g1 := Vt.fz 1
 clear hg Xx Vt
 go_wp2
 go_region
 all_goals
  have Wc := Y7.o.kept (K6 w1 ⟨tb, 1, none⟩ (.string (S.extract k (k + n)))) (by simpa using Z3);have P3 := Za Wc;have d1 := Wc.c1;have e1 := Wc.fz 1;clear Wc;go_wp2;go_ret;rw [Ct, if_neg h0];refine ⟨rfl, P3.o.set1 _, ?_, ?_⟩
  ·have := (M1.o.set1 (S.extract k (k + n))).kept (K6 _ ⟨sb, 1, none⟩ (.int .i64 ((k : Int) + n))) (by simpa using Z3.symm)
   rw [Dh, Nat.add_sub_cancel_left] at this;rw [Dh, Nat.add_sub_cancel_left];exact this
  ·exact (((Xv.ofNone HG.o sb tb).setR 1 _).setL 1 _).drew
theorem kP {c x : UInt8} (h : Kp c = some x) : ∃ j : Nat, j < 4 /\ Gv c = j /\ (ByteArray.mk #[92, 34, 10, 9])[j]? = some x := by
 unfold Kp at h
 unfold Gv
 repeat' split at h
 ·injection h with h; subst h; exact ⟨0, by omega, by simp [*], rfl⟩
 ·injection h with h; subst h; exact ⟨1, by omega, by simp [*], rfl⟩
 ·injection h with h; subst h; exact ⟨2, by omega, by simp [*], rfl⟩
 ·injection h with h; subst h; exact ⟨3, by omega, by simp [*], rfl⟩
 ·cases h
theorem kO {c : UInt8} (h : Kp c = none) : Gv c < 0 := by
 unfold Kp at h
 unfold Gv
 repeat' split at h
 ·cases h
 ·cases h
 ·cases h
 ·cases h
 ·rename_i h1 h2 h3 h4
  rw [if_neg h1, if_neg h2, if_neg h3, if_neg h4]
  decide
def Ur (S : ByteArray) (m : Nat) (acc : List UInt8) : Option (List UInt8 × List UInt8) := Pk (S.data.toList.drop m) acc
section
variable {S : ByteArray} {m : Nat} {acc : List UInt8}
theorem qW (h : ¬ m < S.size) : Ur S m acc = none := by
 unfold Ur
 rw [List.drop_eq_nil_of_le (by rw [Xw]; omega), aK]
theorem pA (h : m < S.size) (hb : S[m].toNat = 34) : Ur S m acc = some (acc, S.data.toList.drop (m + 1)) := by
 unfold Ur
 rw [Va S m h, show S[m] = 34 from UInt8.toNat_inj.1 hb, pH]
theorem qX (h : m < S.size) (hb : S[m].toNat < 32) : Ur S m acc = none := by
 unfold Ur
 rw [Va S m h, pE hb]
theorem qZ (h : m < S.size) (h1 : S[m].toNat ≠ 34) (h2 : ¬ S[m].toNat < 32) (h3 : S[m].toNat ≠ 92) : Ur S m acc = Ur S (m + 1) (acc ++ [S[m]]) := by
 unfold Ur
 rw [Va S m h, pG (fun e => h1 (by rw [e]; rfl)) h2 (fun e => h3 (by rw [e]; rfl))]
theorem qV (h : m < S.size) (hb : S[m].toNat = 92) (h1 : ¬ m + 1 < S.size) : Ur S m acc = none := by
 unfold Ur
 rw [Va S m h, show S[m] = 92 from UInt8.toNat_inj.1 hb, List.drop_eq_nil_of_le (by rw [Xw]; omega), pD]
theorem qY (h : m < S.size) (hb : S[m].toNat = 92) (h1 : m + 1 < S.size) (hu : Kp S[m + 1] = none) : Ur S m acc = none := by
 unfold Ur
 rw [Va S m h, show S[m] = 92 from UInt8.toNat_inj.1 hb, Va S (m + 1) h1, pF hu]
theorem pB (h : m < S.size) (hb : S[m].toNat = 92) (h1 : m + 1 < S.size) {x : UInt8} (hu : Kp S[m + 1] = some x) : Ur S m acc = Ur S (m + 2) (acc ++ [x]) := by
 unfold Ur
 rw [Va S m h, show S[m] = 92 from UInt8.toNat_inj.1 hb, Va S (m + 1) h1, pI hu]
end
theorem zT {w : World} {B e z n : Nat} {v : Value} {xs : List Value} (h : w.ownsRow B e z v n xs) : ∃ a cap, v = .slice a n cap := by
 rcases h.2 with ⟨h1, h2⟩ | ⟨g, cap, cur, h1, _⟩
 ·exact ⟨none, 0, by rw [h1, h2]⟩
 ·exact ⟨_, _, h1⟩
theorem gT {w : World} {B e z n : Nat} {v : Value} {xs : List Value} (h : w.ownsRow B e z v n xs) : xQ (∀ j, v.ownBlock = some j -> B <= j) := by
 intro j hj
 rcases h.2 with ⟨h1, h2⟩ | ⟨g, cap, cur, h1, h2, _⟩
 ·rw [h1] at hj; cases hj
 ·rw [h1] at hj
  simp [Value.ownBlock] at hj;omega
theorem Ce {w wr w1 : World} {v v' : Value} {acc : List UInt8} {ob : Obj} (x : UInt8) (hg : w.grownBy wr none) (Z1 : w1.ownsRow w.heap.size 5 1 v' (acc.length + 1) (Gm acc ++ [.int .u8 x.toNat]))
  (Zy : (wr.alloc ob).grownBy w1 v.ownBlock) (hb : ∀ j, v.ownBlock = some j -> w.heap.size <= j) : w1.ownsRow w.heap.size 5 1 v' (acc ++ [x]).length (Gm (acc ++ [x])) /\ w.grownBy w1 none := by
 refine ⟨?_, (hg.trans (World.grownBy_alloc _ _ _)).andThen Zy fun j hj => .inl (hb j hj)⟩
 rw [bC, List.length_append]
 exact Z1
def Cu (S : ByteArray) (sb mb k : Nat) (li ls : Int) (tb : Nat) (kd tl tc : Int) (w : World) (o : Option (List UInt8 × List UInt8)) (e : Ending) (w' : World) : Prop :=
 match o with
 | none => e = .returned (.int .i64 4) /\ w.grownBy w' none
 | some (said, rest) => if 256 < said.length then e = .returned (.int .i64 2) /\ w.grownBy w' none else
   e = .returned (.int .i64 0) /\ ∃ m : Nat, k < m /\ m <= S.size /\ rest = S.data.toList.drop m /\ Xa w' sb S m li ls mb /\ Xr w' tb kd ⟨said.toArray⟩ tl tc /\ Xv w w' sb tb
theorem dD (S : ByteArray) (hS : S.size <= 65536) (sb mb k : Nat) (li ls : Int) (hk : k < S.size) (tb : Nat) (kd : Int) (tx : ByteArray) (tl tc : Int) (Z3 : sb ≠ tb) (w : World) (Yv : Xa w sb S k li ls mb) (Vm : Xr w tb kd tx tl tc) :
  Calls prog 110 #[.pointer (some ⟨sb, 0, none⟩), .pointer (some ⟨tb, 0, none⟩)] w (Cu S sb mb k li ls tb kd tl tc w (Ur S (k + 1) [])) := by
 obtain ⟨o, ho⟩ := xE (Ur S (k + 1) [])
 rw [<- ho]
 have HO := Za ho
 have HS := Za Yv
 have HT := Za Vm
 have c0 := Yv.c0
 have c1 := Yv.c1
 clear ho Yv Vm
 obtain ⟨i0, hi, Wp, Xy, Wr⟩ := info_parts kD
 go_enter func110, ntmps110
 go_wp2
 go_loopw [5, 6] (fun v i wr => ∃ (m : Nat) (acc : List UInt8), k + 1 <= m /\ m <= S.size + 1 /\ i = .int .i64 m /\ acc.length <= m /\ wr.ownsRow w.heap.size 5 1 v acc.length (Gm acc) /\ w.grownBy wr none /\ o = Ur S m acc) (fun _ i _ => S.size + 1 - (intOf i).toNat)
 case atStart => exact ⟨k + 1, [], xR, by omega, by go_num, by simp, World.ownsRow_nil _ _ _ _, World.grownBy.refl _ _, HO.o⟩
 case round =>
  obtain ⟨m, acc, hm, B6, rfl, Na, Xk, hg, hrel⟩ := hrel;have HR := Za hrel;have HG := Za hg;have Yv := HS.o.kept hg (by simp);have Vm := HT.o.kept hg (by simp);have HSC := Za Yv;have HTK := Za Vm;have d0 := Yv.c0;have d1 := Yv.c1;have f1 := Yv.fz 1;have t1 := Vm.c1;have g1 := Vm.fz 1;have HOW := Za Xk;have hsz := hg.size;obtain ⟨a, cap, rfl⟩ := zT Xk;have Z8 := gT Xk;clear hrel hg Yv Vm c0 c1;by_cases Zo : m < S.size
  ·by_cases b1 : S[m].toNat = 34
   ·have p1 : ((S[m].toNat : Int) == 34) = true := by simp; omega
    have e := HR.o.trans (pA Zo b1);have hcv := bW Xk;clear Xk;by_cases hl : 256 < acc.length
    ·subst e
     go_wp2;go_ret;simp only [Cu, if_pos hl];exact ⟨rfl, HG.o⟩
    ·subst e
     go_wp2;go_ret;simp only [Cu, if_neg hl];refine ⟨rfl, m + 1, by omega, by omega, rfl, ?_, ?_, ?_⟩
     ·exact (HSC.o.kept (K6 wr ⟨tb, 1, none⟩ _) (by simpa using Z3)).set1 (m + 1)
     ·exact (HTK.o.set1 _).kept (K6 _ ⟨sb, 1, none⟩ _) (by simpa using Z3.symm)
     ·exact ((Xv.ofNone HG.o sb tb).setR 1 _).setL 1 _
   have n1 : ((S[m].toNat : Int) == 34) = false := by simp; omega
   by_cases b2 : S[m].toNat < 32
   ·have e := HR.o.trans (qX Zo b2)
    have p2 : (S[m].toNat : Int) < 32 := by omega
    clear Xk;subst e;go_wp2;go_ret;exact ⟨rfl, HG.o⟩
   have n2 : ¬ (S[m].toNat : Int) < 32 := by omega
   by_cases b3 : S[m].toNat = 92
   ·have p3 : ((S[m].toNat : Int) == 92) = true := by simp; omega
    by_cases Wh : m + 1 < S.size
    ·have hc := kR S (m + 1) Wh
     cases hu : Kp S[m + 1] with
     | none =>
      have e := HR.o.trans (qY Zo b3 Wh hu);have hneg := kO hu;obtain ⟨x, hx⟩ := xE (Gv S[m + 1]);rw [<- hx] at hc hneg;have HC := Za hc;clear Xk hc hx hu;subst e;go_wp2_with fail;refine (HC.o _).mono ?_;rintro e w' ⟨rfl, rfl⟩;go_wp2;go_ret;exact ⟨rfl, HG.o⟩
     | some x =>
      have e := Za (HR.o.trans (pB Zo b3 Wh hu));obtain ⟨j, hj, hjx, hix⟩ := kP hu;rw [hjx] at hc;have HC := Za hc;clear hc hjx hu
      have hj4 : (j = 0 /\ x = 92) ∨ (j = 1 /\ x = 34) ∨ (j = 2 /\ x = 10) ∨ (j = 3 /\ x = 9) := by
       match j, hj with
       | 0, _ => exact .inl ⟨rfl, (Option.some.inj hix).symm⟩
       | 1, _ => exact .inr (.inl ⟨rfl, (Option.some.inj hix).symm⟩)
       | 2, _ => exact .inr (.inr (.inl ⟨rfl, (Option.some.inj hix).symm⟩))
       | 3, _ => exact .inr (.inr (.inr ⟨rfl, (Option.some.inj hix).symm⟩))
      clear hix hj;rcases hj4 with ⟨rfl, rfl⟩ | ⟨rfl, rfl⟩ | ⟨rfl, rfl⟩ | ⟨rfl, rfl⟩
      ·go_wp2_with fail
       refine (HC.o _).mono ?_;rintro e w' ⟨rfl, rfl⟩
       go_wp2_with (at_builtin; refine wpList_append_own _ rfl (.tmp 60) (.tmp 62) 145 rfl w.heap.size 5 i0 (.int .u8 0) 1 1 underlying145 hi Wp Xy Wr rfl (by decide) _ _ _ rfl (HOW.o.alloc _) ⟨_, 0, none⟩ 1 1 [.int .u8 92] rfl rfl (Es _ 92 5) (Rr 92) (by unfold maxLen; omega) (by omega) (by simp; omega) ?_)
       intro v' w1 Z1 Zy _;have R := Za (Ce 92 HG.o Z1 Zy Z8.o);clear Z1 Zy Xk;go_wp2
       go_roundw
       case rel => exact ⟨m + 2, acc ++ [92], by omega, by omega, by go_num, by simp; omega, R.o.1, R.o.2, e.o⟩
       case measure => simp [intOf]; omega
      ·go_wp2_with fail
       refine (HC.o _).mono ?_;rintro e w' ⟨rfl, rfl⟩
       go_wp2_with (at_builtin; refine wpList_append_own _ rfl (.tmp 60) (.tmp 62) 145 rfl w.heap.size 5 i0 (.int .u8 0) 1 1 underlying145 hi Wp Xy Wr rfl (by decide) _ _ _ rfl (HOW.o.alloc _) ⟨_, 0, none⟩ 1 1 [.int .u8 34] rfl rfl (Es _ 34 5) (Rr 34) (by unfold maxLen; omega) (by omega) (by simp; omega) ?_)
       intro v' w1 Z1 Zy _;have R := Za (Ce 34 HG.o Z1 Zy Z8.o);clear Z1 Zy Xk;go_wp2
       go_roundw
       case rel => exact ⟨m + 2, acc ++ [34], by omega, by omega, by go_num, by simp; omega, R.o.1, R.o.2, e.o⟩
       case measure => simp [intOf]; omega
      ·go_wp2_with fail
       refine (HC.o _).mono ?_;rintro e w' ⟨rfl, rfl⟩
       go_wp2_with (at_builtin; refine wpList_append_own _ rfl (.tmp 60) (.tmp 62) 145 rfl w.heap.size 5 i0 (.int .u8 0) 1 1 underlying145 hi Wp Xy Wr rfl (by decide) _ _ _ rfl (HOW.o.alloc _) ⟨_, 0, none⟩ 1 1 [.int .u8 10] rfl rfl (Es _ 10 5) (Rr 10) (by unfold maxLen; omega) (by omega) (by simp; omega) ?_)
       intro v' w1 Z1 Zy _;have R := Za (Ce 10 HG.o Z1 Zy Z8.o);clear Z1 Zy Xk;go_wp2
       go_roundw
       case rel => exact ⟨m + 2, acc ++ [10], by omega, by omega, by go_num, by simp; omega, R.o.1, R.o.2, e.o⟩
       case measure => simp [intOf]; omega
      ·go_wp2_with fail
       refine (HC.o _).mono ?_;rintro e w' ⟨rfl, rfl⟩
       go_wp2_with (at_builtin; refine wpList_append_own _ rfl (.tmp 60) (.tmp 62) 145 rfl w.heap.size 5 i0 (.int .u8 0) 1 1 underlying145 hi Wp Xy Wr rfl (by decide) _ _ _ rfl (HOW.o.alloc _) ⟨_, 0, none⟩ 1 1 [.int .u8 9] rfl rfl (Es _ 9 5) (Rr 9) (by unfold maxLen; omega) (by omega) (by simp; omega) ?_)
       intro v' w1 Z1 Zy _;have R := Za (Ce 9 HG.o Z1 Zy Z8.o);clear Z1 Zy Xk;go_wp2
       go_roundw
       case rel => exact ⟨m + 2, acc ++ [9], by omega, by omega, by go_num, by simp; omega, R.o.1, R.o.2, e.o⟩
       case measure => simp [intOf]; omega
    ·have e := HR.o.trans (qV Zo b3 Wh)
     have HC := Za (kS S (m + 1) (by omega));clear Xk;subst e;go_wp2_with fail;refine (HC.o _).mono ?_;rintro e w' ⟨rfl, rfl⟩;go_wp2;go_ret;exact ⟨rfl, HG.o⟩
   have n3 : ((S[m].toNat : Int) == 92) = false := by simp; omega
   have e := Za (HR.o.trans (qZ Zo b1 b2 b3))
   go_wp2_with (at_builtin; refine wpList_append_own _ rfl (.tmp 60) (.tmp 62) 145 rfl w.heap.size 5 i0 (.int .u8 0) 1 1 underlying145 hi Wp Xy Wr rfl (by decide) _ _ _ rfl (HOW.o.alloc _) ⟨_, 0, none⟩ 1 1 [.int .u8 S[m].toNat] rfl rfl (Es _ S[m].toNat 5) (Rr S[m].toNat) (by unfold maxLen; omega) (by omega) (by simp; omega) ?_)
   intro v' w1 Z1 Zy _;have R := Za (Ce S[m] HG.o Z1 Zy Z8.o);clear Z1 Zy Xk;go_wp2
   go_roundw
   case rel => exact ⟨m + 1, acc ++ [S[m]], by omega, by omega, by go_num, by simp; omega, R.o.1, R.o.2, e.o⟩
   case measure => simp [intOf]; omega
  ·have e := HR.o.trans (qW Zo)
   clear Xk;subst e;go_wp2;go_ret;exact ⟨rfl, HG.o⟩
end Go.Proofs.YtfoejkhfdiodhaaGreatDoor.Lx
