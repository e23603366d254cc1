/- Part. -/
import Derived.Maps.RangeWalk
import Derived.BigRegion
import Derived.Laws.BytesArg
import Derived.Shelf.Small.Strs
import Derived.Shelf.Strings.Search1
import Derived.Test.YtbnjllkkhhkkaaaGreatDoorPart12
set_option maxRecDepth 100000
set_option maxHeartbeats 4000000
namespace Go.Proofs.YtbnjllkkhhkkaaaGreatDoor.Lx
open Tryz
open Go.RowKit
def Yf (w : World) (sb : Nat) (S : ByteArray) (k li ls : Int) (mb : Nat) : Prop :=
 w.heap[sb]? = some (.cells #[.string S, .int .i64 k, .int .i64 li, .int .i64 ls, .map (some mb)] 146 (0, 0))
section
variable {w : World} {sb : Nat} {S : ByteArray} {k li ls : Int} {mb : Nat}
theorem Yf.c0 (h : Yf w sb S k li ls mb) : w.cell? ⟨sb, 0, none⟩ = some (.string S) := by unfold Yf at h; simp [World.cell?, h]
theorem Yf.c1 (h : Yf w sb S k li ls mb) : w.cell? ⟨sb, 1, none⟩ = some (.int .i64 k) := by unfold Yf at h; simp [World.cell?, h]
theorem Yf.c2 (h : Yf w sb S k li ls mb) : w.cell? ⟨sb, 2, none⟩ = some (.int .i64 li) := by unfold Yf at h; simp [World.cell?, h]
theorem Yf.c3 (h : Yf w sb S k li ls mb) : w.cell? ⟨sb, 3, none⟩ = some (.int .i64 ls) := by unfold Yf at h; simp [World.cell?, h]
theorem Yf.c4 (h : Yf w sb S k li ls mb) : w.cell? ⟨sb, 4, none⟩ = some (.map (some mb)) := by unfold Yf at h; simp [World.cell?, h]
theorem Yf.fz (h : Yf w sb S k li ls mb) (o : Nat) : w.frozen? ⟨sb, o, none⟩ = false := by unfold Yf at h; simp [World.frozen?, h]
theorem Yf.lt (h : Yf w sb S k li ls mb) : sb < w.heap.size := xB h
theorem Z9 {w : World} {b o : Nat} {cs : Array Value} {u : Value} {t : TypeId} {fr : Nat × Nat} (h : w.heap[b]? = some (.cells cs t fr)) : (w.setCell ⟨b, o, none⟩ u).heap[b]? = some (.cells (cs.setIfInBounds o u) t fr) := by
 have hlt := xB h
 have h' : w.heap[b] = .cells cs t fr := by simpa [Array.getElem?_eq_getElem hlt] using h
 show (w.heap.modify b _)[b]? = _
 rw [Array.getElem?_eq_getElem (by simpa using hlt), Array.getElem_modify_self, h']
 rfl
theorem Yf.set1 (h : Yf w sb S k li ls mb) (v : Int) : Yf (w.setCell ⟨sb, 1, none⟩ (.int .i64 v)) sb S v li ls mb := Z9 h
theorem Yf.set2 (h : Yf w sb S k li ls mb) (v : Int) : Yf (w.setCell ⟨sb, 2, none⟩ (.int .i64 v)) sb S k v ls mb := Z9 h
theorem Yf.set3 (h : Yf w sb S k li ls mb) (v : Int) : Yf (w.setCell ⟨sb, 3, none⟩ (.int .i64 v)) sb S k li v mb := Z9 h
theorem Yf.kept {w' : World} {row : Option Nat} (h : Yf w sb S k li ls mb) (hg : w.grownBy w' row) (hne : some sb ≠ row) : Yf w' sb S k li ls mb := by
 unfold Yf at *
 rw [hg.block sb (xB h) hne]
 exact h
end
def Ym (w : World) (tb : Nat) (kind : Int) (text : ByteArray) (li co : Int) : Prop :=
 w.heap[tb]? = some (.cells #[.int .i64 kind, .string text, .int .i64 li, .int .i64 co] 108 (0, 0))
section
variable {w : World} {tb : Nat} {kind : Int} {text : ByteArray} {li co : Int}
theorem Ym.c0 (h : Ym w tb kind text li co) : w.cell? ⟨tb, 0, none⟩ = some (.int .i64 kind) := by unfold Ym at h; simp [World.cell?, h]
theorem Ym.c1 (h : Ym w tb kind text li co) : w.cell? ⟨tb, 1, none⟩ = some (.string text) := by unfold Ym at h; simp [World.cell?, h]
theorem Ym.c2 (h : Ym w tb kind text li co) : w.cell? ⟨tb, 2, none⟩ = some (.int .i64 li) := by unfold Ym at h; simp [World.cell?, h]
theorem Ym.c3 (h : Ym w tb kind text li co) : w.cell? ⟨tb, 3, none⟩ = some (.int .i64 co) := by unfold Ym at h; simp [World.cell?, h]
theorem Ym.fz (h : Ym w tb kind text li co) (o : Nat) : w.frozen? ⟨tb, o, none⟩ = false := by unfold Ym at h; simp [World.frozen?, h]
theorem Ym.set0 (h : Ym w tb kind text li co) (v : Int) : Ym (w.setCell ⟨tb, 0, none⟩ (.int .i64 v)) tb v text li co := Z9 h
theorem Ym.set1 (h : Ym w tb kind text li co) (v : ByteArray) : Ym (w.setCell ⟨tb, 1, none⟩ (.string v)) tb kind v li co := Z9 h
theorem Ym.kept {w' : World} {row : Option Nat} (h : Ym w tb kind text li co) (hg : w.grownBy w' row) (hne : some tb ≠ row) : Ym w' tb kind text li co := by
 unfold Ym at *
 rw [hg.block tb (xB h) hne]
 exact h
end
theorem Eb {a w : World} {row : Option Nat} (h : a.grownBy w row) : a.grownBy w.drew row := ⟨h.os, h.tape, h.output, h.size, h.block⟩
theorem Ug {a w : World} {row : Option Nat} (h : a.grownBy w row) (n : Nat) : a.grownBy (w.drewN n) row := ⟨h.os, h.tape, h.output, h.size, h.block⟩
theorem Pc {a w : World} {b : Nat} (h : a.grownBy w (some b)) (o : Nat) (v : Value) : a.grownBy (w.setCell ⟨b, o, none⟩ v) (some b) :=
 ⟨h.os, h.tape, h.output, by simpa using h.size, fun k hk hne => (Below.heap_setCell w _ v k (fun e => hne (by rw [e]))).trans (h.block k hk hne)⟩
theorem Tj (w : World) (a : Addr) (v : Value) : w.grownBy (w.setCell a v) (some a.block) :=
 ⟨rfl, rfl, rfl, by simp, fun k _ hne => Below.heap_setCell w a v k (fun e => hne (by rw [e]))⟩
def Kk (w : World) (sb : Nat) : Nat := match w.cell? ⟨sb, 1, none⟩ with | some v => (intOf v).toNat | none => 0
theorem Yf.at {w : World} {sb : Nat} {S : ByteArray} {k : Nat} {li ls : Int} {mb : Nat} (h : Yf w sb S k li ls mb) : Kk w sb = k := by
 unfold Kk
 rw [h.c1]
 simp [intOf]
def Ur (S : ByteArray) (k li ls : Nat) : List UInt8 × Nat × Nat := Yy false (S.data.toList.drop k) li (k - ls + 1)
theorem zgb {S : ByteArray} {k li ls : Nat} (hk : k < S.size) (h : S[k].toNat = 10) : Ur S k li ls = Ur S (k + 1) (li + 1) (k + 1) := by
 have e : S[k] = 10 := UInt8.toNat_inj.1 h
 unfold Ur
 rw [Y0 S k hk, Yy, if_pos e]
 simp
theorem zfc {S : ByteArray} {k li ls : Nat} (hk : k < S.size) (hl : ls ≤ k) (h : S[k].toNat = 32 ∨ S[k].toNat = 9 ∨ S[k].toNat = 13) : Ur S k li ls = Ur S (k + 1) li ls := by
 have e : S[k] = 32 ∨ S[k] = 9 ∨ S[k] = 13 := by
  rcases h with h | h | h
  ·exact .inl (UInt8.toNat_inj.1 h)
  ·exact .inr (.inl (UInt8.toNat_inj.1 h))
  ·exact .inr (.inr (UInt8.toNat_inj.1 h))
 unfold Ur
 rw [Y0 S k hk, Yy, if_neg (by rintro e2; rw [e2] at e; revert e; decide), if_pos e]
 rw [show k - ls + 1 + 1 = k + 1 - ls + 1 from by omega]
theorem Hq (S : ByteArray) (k : Nat) (p : UInt8 → Bool) : S.data.toList.drop (Ya S k p) = (S.data.toList.drop k).dropWhile p := by
 unfold Ya
 rw [← List.drop_drop]
 generalize S.data.toList.drop k = l
 induction l with
 | nil => rfl
 | cons b r ih =>
  by_cases h : p b = true
  ·rw [List.takeWhile_cons_of_pos h, List.dropWhile_cons_of_pos h, List.length_cons, List.drop_succ_cons, ih]
  ·rw [List.takeWhile_cons_of_neg h, List.dropWhile_cons_of_neg h]; rfl
theorem Ia {S : ByteArray} {k li ls : Nat} (hk : k < S.size) (hl : ls ≤ k) (h : S[k].toNat = 35) : Ur S k li ls = Ur S (Ya S k Vi) li ls ∧ k < Ya S k Vi := by
 have e : S[k] = 35 := UInt8.toNat_inj.1 h
 have hn : Vi S[k] = true := by rw [e]; decide
 have hr := Pk hk hn
 have hlt : k + 1 ≤ Ya S (k + 1) Vi := by unfold Ya; omega
 refine ⟨?_, by omega⟩
 rw [hr]
 unfold Ur
 rw [Hq, Y0 S k hk, Yy, if_neg (by rw [e]; decide), if_neg (by rw [e]; decide), if_pos e, zdn]
 unfold Ya
 rw [show k - ls + 1 + 1 + (List.takeWhile Vi (List.drop (k + 1) S.data.toList)).length = k + 1 + (List.takeWhile Vi (List.drop (k + 1) S.data.toList)).length - ls + 1 from by omega]
theorem Ie {S : ByteArray} {k li ls : Nat} (hk : k < S.size) (h : S[k].toNat ≠ 10 ∧ S[k].toNat ≠ 32 ∧ S[k].toNat ≠ 9 ∧ S[k].toNat ≠ 13 ∧ S[k].toNat ≠ 35) : Ur S k li ls = (S.data.toList.drop k, li, k - ls + 1) := by
 have f : ∀ n : UInt8, S[k].toNat ≠ n.toNat → ¬ S[k] = n := fun n hn e => hn (by rw [e])
 unfold Ur
 rw [Y0 S k hk, Yy, if_neg (f 10 h.1), if_neg, if_neg (f 35 h.2.2.2.2)]
 rintro (e | e | e)
 ·exact f 32 h.2.1 e
 ·exact f 9 h.2.2.1 e
 ·exact f 13 h.2.2.2.1 e
theorem zcr {S : ByteArray} {k li ls : Nat} (hk : ¬ k < S.size) : Ur S k li ls = (S.data.toList.drop k, li, k - ls + 1) := by
 unfold Ur
 rw [List.drop_eq_nil_of_le (by rw [Yp]; omega)]
 rfl
theorem Dr (S : ByteArray) (hS : S.size ≤ 65536) (sb mb k0 li0 ls0 : Nat) (hk0 : k0 ≤ S.size) (hls0 : ls0 ≤ k0) (hli0 : li0 ≤ k0 + 1) (w : World) (hsc : Yf w sb S k0 li0 ls0 mb) :
  Calls prog 104 #[.pointer (some ⟨sb, 0, none⟩)] w fun e w' => e = .returned (.tuple #[]) ∧ ∃ k li ls : Nat, Yf w' sb S k li ls mb ∧ w.grownBy w' (some sb) ∧
   k0 ≤ k ∧ k ≤ S.size ∧ ls ≤ k ∧ li ≤ k + 1 ∧ Ur S k0 li0 ls0 = (S.data.toList.drop k, li, k - ls + 1) := by
 go_enter func104, ntmps104
 go_wp2
 go_loopw [20] (fun _ wr => ∃ k li ls : Nat, Yf wr sb S k li ls mb ∧ w.grownBy wr (some sb) ∧ k0 ≤ k ∧ k ≤ S.size ∧ ls ≤ k ∧ li ≤ k + 1 ∧ Ur S k0 li0 ls0 = Ur S k li ls) (fun _ wr => S.size - Kk wr sb)
 case atStart => exact ⟨k0, li0, ls0, hsc, World.grownBy.refl _ _, xR, hk0, hls0, hli0, rfl⟩
 case round =>
  obtain ⟨k, li, ls, hs, hg, hk0', hk, hls, hli, hrel⟩ := hrel
  have HR := Za hrel
  have HS := Za hs
  have hat := Za hs.at
  have c0 := hs.c0
  have c1 := hs.c1
  have c2 := hs.c2
  have c3 := hs.c3
  have f1 := hs.fz 1
  have f2 := hs.fz 2
  have f3 := hs.fz 3
  have HG := Za hg
  clear hrel hs hg hsc
  by_cases hlt : k < S.size
  ·have hlt' : (k : Int) < (S.size : Int) := by omega
   by_cases b1 : S[k].toNat = 10
   ·have b1' : ((S[k].toNat : Int) == 10) = true := by simp; omega
    go_wp2
    go_quiet (fail)
    go_wp2
    go_quiet (fail)
    go_wp2
    have hs' := (((HS.o : Yf (wr.drewN (_ + _)) sb S k li ls mb).set1 (k + 1)).set2 (li + 1)).set3 (k + 1)
    refine ⟨⟨k + 1, li + 1, k + 1, hs', Pc (Pc (Pc (Ug HG.o _) _ _) _ _) _ _, by omega, by omega, by omega, by omega, HR.o.trans (zgb hlt b1)⟩, ?_⟩
    have e2 := Yf.at (k := k + 1) hs'
    have e1 := hat.o
    rw [e1]
    exact Nat.lt_of_le_of_lt (Nat.le_of_eq (congrArg (S.size - ·) e2)) (by omega)
   have n1 : ((S[k].toNat : Int) == 10) = false := by simp; omega
   by_cases b2 : S[k].toNat = 32 ∨ S[k].toNat = 9 ∨ S[k].toNat = 13
   ·have hst := zfc (li := li) hlt hls b2
    have HST := Za hst
    clear hst
    have b2' : ((S[k].toNat : Int) == 32) = true ∨ (((S[k].toNat : Int) == 32) = false ∧ ((S[k].toNat : Int) == 9) = true) ∨ (((S[k].toNat : Int) == 32) = false ∧ ((S[k].toNat : Int) == 9) = false ∧ ((S[k].toNat : Int) == 13) = true) := by simp; omega
    rcases b2' with p1 | ⟨p1, p2⟩ | ⟨p1, p2, p3⟩
    all_goals
     go_wp2
     go_quiet (fail)
     go_wp2
     go_quiet (fail)
     go_wp2
     have hs' := (HS.o : Yf (wr.drewN (_ + _)) sb S k li ls mb).set1 (k + 1)
     refine ⟨⟨k + 1, li, ls, hs', Pc (Ug HG.o _) _ _, by omega, by omega, by omega, by omega, HR.o.trans HST.o⟩, ?_⟩
     have e2 := Yf.at (k := k + 1) hs'
     have e1 := hat.o
     rw [e1]
     exact Nat.lt_of_le_of_lt (Nat.le_of_eq (congrArg (S.size - ·) e2)) (by omega)
   have n2 : ((S[k].toNat : Int) == 32) = false := by simp; omega
   have n3 : ((S[k].toNat : Int) == 9) = false := by simp; omega
   have n4 : ((S[k].toNat : Int) == 13) = false := by simp; omega
   by_cases b3 : S[k].toNat = 35
   ·obtain ⟨hst, hlt2⟩ := Ia (li := li) hlt hls b3
    have hle := Qz S k Vi hk
    have hc := Ic S (by omega) k hk
    obtain ⟨r, hr⟩ := xE (Ya S k Vi)
    rw [← hr] at hst hlt2 hle hc
    have HST := Za hst
    have HC := Za hc
    clear hst hc hr
    have p4 : ((S[k].toNat : Int) == 35) = true := by simp; omega
    go_wp2
    go_quiet (fail)
    go_wp2
    go_quiet (fail)
    go_wp2
    go_region_with (go_at_call 161; refine (HC.o _).mono ?_; rintro e w' ⟨rfl, rfl⟩)
    all_goals
     go_wp2
     have hs' := (HS.o : Yf (wr.drewN (_ + _ + 1)) sb S k li ls mb).set1 r
     refine ⟨⟨r, li, ls, hs', Pc (Ug HG.o _) _ _, by omega, by omega, by omega, by omega, HR.o.trans HST.o⟩, ?_⟩
     have e2 := Yf.at (k := r) hs'
     have e1 := hat.o
     rw [e1]
     exact Nat.lt_of_le_of_lt (Nat.le_of_eq (congrArg (S.size - ·) e2)) (by omega)
   have n5 : ((S[k].toNat : Int) == 35) = false := by simp; omega
   have hst := Ie (li := li) (ls := ls) hlt ⟨b1, by omega, by omega, by omega, b3⟩
   have HST := Za hst
   clear hst
   go_wp2
   go_quiet (fail)
   go_wp2
   go_quiet (fail)
   go_wp2
   first | go_end0 | (simp only [Exit.inBlock, Exit.then]; refine bodyPost_ret (results_none rfl _ _ _) rfl ?_) | refine bodyPost_ret (results_none rfl _ _ _) rfl ?_
   exact ⟨rfl, k, li, ls, HS.o, Ug HG.o _, by omega, by omega, by omega, by omega, HR.o.trans HST.o⟩
  ·have hst := zcr (li := li) (ls := ls) hlt
   have HST := Za hst
   clear hst
   go_wp2
   go_quiet (fail)
   go_wp2
   first | go_end0 | (simp only [Exit.inBlock, Exit.then]; refine bodyPost_ret (results_none rfl _ _ _) rfl ?_) | refine bodyPost_ret (results_none rfl _ _ _) rfl ?_
   exact ⟨rfl, k, li, ls, HS.o, Ug HG.o _, by omega, by omega, by omega, by omega, HR.o.trans HST.o⟩
def Vf (i : Nat) : ByteArray := ⟨(Wa.getD i []).toArray⟩
def Words (w : World) : Prop := ∀ i, i < 25 → w.cell? ⟨4, i, none⟩ = some (.string (Vf i))
theorem Words.lt {w : World} (h : Words w) : 4 < w.heap.size := World.block_lt_of_cell? w _ (h 0 (by decide))
theorem Words.below {w w' : World} (h : Words w) (hb : Below w.heap.size w w') : Words w' := fun i hi => (hb.cell (show 4 < w.heap.size from h.lt)).trans (h i hi)
def Tq : List Value := (List.range 25).map fun i => .string (Vf i)
theorem Bn (i : Nat) (hi : i < 25) : Tq[i]? = some (.string (Vf i)) := by simp [Tq, hi]
theorem Words.range {w : World} (h : Words w) : w.rangeAt 4 0 Tq := by
 intro j v hv
 have hj : j < 25 := by
  have := (List.getElem?_eq_some_iff.1 hv).1
  simpa [Tq] using this
 rw [Bn j hj] at hv
 injection hv with hv
 rw [← hv, Nat.zero_add]
 exact h j hj
theorem J7 : (prog.info? 221).map (·.size) = some Tq.length := by kernel_rfl
def Mq (s : ByteArray) (k : Nat) : Prop := ∀ i, i < k → s ≠ Vf i
theorem Nl (s : ByteArray) : Wa.contains s.data.toList = true ↔ ∃ i, i < 25 ∧ s = Vf i := by
 rw [List.contains_iff_mem]
 constructor
 ·intro h
  obtain ⟨i, hi, e⟩ := List.mem_iff_getElem.1 h
  refine ⟨i, hi, ?_⟩
  unfold Vf
  rw [List.getD_eq_getElem?_getD, List.getElem?_eq_getElem hi, Option.getD_some, e]
 ·rintro ⟨i, hi, e⟩
  rw [e]
  unfold Vf
  rw [List.getD_eq_getElem?_getD, List.getElem?_eq_getElem (show i < Wa.length from hi), Option.getD_some]
  exact List.getElem_mem ..
theorem Qn {s t : ByteArray} : (s.toList == t.toList) = true ↔ s = t := by
 rw [ByteArray.toList_eq, ByteArray.toList_eq, beq_iff_eq]
 constructor
 ·intro h
  cases s; cases t
  simp at h
  rw [h]
 ·rintro rfl; rfl
theorem M4 {s t : ByteArray} (h : (s.toList == t.toList) = false) : s ≠ t := fun e => by
 rw [Qn.2 e] at h
 cases h
theorem Hv {A : List Value} {k : Nat} {t : ByteArray} (hk : k < 25) (h : A[k]? = some (.string t)) (w : World) :
  (Instr.index 221 (.agg A.toArray) (.int .i64 k)).run prog w = .ok (.string t) w := by
 have hu := underlying221
 have ha := isAgg9
 have hz := sizeOf9
 simp [Instr.index, asIntOf, run_underlying hu, part, ha, hz, Result.andThen, hk]
 rw [h]
 rfl
theorem Ki (s : ByteArray) (w : World) (hw : Words w) :
  Calls prog 166 #[.string s] w fun e w' => e = .returned (.bool (Wa.contains s.data.toList)) ∧ w' = w := by
 obtain ⟨b, hb⟩ := xE (Wa.contains s.data.toList)
 rw [← hb]
 have HB := Za hb
 clear hb
 have hr := Za hw.range
 obtain ⟨A, hA⟩ := xE Tq
 have hat := Bn
 have hsz := J7
 rw [← hA] at hr hat hsz
 clear hA hw
 have HA := Za hat
 clear hat
 go_enter func166, ntmps166
 go_wp2_with (refine wpList_load_mid rfl 221 (.global 4) rfl 4 0 rfl A (.array 25 9) hr.o underlying221 rfl hsz ?_)
 go_loop [6] (fun i => ∃ k : Nat, k ≤ 25 ∧ i = .int .i64 k ∧ xQ (Mq s k)) (fun i => 25 - (intOf i).toNat)
 case atStart => exact ⟨0, by omega, rfl, fun i hi => by omega⟩
 case round =>
  obtain ⟨k, hk, rfl, hno⟩ := hrel
  by_cases hlt : k < 25
  ·have hAk := HA.o k hlt
   obtain ⟨t, ht⟩ := xE (Vf k)
   rw [← ht] at hAk
   have hix := Hv hlt hAk w
   clear hAk
   have HT := Za ht
   clear ht
   cases hq : (s.toList == t.toList)
   ·have hno' : xQ (Mq s (k + 1)) := fun i hi => by
     by_cases hik : i = k
     ·subst hik; rw [← HT.o]; exact M4 hq
     ·exact hno.o i (by omega)
    go_wp2
    go_round
    case rel => exact ⟨k + 1, by omega, by go_num, hno'⟩
    case measure => simp [intOf]; omega
   ·have e : b = true := by
     rw [HB.o]
     exact (Nl s).2 ⟨k, hlt, (Qn.1 hq).trans HT.o⟩
    subst e
    go_wp2
    go_ret
    exact ⟨rfl, rfl⟩
  ·have e : b = false := by
    rw [HB.o, Bool.eq_false_iff]
    intro h
    obtain ⟨i, hi, e⟩ := (Nl s).1 h
    exact hno.o i (by omega) e
   subst e
   go_wp2
   go_ret
   exact ⟨rfl, rfl⟩
theorem P8 (S : ByteArray) (i j : Nat) : S.extract i j = ⟨((S.data.toList.drop i).take (j - i)).toArray⟩ := by
 apply ByteArray.ext
 rw [ByteArray.data_extract]
 apply Array.toList_inj.1
 rw [Array.toList_extract]
theorem Om (p : UInt8 → Bool) (l : List UInt8) : l.take (l.takeWhile p).length = l.takeWhile p := by
 induction l with
 | nil => rfl
 | cons b r ih =>
  by_cases h : p b = true
  ·rw [List.takeWhile_cons_of_pos h, List.length_cons, List.take_succ_cons, ih]
  ·rw [List.takeWhile_cons_of_neg h]; rfl
theorem Hp (S : ByteArray) (k : Nat) (p : UInt8 → Bool) : S.extract k (Ya S k p) = ⟨((S.data.toList.drop k).takeWhile p).toArray⟩ := by
 rw [P8]
 unfold Ya
 rw [Nat.add_sub_cancel_left, Om]
theorem Cj (S : ByteArray) (hS : S.size ≤ 65536) (sb mb k li ls : Nat) (hk : k ≤ S.size) (w : World) (hsc : Yf w sb S k li ls mb) :
  Calls prog 164 #[.pointer (some ⟨sb, 0, none⟩), .func (.func 165) #[] #[]] w fun e w' => e = .returned (.string ⟨((S.data.toList.drop k).takeWhile Yc).toArray⟩) ∧
   Yf w' sb S (Ya S k Yc) li ls mb ∧ w.grownBy w' (some sb) := by
 have hle := Qz S k Yc hk
 have hge : k ≤ Ya S k Yc := by unfold Ya; omega
 have hc := K7 S (by omega) k hk
 obtain ⟨r, hr⟩ := xE (Ya S k Yc)
 rw [← hr] at hle hge hc ⊢
 have HC := Za hc
 have HR := Za hr
 have HS := Za hsc
 have c0 := hsc.c0
 have c1 := hsc.c1
 have f1 := hsc.fz 1
 clear hc hr hsc
 go_enter func164, ntmps164
 go_wp2_with fail
 refine (HC.o _).mono ?_
 rintro e w' ⟨rfl, rfl⟩
 go_wp2
 go_quiet (fail)
 go_wp2
 go_ret
 refine ⟨?_, HS.o.set1 r, Ug (Pc (World.grownBy.refl _ _) _ _) _⟩
 rw [← Hp, ← HR.o]
 rfl
theorem Oz (S : ByteArray) (hS : S.size ≤ 65536) (sb mb k li ls : Nat) (hk : k ≤ S.size) (w : World) (hsc : Yf w sb S k li ls mb) :
  Calls prog 164 #[.pointer (some ⟨sb, 0, none⟩), .func (.func 167) #[] #[]] w fun e w' => e = .returned (.string ⟨((S.data.toList.drop k).takeWhile Ye).toArray⟩) ∧
   Yf w' sb S (Ya S k Ye) li ls mb ∧ w.grownBy w' (some sb) := by
 have hle := Qz S k Ye hk
 have hge : k ≤ Ya S k Ye := by unfold Ya; omega
 have hc := E8 S (by omega) k hk
 obtain ⟨r, hr⟩ := xE (Ya S k Ye)
 rw [← hr] at hle hge hc ⊢
 have HC := Za hc
 have HR := Za hr
 have HS := Za hsc
 have c0 := hsc.c0
 have c1 := hsc.c1
 have f1 := hsc.fz 1
 clear hc hr hsc
 go_enter func164, ntmps164
 go_wp2_with fail
 refine (HC.o _).mono ?_
 rintro e w' ⟨rfl, rfl⟩
 go_wp2
 go_quiet (fail)
 go_wp2
 go_ret
 refine ⟨?_, HS.o.set1 r, Ug (Pc (World.grownBy.refl _ _) _ _) _⟩
 rw [← Hp, ← HR.o]
 rfl
def tokA (kind : Int) (text : ByteArray) (li co : Int) : Value := .agg #[.int .i64 kind, .string text, .int .i64 li, .int .i64 co]
theorem Gx (S : ByteArray) (sb mb k li ls : Nat) (hk : k ≤ 65536) (hls : ls ≤ k) (w : World) (hsc : Yf w sb S k li ls mb) :
  Calls prog 105 #[.pointer (some ⟨sb, 0, none⟩)] w fun e w' => e = .returned (tokA 0 ByteArray.empty li ((k - ls + 1 : Nat) : Int)) ∧ w.grownBy w' none := by
 have hsb := hsc.lt
 have c1 := hsc.c1
 have c2 := hsc.c2
 have c3 := hsc.c3
 clear hsc
 go_enter func105, ntmps105
 go_wp2
 go_region
 all_goals
  go_wp2
  refine bodyPost_ret (results_cell_row rfl _ _ w.heap.size 108 #[.int .i64 0, .string { data := #[] }, .int .i64 li, .int .i64 ((k : Int) - (ls : Int) + 1)] (0, 0) _ rfl (xL w _) underlying108 rfl (by kernel_rfl)) rfl ⟨?_, ?_⟩
  ·rw [show ((k - ls + 1 : Nat) : Int) = (k : Int) - (ls : Int) + 1 from by omega]
   rfl
  ·exact Eb (World.grownBy_alloc _ _ _)
structure Yo (w w' : World) (a b : Nat) : Prop where
 os : w'.os = w.os
 tape : w'.tape = w.tape
 output : w'.output = w.output
 size : w.heap.size ≤ w'.heap.size
 block : ∀ i, i < w.heap.size → i ≠ a → i ≠ b → w'.heap[i]? = w.heap[i]?
theorem Yo.refl (w : World) (a b : Nat) : Yo w w a b := ⟨rfl, rfl, rfl, xR, fun _ _ _ _ => rfl⟩
theorem Yo.trans {w w1 w2 : World} {a b : Nat} (h : Yo w w1 a b) (k : Yo w1 w2 a b) : Yo w w2 a b :=
 ⟨k.os.trans h.os, k.tape.trans h.tape, k.output.trans h.output, Nat.le_trans h.size k.size, fun i hi ha hb => (k.block i (xT hi h.size) ha hb).trans (h.block i hi ha hb)⟩
theorem Yo.ofNone {w w' : World} (h : w.grownBy w' none) (a b : Nat) : Yo w w' a b := ⟨h.os, h.tape, h.output, h.size, fun i hi _ _ => h.block i hi (by simp)⟩
theorem Yo.ofL {w w' : World} {a : Nat} (h : w.grownBy w' (some a)) (b : Nat) : Yo w w' a b := ⟨h.os, h.tape, h.output, h.size, fun i hi ha _ => h.block i hi (by simpa using ha)⟩
theorem Yo.ofR {w w' : World} {b : Nat} (h : w.grownBy w' (some b)) (a : Nat) : Yo w w' a b := ⟨h.os, h.tape, h.output, h.size, fun i hi _ hb => h.block i hi (by simpa using hb)⟩
theorem Yo.setL {w w' : World} {a b : Nat} (h : Yo w w' a b) (o : Nat) (v : Value) : Yo w (w'.setCell ⟨a, o, none⟩ v) a b := h.trans (.ofL (Pc (World.grownBy.refl _ _) o v) b)
theorem Yo.setR {w w' : World} {a b : Nat} (h : Yo w w' a b) (o : Nat) (v : Value) : Yo w (w'.setCell ⟨b, o, none⟩ v) a b := h.trans (.ofR (Pc (World.grownBy.refl _ _) o v) a)
theorem Yo.drewN {w w' : World} {a b : Nat} (h : Yo w w' a b) (n : Nat) : Yo w (w'.drewN n) a b := ⟨h.os, h.tape, h.output, h.size, h.block⟩
theorem Yo.drew {w w' : World} {a b : Nat} (h : Yo w w' a b) : Yo w w'.drew a b := ⟨h.os, h.tape, h.output, h.size, h.block⟩
theorem Yo.below {w w' : World} {a b B : Nat} (h : Yo w w' a b) (hB : B ≤ w.heap.size) (ha : B ≤ a) (hb : B ≤ b) : Below B w w' :=
 ⟨h.os, h.tape, h.output, h.size, fun i hi => h.block i (by omega) (by omega) (by omega)⟩
theorem Yo.words {w w' : World} {a b : Nat} (h : Yo w w' a b) (hw : Words w) (ha : 4 ≠ a) (hb : 4 ≠ b) : Words w' := fun i hi => by
 have := hw i hi
 rw [World.cell?_of_block (w := w) (h.block 4 hw.lt ha hb)]
 exact this
theorem Yo.map {w w' : World} {a b mb n : Nat} {D : DataW Unit} (h : Yo w w' a b) (ho : w.ownsMap prog 199 unitElem mb n D) (ha : mb ≠ a) (hb : mb ≠ b) : w'.ownsMap prog 199 unitElem mb n D := by
 have hlt := ho.lt
 obtain ⟨es, clock, hh, r⟩ := ho
 exact ⟨es, clock, by rw [h.block mb hlt ha hb]; exact hh, r⟩
theorem Yo.owns {w w' : World} {a b base e size n : Nat} {v : Value} {xs : List Value} (h : Yo w w' a b) (ho : w.ownsRow base e size v n xs) (ha : v.ownBlock ≠ some a) (hb : v.ownBlock ≠ some b) : w'.ownsRow base e size v n xs := by
 obtain ⟨h1, h2⟩ := ho
 refine ⟨h1, ?_⟩
 rcases h2 with h2 | ⟨g, cap, cur, rfl, hg, hh, r⟩
 ·exact .inl h2
 ·refine .inr ⟨g, cap, cur, rfl, hg, ?_, r⟩
  rw [h.block g (xB hh) (fun e => ha (by simp [Value.ownBlock, e])) (fun e => hb (by simp [Value.ownBlock, e]))]
  exact hh
def Qv (l : List UInt8) : List Value := l.map fun b => .int .u8 b.toNat
theorem Oa (l : List UInt8) : (Qv l).length = l.length := by simp [Qv]
theorem Io (l : List UInt8) (b : UInt8) : Qv (l ++ [b]) = Qv l ++ [.int .u8 b.toNat] := by simp [Qv]
theorem Ol (l : List UInt8) : strOfNums (l.map fun b => (b.toNat : Int)) = ⟨l.toArray⟩ := by
 unfold strOfNums
 congr 1
 simp [Function.comp_def]
theorem Cs {w : World} {B n : Nat} {v : Value} {l : List UInt8} (h : w.ownsRow B 5 1 v n (Qv l)) : (convert 77 9 v).run prog w = .ok (.string ⟨l.toArray⟩) w := by
 have hl : l.length = n := by
  have := h.1
  rw [Oa] at this
  omega
 rw [← Ol]
 rcases h.2 with ⟨rfl, h0⟩ | ⟨g, cap, cur, rfl, _⟩
 ·have : l = [] := List.eq_nil_of_length_eq_zero (by omega)
  rw [this]
  exact run_convert_bytes_nil w 77 5 underlying77 underlying5 0 0 9 underlying9
 ·refine run_convert_bytes_arg w 77 5 underlying77 underlying5 g 0 n cap _ (by simpa using hl) ?_ 9 underlying9
  intro i hi
  have := h.cells (g := g) rfl i (.int .u8 ((l.map fun b => (b.toNat : Int)).getD i 0)) (by simp [Qv, List.getD, show i < l.length by omega])
  have hadd : (⟨g, 0, none⟩ : Addr).add i = ⟨g, 0 + i, none⟩ := by unfold Addr.add; split <;> simp_all
  rw [hadd] at this
  exact this
theorem B6 (W : World) (x : Int) (t : TypeId) : ∀ j u, [Value.int .u8 x][j]? = some u → (W.alloc (.cells #[.int .u8 x] t)).cell? ((⟨W.heap.size, 0, none⟩ : Addr).add j) = some u := by
 intro j u hj
 match j, hj with
 | 0, hj =>
  simp at hj
  subst hj
  simp [Addr.add]
theorem Bd (x : Int) : ∀ u ∈ [Value.int .u8 x], u.oneCell' = true := by
 intro u hu
 simp at hu
 subst hu
 rfl
theorem zap : (prog.info? 5).map (fun i => (i.zero, i.size, i.bytes)) = some (some (.int .u8 0), 1, 1) := by kernel_rfl
end Go.Proofs.YtbnjllkkhhkkaaaGreatDoor.Lx
/- The contracts of Go's library that this seat uses, laid at its dump: each is one application of the shelf's theorem. -/
namespace Go.Proofs
open Tryz
open Go.Shelf Go.RowKit Go.Lib
def lays137_ren : Go.Shelf.Ren := ⟨fun | 137 => 159 | 217 => 192 | 266 => 204 | n => n, fun | 9 => 9 | 5 => 5 | 3 => 3 | n => n, fun | n => n⟩
theorem lays137 : Go.Proofs.Lays.n137 prog lays137_ren := {
  mixed := by kernel_rfl
  f137 := func159.trans (congrArg some (by kernel_rfl))
  f217 := func192.trans (congrArg some (by kernel_rfl))
  f266 := func204.trans (congrArg some (by kernel_rfl))
  t3 := underlying3
  a3 := isAgg3
  z3 := sizeOf3
  v3 := zeroValue3
  t5 := underlying5
  a5 := isAgg5
  z5 := sizeOf5
  v5 := zeroValue5
  t9 := underlying9
  a9 := isAgg9
  z9 := sizeOf9
  v9 := zeroValue9 }
theorem strings_IndexByte (s : ByteArray) (c : Int) (w : World) :
    Calls prog 159 #[.string s, .int .u8 c] w fun e w' => e = .returned (.int .i64 (Lib.indexByte s.data.toList c.toNat.toUInt8)) ∧ w' = w := Any.strings_IndexByte lays137 s c w
end Go.Proofs
namespace Go.Proofs.YtbnjllkkhhkkaaaGreatDoor.Lx
open Tryz
open Go.RowKit Go.Maps
def Qu (c : UInt8) : Int := if c = 92 then 0 else if c = 34 then 1 else if c = 110 then 2 else if c = 116 then 3 else -1
theorem Cb (c : UInt8) : Lib.indexByte [92, 34, 110, 116] c = Qu c := by
 unfold Qu
 by_cases h1 : c = 92
 ·subst h1; decide
 by_cases h2 : c = 34
 ·subst h2; decide
 by_cases h3 : c = 110
 ·subst h3; decide
 by_cases h4 : c = 116
 ·subst h4; decide
 have e1 : ((92 : UInt8) == c) = false := by simpa using fun h => h1 h.symm
 have e2 : ((34 : UInt8) == c) = false := by simpa using fun h => h2 h.symm
 have e3 : ((110 : UInt8) == c) = false := by simpa using fun h => h3 h.symm
 have e4 : ((116 : UInt8) == c) = false := by simpa using fun h => h4 h.symm
 simp [Lib.indexByte, e1, e2, e3, e4, h1, h2, h3, h4]
theorem Do (c : UInt8) : ((c.toNat : Int).toNat).toUInt8 = c := by simp
theorem I6 (c : UInt8) (w : World) : Calls prog 159 #[.string { data := #[92, 34, 110, 116] }, .int .u8 c.toNat] w fun e w' => e = .returned (.int .i64 (Qu c)) ∧ w' = w := by
 have h := strings_IndexByte { data := #[92, 34, 110, 116] } c.toNat w
 rw [Do, Cb] at h
 exact h
theorem Cq (S : ByteArray) (i : Nat) (hi : S.size ≤ i) (w : World) : Calls prog 193 #[.string S, .int .i64 i] w fun e w' => e = .returned (.int .i64 (-1)) ∧ w' = w := by
 go_enter func193, ntmps193
 go_wp2
 go_ret
 exact ⟨rfl, rfl⟩
theorem zej (S : ByteArray) (i : Nat) (hi : i < S.size) (w : World) : Calls prog 193 #[.string S, .int .i64 i] w fun e w' => e = .returned (.int .i64 (Qu S[i])) ∧ w' = w := by
 have hc := Za (I6 S[i])
 obtain ⟨x, hx⟩ := xE (Qu S[i])
 rw [← hx] at hc ⊢
 clear hx
 go_enter func193, ntmps193
 go_wp2_with fail
 refine (hc.o _).mono ?_
 rintro e w' ⟨rfl, rfl⟩
 go_wp2
 go_ret
 exact ⟨rfl, rfl⟩
theorem zfv (l : List UInt8) (c : UInt8) : (0 ≤ Lib.indexByte l c) ↔ c ∈ l := by
 induction l with
 | nil => simp [Lib.indexByte]
 | cons b r ih =>
  unfold Lib.indexByte
  by_cases h : b = c
  ·subst h; simp
  ·have e : (b == c) = false := by simpa using h
   rw [if_neg (by rw [e]; decide)]
   by_cases h2 : c ∈ r
   ·have h3 := ih.2 h2
    have e2 : (Lib.indexByte r c == -1) = false := by simp; omega
    rw [if_neg (by rw [e2]; decide)]
    simp [h2]
    omega
   ·have h3 : ¬ 0 ≤ Lib.indexByte r c := fun hh => h2 (ih.1 hh)
    simp only [List.mem_cons, h2, or_false]
    constructor
    ·intro h4
     exfalso
     split at h4
     ·omega
     ·rename_i h5
      simp at h5
      have : Lib.indexByte r c < -1 ∨ Lib.indexByte r c = -1 := by omega
      have hlow : -1 ≤ Lib.indexByte r c := by
       clear ih h2 h3 h4 h5 this
       induction r with
       | nil => simp [Lib.indexByte]
       | cons d r ih2 =>
        unfold Lib.indexByte
        split
        ·omega
        split
        ·omega
        ·omega
      omega
    ·intro h4; exact absurd h4.symm h
def K5 (c : UInt8) : Int := Lib.indexByte Qb c
theorem I2 (c : UInt8) : 0 ≤ K5 c ↔ Qb.contains c = true := by
 rw [K5, zfv, List.contains_iff_mem]
theorem Im (c : UInt8) (w : World) : Calls prog 159 #[.string { data := #[40, 41, 123, 125, 91, 93, 44, 58, 59, 61, 43, 45, 42, 47, 37, 38, 94, 60, 124, 46] }, .int .u8 c.toNat] w fun e w' =>
  e = .returned (.int .i64 (K5 c)) ∧ w' = w := by
 have h := strings_IndexByte { data := #[40, 41, 123, 125, 91, 93, 44, 58, 59, 61, 43, 45, 42, 47, 37, 38, 94, 60, 124, 46] } c.toNat w
 rw [Do] at h
 exact h
theorem zby {S : ByteArray} {k : Nat} (hk : k + 1 < S.size) (h : U0.contains (S[k], S[k + 1]) = true) : Y7 (S.data.toList.drop k) = 2 := by
 rw [Y0 S k (by omega), Y0 S (k + 1) hk, Y7, if_pos h]
theorem Sc {S : ByteArray} {k : Nat} (hk : k < S.size) (h : ∀ hk1 : k + 1 < S.size, U0.contains (S[k], S[k + 1]) = false) : Y7 (S.data.toList.drop k) = if Qb.contains S[k] then 1 else 0 := by
 rw [Y0 S k hk]
 by_cases h1 : k + 1 < S.size
 ·rw [Y0 S (k + 1) h1, Y7, if_neg (by rw [h h1]; decide)]
 ·rw [List.drop_eq_nil_of_le (by rw [Yp]; omega), Y7]
theorem Ss {w : World} {mb : Nat} {D : DataW Unit} (hown : w.ownsMap prog 199 unitElem mb 8 D) (hD : Nd D) (a b : UInt8) {v : Bool} (hv : U0.contains (a, b) = v) :
  (Instr.lookup 143 (.map (some mb)) (.agg #[.int .u8 a.toNat, .int .u8 b.toNat]) true).run prog w = .ok (.tuple #[.agg #[], .bool v]) w := by
 subst hv
 obtain ⟨v, ps, hrun, hv⟩ := hown.look_ok Hh underlying143 (zeroValue200 w) (zd := .agg []) (zp := []) unitElem_mk (B0 a b)
 obtain ⟨rfl, _⟩ := unitElem_inv hv
 rw [hD a b _ (B0 a b)] at hrun
 exact hrun
theorem Nf (w : World) (n : Nat) (o : Obj) : w.grownBy ((w.drewN n).alloc o) none := (Ug (World.grownBy.refl w none) n).trans (World.grownBy_alloc _ _ _)
theorem Cd (S : ByteArray) (hS : S.size ≤ 65536) (sb mb k : Nat) (li ls : Int) (hk0 : k < S.size) (w : World) (hsc : Yf w sb S k li ls mb) (D : DataW Unit) (hown : w.ownsMap prog 199 unitElem mb 8 D) (hD : Nd D) :
  Calls prog 194 #[.pointer (some ⟨sb, 0, none⟩)] w fun e w' => e = .returned (.int .i64 (Y7 (S.data.toList.drop k))) ∧ w.grownBy w' none := by
 obtain ⟨r, hr⟩ := xE (Y7 (S.data.toList.drop k))
 rw [← hr]
 have HR := Za hr
 clear hr
 have hone := Za (Im S[k])
 have hmem := Za (I2 S[k])
 obtain ⟨x, hx⟩ := xE (K5 S[k])
 rw [← hx] at hone hmem
 clear hx
 have c0 := hsc.c0
 have c1 := hsc.c1
 have c4 := hsc.c4
 have hx0 : 0 ≤ x ∨ x < 0 := by omega
 by_cases hk : k + 1 < S.size
 ·have hk1 : (k : Int) + 1 < (S.size : Int) := by omega
  have hk2 : (0 : Int) ≤ (k : Int) + 1 := by omega
  obtain ⟨v, hv⟩ := xE (U0.contains (S[k], S[k + 1]))
  have hl : ∀ n, (Instr.lookup 143 (.map (some mb)) (.agg #[.int .u8 S[k].toNat, .int .u8 S[k + 1].toNat]) true).run prog (w.drewN n) = .ok (.tuple #[.agg #[], .bool v]) (w.drewN n) :=
   fun n => Ss (w := w.drewN n) hown hD _ _ hv.symm
  have hl2 : ∀ n, (Instr.lookup 143 (.map (some mb)) (.agg #[.int .u8 S[k].toNat, .int .u8 S[k + 1].toNat]) true).run prog ((w.drewN n).alloc (.cells #[] 200)) = .ok (.tuple #[.agg #[], .bool v]) ((w.drewN n).alloc (.cells #[] 200)) :=
   fun n => Ss (hown.kept (Nf w n _) (by simp)) hD _ _ hv.symm
  have d0 : ∀ n, ((w.drewN n).alloc (.cells #[] 200)).cell? ⟨sb, 0, none⟩ = some (.string S) := fun n => (hsc.kept (Nf w n _) (by simp)).c0
  have d1 : ∀ n, ((w.drewN n).alloc (.cells #[] 200)).cell? ⟨sb, 1, none⟩ = some (.int .i64 k) := fun n => (hsc.kept (Nf w n _) (by simp)).c1
  have d4 : ∀ n, ((w.drewN n).alloc (.cells #[] 200)).cell? ⟨sb, 4, none⟩ = some (.map (some mb)) := fun n => (hsc.kept (Nf w n _) (by simp)).c4
  have HV := Za hv
  clear hsc hown hD hv
  cases v
  ·have e1 := Sc hk0 (fun _ => HV.o.symm)
   rw [← HR.o] at e1
   have e3 : (0 ≤ x ∧ r = 1) ∨ (x < 0 ∧ r = 0) := by
    rcases hx0 with h | h
    ·exact .inl ⟨h, by rw [e1, hmem.o.1 h]; rfl⟩
    ·refine .inr ⟨h, ?_⟩
     rw [e1, if_neg]
     intro hh
     have := hmem.o.2 hh
     omega
   clear e1 hx0
   go_enter func194, ntmps194
   go_wp2
   go_quiet (fail)
   go_wp2
   go_region
   all_goals
    clear hl hl2 c0 c1 c4
    rcases e3 with ⟨h, rfl⟩ | ⟨h, rfl⟩
    ·go_wp2
     go_quiet ((go_at_call 159; refine Calls.quiet_of_same (hone.o _)))
     go_wp2
     go_ret
     exact ⟨rfl, Ug (Nf _ _ _) _⟩
    ·go_wp2
     go_quiet ((go_at_call 159; refine Calls.quiet_of_same (hone.o _)))
     go_wp2
     go_ret
     exact ⟨rfl, Ug (Nf _ _ _) _⟩
  ·have e1 := zby hk HV.o.symm
   rw [← HR.o] at e1
   subst e1
   go_enter func194, ntmps194
   go_wp2
   go_quiet (fail)
   go_wp2
   go_region
   all_goals
    go_wp2
    go_ret
    exact ⟨rfl, Nf _ _ _⟩
 ·have hk1 : ¬ (k : Int) + 1 < (S.size : Int) := by omega
  have e1 := Sc hk0 (fun h => absurd h hk)
  rw [← HR.o] at e1
  have e3 : (0 ≤ x ∧ r = 1) ∨ (x < 0 ∧ r = 0) := by
   rcases hx0 with h | h
   ·exact .inl ⟨h, by rw [e1, hmem.o.1 h]; rfl⟩
   ·refine .inr ⟨h, ?_⟩
    rw [e1, if_neg]
    intro hh
    have := hmem.o.2 hh
    omega
  clear hsc hown hD c4 e1 hx0
  have C0 := Za c0
  have C1 := Za c1
  go_enter func194, ntmps194
  go_wp2
  go_quiet (fail)
  go_wp2
  generalize hw1 : World.drewN w _ = w1
  have hg : xQ (w.grownBy w1 none) := by rw [← hw1]; exact Ug (World.grownBy.refl _ _) _
  have d0 : w1.cell? ⟨sb, 0, none⟩ = some (.string S) := by rw [← hw1]; exact C0.o
  have d1 : w1.cell? ⟨sb, 1, none⟩ = some (.int .i64 k) := by rw [← hw1]; exact C1.o
  clear c0 c1 hw1
  rcases e3 with ⟨h, rfl⟩ | ⟨h, rfl⟩
  ·go_quiet ((go_at_call 159; refine Calls.quiet_of_same (hone.o _)))
   go_wp2
   go_ret
   exact ⟨rfl, Ug hg.o _⟩
  ·go_quiet ((go_at_call 159; refine Calls.quiet_of_same (hone.o _)))
   go_wp2
   go_ret
   exact ⟨rfl, Ug hg.o _⟩
end Go.Proofs.YtbnjllkkhhkkaaaGreatDoor.Lx
namespace Go.Proofs.YtbnjllkkhhkkaaaGreatDoor.Lx
open Tryz
open Go.RowKit
def Ku (S : ByteArray) (sb mb k : Nat) (li ls : Int) (tb : Nat) (kd tl tc : Int) (w : World) (n : Nat) (e : Ending) (w' : World) : Prop :=
 if n = 0 then e = .returned (.int .i64 5) ∧ w.grownBy w' none else
  e = .returned (.int .i64 0) ∧ Yf w' sb S ((k + n : Nat) : Int) li ls mb ∧ Ym w' tb kd ⟨((S.data.toList.drop k).take n).toArray⟩ tl tc ∧ Yo w w' sb tb
theorem Ch (S : ByteArray) (hS : S.size ≤ 65536) (sb mb k : Nat) (li ls : Int) (hk : k < S.size) (tb : Nat) (kd : Int) (tx : ByteArray) (tl tc : Int) (hne : sb ≠ tb) (w : World) (hsc : Yf w sb S k li ls mb) (htk : Ym w tb kd tx tl tc)
  (D : DataW Unit) (hown : w.ownsMap prog 199 unitElem mb 8 D) (hD : Nd D) :
  Calls prog 170 #[.pointer (some ⟨sb, 0, none⟩), .pointer (some ⟨tb, 0, none⟩)] w (Ku S sb mb k li ls tb kd tl tc w (Y7 (S.data.toList.drop k))) := by
 have hc := Cd S hS sb mb k li ls hk w hsc D hown hD
 have hle := L3 (S.data.toList.drop k)
 rw [List.length_drop, Yp] at hle
 obtain ⟨n, hn⟩ := xE (Y7 (S.data.toList.drop k))
 rw [← hn] at hc hle ⊢
 have HC := Za hc
 have HS := Za hsc
 have HT := Za htk
 clear hn hc hsc htk hown hD
 by_cases h0 : n = 0
 ·subst h0
  go_enter func170, ntmps170
  go_wp2_with fail
  refine HC.o.mono ?_
  rintro e w1 ⟨rfl, hg⟩
  have HG := Za hg
  clear hg
  go_wp2
  go_ret
  exact ⟨rfl, HG.o⟩
 have b0 : ((n : Int) == 0) = false := by simp; omega
 have l1 : (k : Int) + (n : Int) ≤ (S.size : Int) := by omega
 have l2 : (k : Int) ≤ (k : Int) + (n : Int) := by omega
 go_enter func170, ntmps170
 go_wp2_with fail
 refine HC.o.mono ?_
 rintro e w1 ⟨rfl, hg⟩
 have HG := Za hg
 have hs1 := HS.o.kept hg (by simp)
 have ht1 := HT.o.kept hg (by simp)
 have HS1 := Za hs1
 have HT1 := Za ht1
 have c0 := hs1.c0
 have c1 := hs1.c1
 have f1 := hs1.fz 1
 have t1 := ht1.c1
 have g1 := ht1.fz 1
 clear hg hs1 ht1
 go_wp2
 go_region
 all_goals
  have hs2 := HS1.o.kept (Tj w1 ⟨tb, 1, none⟩ (.string (S.extract k (k + n)))) (by simpa using hne)
  have HS2 := Za hs2
  have d1 := hs2.c1
  have e1 := hs2.fz 1
  clear hs2
  go_wp2
  go_ret
  rw [Ku, if_neg h0]
  refine ⟨rfl, HS2.o.set1 _, ?_, ?_⟩
  ·have := (HT1.o.set1 (S.extract k (k + n))).kept (Tj _ ⟨sb, 1, none⟩ (.int .i64 ((k : Int) + n))) (by simpa using hne.symm)
   rw [P8, Nat.add_sub_cancel_left] at this
   rw [P8, Nat.add_sub_cancel_left]
   exact this
  ·exact (((Yo.ofNone HG.o sb tb).setR 1 _).setL 1 _).drew
theorem Rz {c x : UInt8} (h : U5 c = some x) : ∃ j : Nat, j < 4 ∧ Qu c = j ∧ (ByteArray.mk #[92, 34, 10, 9])[j]? = some x := by
 unfold U5 at h
 unfold Qu
 repeat' split at h
 ·injection h with h; subst h; exact ⟨0, by omega, by simp [*], rfl⟩
 ·injection h with h; subst h; exact ⟨1, by omega, by simp [*], rfl⟩
 ·injection h with h; subst h; exact ⟨2, by omega, by simp [*], rfl⟩
 ·injection h with h; subst h; exact ⟨3, by omega, by simp [*], rfl⟩
 ·cases h
theorem zgc {c : UInt8} (h : U5 c = none) : Qu c < 0 := by
 unfold U5 at h
 unfold Qu
 repeat' split at h
 ·cases h
 ·cases h
 ·cases h
 ·cases h
 ·rename_i h1 h2 h3 h4
  rw [if_neg h1, if_neg h2, if_neg h3, if_neg h4]
  decide
def Xm (S : ByteArray) (m : Nat) (acc : List UInt8) : Option (List UInt8 × List UInt8) := Wv (S.data.toList.drop m) acc
section
variable {S : ByteArray} {m : Nat} {acc : List UInt8}
theorem Ab (h : ¬ m < S.size) : Xm S m acc = none := by
 unfold Xm
 rw [List.drop_eq_nil_of_le (by rw [Yp]; omega), zfq]
theorem D5 (h : m < S.size) (hb : S[m].toNat = 34) : Xm S m acc = some (acc, S.data.toList.drop (m + 1)) := by
 unfold Xm
 rw [Y0 S m h, show S[m] = 34 from UInt8.toNat_inj.1 hb, A2]
theorem Gi (h : m < S.size) (hb : S[m].toNat < 32) : Xm S m acc = none := by
 unfold Xm
 rw [Y0 S m h, Dz hb]
theorem Fz (h : m < S.size) (h1 : S[m].toNat ≠ 34) (h2 : ¬ S[m].toNat < 32) (h3 : S[m].toNat ≠ 92) : Xm S m acc = Xm S (m + 1) (acc ++ [S[m]]) := by
 unfold Xm
 rw [Y0 S m h, Dq (fun e => h1 (by rw [e]; rfl)) h2 (fun e => h3 (by rw [e]; rfl))]
theorem Fv (h : m < S.size) (hb : S[m].toNat = 92) (h1 : ¬ m + 1 < S.size) : Xm S m acc = none := by
 unfold Xm
 rw [Y0 S m h, show S[m] = 92 from UInt8.toNat_inj.1 hb, List.drop_eq_nil_of_le (by rw [Yp]; omega), D7]
theorem Ra (h : m < S.size) (hb : S[m].toNat = 92) (h1 : m + 1 < S.size) (hu : U5 S[m + 1] = none) : Xm S m acc = none := by
 unfold Xm
 rw [Y0 S m h, show S[m] = 92 from UInt8.toNat_inj.1 hb, Y0 S (m + 1) h1, Sq hu]
theorem Fh (h : m < S.size) (hb : S[m].toNat = 92) (h1 : m + 1 < S.size) {x : UInt8} (hu : U5 S[m + 1] = some x) : Xm S m acc = Xm S (m + 2) (acc ++ [x]) := by
 unfold Xm
 rw [Y0 S m h, show S[m] = 92 from UInt8.toNat_inj.1 hb, Y0 S (m + 1) h1, Aw hu]
end
theorem H9 {w : World} {B e z n : Nat} {v : Value} {xs : List Value} (h : w.ownsRow B e z v n xs) : ∃ a cap, v = .slice a n cap := by
 rcases h.2 with ⟨h1, h2⟩ | ⟨g, cap, cur, h1, _⟩
 ·exact ⟨none, 0, by rw [h1, h2]⟩
 ·exact ⟨_, _, h1⟩
theorem zei {w : World} {B e z n : Nat} {v : Value} {xs : List Value} (h : w.ownsRow B e z v n xs) : xQ (∀ j, v.ownBlock = some j → B ≤ j) := by
 intro j hj
 rcases h.2 with ⟨h1, h2⟩ | ⟨g, cap, cur, h1, h2, _⟩
 ·rw [h1] at hj; cases hj
 ·rw [h1] at hj
  simp [Value.ownBlock] at hj
  omega
theorem B9 {w wr w1 : World} {v v' : Value} {acc : List UInt8} {ob : Obj} (x : UInt8) (hg : w.grownBy wr none) (zho : w1.ownsRow w.heap.size 5 1 v' (acc.length + 1) (Qv acc ++ [.int .u8 x.toNat]))
  (zhn : (wr.alloc ob).grownBy w1 v.ownBlock) (hb : ∀ j, v.ownBlock = some j → w.heap.size ≤ j) : w1.ownsRow w.heap.size 5 1 v' (acc ++ [x]).length (Qv (acc ++ [x])) ∧ w.grownBy w1 none := by
 refine ⟨?_, (hg.trans (World.grownBy_alloc _ _ _)).andThen zhn fun j hj => .inl (hb j hj)⟩
 rw [Io, List.length_append]
 exact zho
def L1 (S : ByteArray) (sb mb k : Nat) (li ls : Int) (tb : Nat) (kd tl tc : Int) (w : World) (o : Option (List UInt8 × List UInt8)) (e : Ending) (w' : World) : Prop :=
 match o with
 | none => e = .returned (.int .i64 4) ∧ w.grownBy w' none
 | some (said, rest) => if 256 < said.length then e = .returned (.int .i64 2) ∧ w.grownBy w' none else
   e = .returned (.int .i64 0) ∧ ∃ m : Nat, k < m ∧ m ≤ S.size ∧ rest = S.data.toList.drop m ∧ Yf w' sb S m li ls mb ∧ Ym w' tb kd ⟨said.toArray⟩ tl tc ∧ Yo w w' sb tb
theorem zcb (S : ByteArray) (hS : S.size ≤ 65536) (sb mb k : Nat) (li ls : Int) (hk : k < S.size) (tb : Nat) (kd : Int) (tx : ByteArray) (tl tc : Int) (hne : sb ≠ tb) (w : World) (hsc : Yf w sb S k li ls mb) (htk : Ym w tb kd tx tl tc) :
  Calls prog 169 #[.pointer (some ⟨sb, 0, none⟩), .pointer (some ⟨tb, 0, none⟩)] w (L1 S sb mb k li ls tb kd tl tc w (Xm S (k + 1) [])) := by
 obtain ⟨o, ho⟩ := xE (Xm S (k + 1) [])
 rw [← ho]
 have HO := Za ho
 have HS := Za hsc
 have HT := Za htk
 have c0 := hsc.c0
 have c1 := hsc.c1
 clear ho hsc htk
 obtain ⟨i0, hi, hz0, hz1, hz2⟩ := info_parts zap
 go_enter func169, ntmps169
 go_wp2
 go_loopw [5, 6] (fun v i wr => ∃ (m : Nat) (acc : List UInt8), k + 1 ≤ m ∧ m ≤ S.size + 1 ∧ i = .int .i64 m ∧ acc.length ≤ m ∧ wr.ownsRow w.heap.size 5 1 v acc.length (Qv acc) ∧ w.grownBy wr none ∧ o = Xm S m acc) (fun _ i _ => S.size + 1 - (intOf i).toNat)
 case atStart => exact ⟨k + 1, [], xR, by omega, by go_num, by simp, World.ownsRow_nil _ _ _ _, World.grownBy.refl _ _, HO.o⟩
 case round =>
  obtain ⟨m, acc, hm, hm1, rfl, hal, hown, hg, hrel⟩ := hrel
  have HR := Za hrel
  have HG := Za hg
  have hsc := HS.o.kept hg (by simp)
  have htk := HT.o.kept hg (by simp)
  have HSC := Za hsc
  have HTK := Za htk
  have d0 := hsc.c0
  have d1 := hsc.c1
  have f1 := hsc.fz 1
  have t1 := htk.c1
  have g1 := htk.fz 1
  have HOW := Za hown
  have hsz := hg.size
  obtain ⟨a, cap, rfl⟩ := H9 hown
  have hbl := zei hown
  clear hrel hg hsc htk c0 c1
  by_cases hlt : m < S.size
  ·by_cases b1 : S[m].toNat = 34
   ·have p1 : ((S[m].toNat : Int) == 34) = true := by simp; omega
    have e := HR.o.trans (D5 hlt b1)
    have hcv := Cs hown
    clear hown
    by_cases hl : 256 < acc.length
    ·subst e
     go_wp2
     go_ret
     simp only [L1, if_pos hl]
     exact ⟨rfl, HG.o⟩
    ·subst e
     go_wp2
     go_ret
     simp only [L1, if_neg hl]
     refine ⟨rfl, m + 1, by omega, by omega, rfl, ?_, ?_, ?_⟩
     ·exact (HSC.o.kept (Tj wr ⟨tb, 1, none⟩ _) (by simpa using hne)).set1 (m + 1)
     ·exact (HTK.o.set1 _).kept (Tj _ ⟨sb, 1, none⟩ _) (by simpa using hne.symm)
     ·exact ((Yo.ofNone HG.o sb tb).setR 1 _).setL 1 _
   have n1 : ((S[m].toNat : Int) == 34) = false := by simp; omega
   by_cases b2 : S[m].toNat < 32
   ·have e := HR.o.trans (Gi hlt b2)
    have p2 : (S[m].toNat : Int) < 32 := by omega
    clear hown
    subst e
    go_wp2
    go_ret
    exact ⟨rfl, HG.o⟩
   have n2 : ¬ (S[m].toNat : Int) < 32 := by omega
   by_cases b3 : S[m].toNat = 92
   ·have p3 : ((S[m].toNat : Int) == 92) = true := by simp; omega
    by_cases hl1 : m + 1 < S.size
    ·have hc := zej S (m + 1) hl1
     cases hu : U5 S[m + 1] with
     | none =>
      have e := HR.o.trans (Ra hlt b3 hl1 hu)
      have hneg := zgc hu
      obtain ⟨x, hx⟩ := xE (Qu S[m + 1])
      rw [← hx] at hc hneg
      have HC := Za hc
      clear hown hc hx hu
      subst e
      go_wp2_with fail
      refine (HC.o _).mono ?_
      rintro e w' ⟨rfl, rfl⟩
      go_wp2
      go_ret
      exact ⟨rfl, HG.o⟩
     | some x =>
      have e := Za (HR.o.trans (Fh hlt b3 hl1 hu))
      obtain ⟨j, hj, hjx, hix⟩ := Rz hu
      rw [hjx] at hc
      have HC := Za hc
      clear hc hjx hu
      have hj4 : (j = 0 ∧ x = 92) ∨ (j = 1 ∧ x = 34) ∨ (j = 2 ∧ x = 10) ∨ (j = 3 ∧ x = 9) := by
       match j, hj with
       | 0, _ => exact .inl ⟨rfl, (Option.some.inj hix).symm⟩
       | 1, _ => exact .inr (.inl ⟨rfl, (Option.some.inj hix).symm⟩)
       | 2, _ => exact .inr (.inr (.inl ⟨rfl, (Option.some.inj hix).symm⟩))
       | 3, _ => exact .inr (.inr (.inr ⟨rfl, (Option.some.inj hix).symm⟩))
      clear hix hj
      rcases hj4 with ⟨rfl, rfl⟩ | ⟨rfl, rfl⟩ | ⟨rfl, rfl⟩ | ⟨rfl, rfl⟩
      ·go_wp2_with fail
       refine (HC.o _).mono ?_
       rintro e w' ⟨rfl, rfl⟩
       go_wp2_with (at_builtin; refine wpList_append_own _ rfl (.tmp 60) (.tmp 62) 77 rfl w.heap.size 5 i0 (.int .u8 0) 1 1 underlying77 hi hz0 hz1 hz2 rfl (by decide) _ _ _ rfl (HOW.o.alloc _) ⟨_, 0, none⟩ 1 1 [.int .u8 92] rfl rfl (B6 _ 92 5) (Bd 92) (by unfold maxLen; omega) (by omega) (by simp; omega) ?_)
       intro v' w1 zho zhn _
       have R := Za (B9 92 HG.o zho zhn hbl.o)
       clear zho zhn hown
       go_wp2
       go_roundw
       case rel => exact ⟨m + 2, acc ++ [92], by omega, by omega, by go_num, by simp; omega, R.o.1, R.o.2, e.o⟩
       case measure => simp [intOf]; omega
      ·go_wp2_with fail
       refine (HC.o _).mono ?_
       rintro e w' ⟨rfl, rfl⟩
       go_wp2_with (at_builtin; refine wpList_append_own _ rfl (.tmp 60) (.tmp 62) 77 rfl w.heap.size 5 i0 (.int .u8 0) 1 1 underlying77 hi hz0 hz1 hz2 rfl (by decide) _ _ _ rfl (HOW.o.alloc _) ⟨_, 0, none⟩ 1 1 [.int .u8 34] rfl rfl (B6 _ 34 5) (Bd 34) (by unfold maxLen; omega) (by omega) (by simp; omega) ?_)
       intro v' w1 zho zhn _
       have R := Za (B9 34 HG.o zho zhn hbl.o)
       clear zho zhn hown
       go_wp2
       go_roundw
       case rel => exact ⟨m + 2, acc ++ [34], by omega, by omega, by go_num, by simp; omega, R.o.1, R.o.2, e.o⟩
       case measure => simp [intOf]; omega
      ·go_wp2_with fail
       refine (HC.o _).mono ?_
       rintro e w' ⟨rfl, rfl⟩
       go_wp2_with (at_builtin; refine wpList_append_own _ rfl (.tmp 60) (.tmp 62) 77 rfl w.heap.size 5 i0 (.int .u8 0) 1 1 underlying77 hi hz0 hz1 hz2 rfl (by decide) _ _ _ rfl (HOW.o.alloc _) ⟨_, 0, none⟩ 1 1 [.int .u8 10] rfl rfl (B6 _ 10 5) (Bd 10) (by unfold maxLen; omega) (by omega) (by simp; omega) ?_)
       intro v' w1 zho zhn _
       have R := Za (B9 10 HG.o zho zhn hbl.o)
       clear zho zhn hown
       go_wp2
       go_roundw
       case rel => exact ⟨m + 2, acc ++ [10], by omega, by omega, by go_num, by simp; omega, R.o.1, R.o.2, e.o⟩
       case measure => simp [intOf]; omega
      ·go_wp2_with fail
       refine (HC.o _).mono ?_
       rintro e w' ⟨rfl, rfl⟩
       go_wp2_with (at_builtin; refine wpList_append_own _ rfl (.tmp 60) (.tmp 62) 77 rfl w.heap.size 5 i0 (.int .u8 0) 1 1 underlying77 hi hz0 hz1 hz2 rfl (by decide) _ _ _ rfl (HOW.o.alloc _) ⟨_, 0, none⟩ 1 1 [.int .u8 9] rfl rfl (B6 _ 9 5) (Bd 9) (by unfold maxLen; omega) (by omega) (by simp; omega) ?_)
       intro v' w1 zho zhn _
       have R := Za (B9 9 HG.o zho zhn hbl.o)
       clear zho zhn hown
       go_wp2
       go_roundw
       case rel => exact ⟨m + 2, acc ++ [9], by omega, by omega, by go_num, by simp; omega, R.o.1, R.o.2, e.o⟩
       case measure => simp [intOf]; omega
    ·have e := HR.o.trans (Fv hlt b3 hl1)
     have HC := Za (Cq S (m + 1) (by omega))
     clear hown
     subst e
     go_wp2_with fail
     refine (HC.o _).mono ?_
     rintro e w' ⟨rfl, rfl⟩
     go_wp2
     go_ret
     exact ⟨rfl, HG.o⟩
   have n3 : ((S[m].toNat : Int) == 92) = false := by simp; omega
   have e := Za (HR.o.trans (Fz hlt b1 b2 b3))
   go_wp2_with (at_builtin; refine wpList_append_own _ rfl (.tmp 60) (.tmp 62) 77 rfl w.heap.size 5 i0 (.int .u8 0) 1 1 underlying77 hi hz0 hz1 hz2 rfl (by decide) _ _ _ rfl (HOW.o.alloc _) ⟨_, 0, none⟩ 1 1 [.int .u8 S[m].toNat] rfl rfl (B6 _ S[m].toNat 5) (Bd S[m].toNat) (by unfold maxLen; omega) (by omega) (by simp; omega) ?_)
   intro v' w1 zho zhn _
   have R := Za (B9 S[m] HG.o zho zhn hbl.o)
   clear zho zhn hown
   go_wp2
   go_roundw
   case rel => exact ⟨m + 1, acc ++ [S[m]], by omega, by omega, by go_num, by simp; omega, R.o.1, R.o.2, e.o⟩
   case measure => simp [intOf]; omega
  ·have e := HR.o.trans (Ab hlt)
   clear hown
   subst e
   go_wp2
   go_ret
   exact ⟨rfl, HG.o⟩
end Go.Proofs.YtbnjllkkhhkkaaaGreatDoor.Lx
