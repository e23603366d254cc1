/- Part. -/
import Derived.LaidEql
import Derived.Maps.OwnSet
import Derived.ChangeKeysEq
import Derived.Maps.AppendAt
import Derived.Test.YtbnjllkkhhkkaaaGreatDoorPart1
set_option maxRecDepth 100000
set_option maxHeartbeats 4000000
namespace Go.Proofs.YtbnjllkkhhkkaaaGreatDoor
open Tryz
open Go.RowKit
def Tc : List (List UInt8) := [[111, 114], [97, 110, 100], [60], [60, 61], [61, 61], [43, 43], [43], [45], [94], [42], [47], [37], [38], [60, 60], [62, 62]]
def Pv (i : Nat) : ByteArray := ⟨(Tc.getD i []).toArray⟩
def Qi (w : World) : Prop := ∀ i, i < 15 → w.cell? ⟨6, i, none⟩ = some (.string (Pv i))
theorem Qi.lt {w : World} (h : Qi w) : 6 < w.heap.size := World.block_lt_of_cell? w _ (h 0 (by decide))
theorem Qi.below {w w' : World} (h : Qi w) (hb : Below w.heap.size w w') : Qi w' := fun i hi => (hb.cell (show 6 < w.heap.size from h.lt)).trans (h i hi)
def N0 : List Value := (List.range 15).map fun i => .string (Pv i)
theorem Db (i : Nat) (hi : i < 15) : N0[i]? = some (.string (Pv i)) := by simp [N0, hi]
theorem Qi.range {w : World} (h : Qi w) : w.rangeAt 6 0 N0 := by
 intro j v hv
 have hj : j < 15 := by
  have := (List.getElem?_eq_some_iff.1 hv).1
  simpa [N0] using this
 rw [Db j hj] at hv
 injection hv with hv
 rw [← hv, Nat.zero_add]
 exact h j hj
theorem Oh : (prog.info? 236).map (·.size) = some N0.length := by kernel_rfl
def noOp (s : ByteArray) (k : Nat) : Prop := ∀ i, i < k → s ≠ Pv i
theorem Fc (s : ByteArray) : Tc.contains s.data.toList = true ↔ ∃ i, i < 15 ∧ s = Pv i := by
 rw [List.contains_iff_mem]
 constructor
 ·intro h
  obtain ⟨i, hi, e⟩ := List.mem_iff_getElem.1 h
  refine ⟨i, hi, ?_⟩
  unfold Pv
  rw [List.getD_eq_getElem?_getD, List.getElem?_eq_getElem hi, Option.getD_some, e]
 ·rintro ⟨i, hi, e⟩
  rw [e]
  unfold Pv
  rw [List.getD_eq_getElem?_getD, List.getElem?_eq_getElem (show i < Tc.length from hi), Option.getD_some]
  exact List.getElem_mem ..
theorem zez {A : List Value} {k : Nat} {t : ByteArray} (hk : k < 15) (h : A[k]? = some (.string t)) (w : World) :
  (Instr.index 236 (.agg A.toArray) (.int .i64 k)).run prog w = .ok (.string t) w := by
 have hu := underlying236
 have ha := isAgg9
 have hz := sizeOf9
 simp [Instr.index, asIntOf, run_underlying hu, part, ha, hz, Result.andThen, hk]
 rw [h]
 rfl
theorem isOp_c (s : ByteArray) (w : World) (hw : Qi w) :
  Calls prog 190 #[.string s] w fun e w' => e = .returned (.bool (Tc.contains s.data.toList)) ∧ w' = w := by
 obtain ⟨b, hb⟩ := xE (Tc.contains s.data.toList)
 rw [← hb]
 have HB := Za hb
 clear hb
 have hr := Za hw.range
 obtain ⟨A, hA⟩ := xE N0
 have hat := Db
 have hsz := Oh
 rw [← hA] at hr hat hsz
 clear hA hw
 have HA := Za hat
 clear hat
 go_enter func190, ntmps190
 go_wp2_with (refine wpList_load_mid rfl 236 (.global 6) rfl 6 0 rfl A (.array 15 9) hr.o underlying236 rfl hsz ?_)
 go_loop [6] (fun i => ∃ k : Nat, k ≤ 15 ∧ i = .int .i64 k ∧ xQ (noOp s k)) (fun i => 15 - (intOf i).toNat)
 case atStart => exact ⟨0, by omega, rfl, fun i hi => by omega⟩
 case round =>
  obtain ⟨k, hk, rfl, hno⟩ := hrel
  by_cases hlt : k < 15
  ·have hAk := HA.o k hlt
   obtain ⟨t, ht⟩ := xE (Pv k)
   rw [← ht] at hAk
   have hix := zez hlt hAk w
   clear hAk
   have HT := Za ht
   clear ht
   cases hq : (s.toList == t.toList)
   ·have hno' : xQ (noOp s (k + 1)) := fun i hi => by
     by_cases hik : i = k
     ·subst hik; rw [← HT.o]; exact M4 hq
     ·exact hno.o i (by omega)
    go_wp2
    go_round
    case rel => exact ⟨k + 1, by omega, by go_num, hno'⟩
    case measure => simp [intOf]; omega
   ·have e : b = true := by
     rw [HB.o]
     exact (Fc s).2 ⟨k, hlt, (Qn.1 hq).trans HT.o⟩
    subst e
    go_wp2
    go_ret
    exact ⟨rfl, rfl⟩
  ·have e : b = false := by
    rw [HB.o, Bool.eq_false_iff]
    intro h
    obtain ⟨i, hi, e⟩ := (Fc s).1 h
    exact hno.o i (by omega) e
   subst e
   go_wp2
   go_ret
   exact ⟨rfl, rfl⟩
theorem zcx (s : ByteArray) (w : World) (hw : Qi w) : Calls prog 156 #[.string s, .int .i64 3] w fun e w' => e = .returned (.bool (Tc.contains s.data.toList)) ∧ w' = w := by
 have HC := Za (isOp_c s w hw)
 clear hw
 generalize Tc.contains s.data.toList = b at HC
 go_enter func156, ntmps156
 go_wp2_with fail
 refine HC.o.mono ?_
 rintro e w' ⟨rfl, rfl⟩
 go_wp2_with fail
 go_ret
 exact ⟨rfl, rfl⟩
theorem zhg (s : ByteArray) (hs : s.size ≤ 1000) (w : World) (hw : Words w) : Calls prog 156 #[.string s, .int .i64 1] w fun e w' => e = .returned (.bool (Tz s.data.toList)) ∧ w' = w := by
 have HC := Za (Sl s (by omega) w hw)
 clear hw
 generalize Tz s.data.toList = b at HC
 go_enter func156, ntmps156
 go_wp2_with fail
 refine HC.o.mono ?_
 rintro e w' ⟨rfl, rfl⟩
 go_wp2_with fail
 go_ret
 exact ⟨rfl, rfl⟩
theorem Cx (a : Option Addr) (c : Nat) (w : World) : Calls prog 130 #[.slice a 0 c, .func (.func 131) #[] #[]] w fun e w' => e = .returned (.bool true) ∧ w' = w := by
 go_enter func130, ntmps130
 go_wp2_with fail
 go_loopw [9] (fun i wx => i = .int .i64 0 ∧ wx = w) (fun _ _ => 0)
 case atStart => exact ⟨rfl, rfl⟩
 case round =>
  obtain ⟨rfl, rfl⟩ := hrel
  go_wp2_with fail
  go_ret
  exact ⟨rfl, by first | rfl | trivial⟩
def Ws (k : Nat) : Nat × Nat × Nat × Nat × Nat × Nat × Bool :=
 [(0, 9223372036854775807, 0, 0, 0, 0, false), (2, 0, 0, 0, 0, 0, false), (0, 1, 0, 0, 0, 0, false), (0, 0, 0, 0, 0, 0, false), (1, 0, 0, 0, 0, 0, false), (1, 0, 0, 1, 2, 2, false), (1, 0, 1, 2, 1, 1, false), (0, 0, 0, 0, 2, 2, false), (0, 0, 0, 0, 0, 9223372036854775807, true), (1, 0, 0, 0, 1, 1, false),
 (1, 0, 0, 0, 2, 2, false), (0, 0, 0, 0, 3, 3, false), (0, 5, 0, 0, 1, 1, false), (0, 0, 1, 1, 1, 1, false), (3, 0, 0, 0, 2, 2, false), (0, 0, 0, 0, 1, 1, false), (0, 0, 0, 0, 1, 1, false), (0, 0, 0, 0, 1, 1, false), (0, 0, 0, 0, 0, 0, false), (1, 0, 1, 9223372036854775807, 0, 0, false)].getD k (0, 0, 0, 0, 0, 0, false)
def Md (w : World) : Prop := ∀ k, k < 20 → w.cell? ⟨3, k * 7, none⟩ = some (.int .i64 (Ws k).1) ∧ w.cell? ⟨3, k * 7 + 1, none⟩ = some (.int .i64 (Ws k).2.1) ∧ w.cell? ⟨3, k * 7 + 2, none⟩ = some (.int .i64 (Ws k).2.2.1) ∧ w.cell? ⟨3, k * 7 + 3, none⟩ = some (.int .i64 (Ws k).2.2.2.1) ∧
 w.cell? ⟨3, k * 7 + 4, none⟩ = some (.int .i64 (Ws k).2.2.2.2.1) ∧ w.cell? ⟨3, k * 7 + 5, none⟩ = some (.int .i64 (Ws k).2.2.2.2.2.1) ∧ w.cell? ⟨3, k * 7 + 6, none⟩ = some (.bool (Ws k).2.2.2.2.2.2)
theorem Md.lt {w : World} (h : Md w) : 3 < w.heap.size := World.block_lt_of_cell? w _ (h 0 (by decide)).1
theorem Md.below {w w' : World} (h : Md w) (hb : Below w.heap.size w w') : Md w' := fun k hk => by
 obtain ⟨h0, h1, h2, h3, h4, h5, h6⟩ := h k hk
 have hl : 3 < w.heap.size := h.lt
 exact ⟨(hb.cell hl).trans h0, (hb.cell hl).trans h1, (hb.cell hl).trans h2, (hb.cell hl).trans h3, (hb.cell hl).trans h4, (hb.cell hl).trans h5, (hb.cell hl).trans h6⟩
theorem F6 {w1 : World} {b : Nat} {y0 y1 y2 y3 y4 y5 y6 : Value} {t : TypeId} (h : w1.heap[b]? = some (.cells #[y0, y1, y2, y3, y4, y5, y6] t)) :
  (w1.cell? ⟨b, 0, none⟩ = some y0 ∧ w1.cell? ⟨b, 1, none⟩ = some y1 ∧ w1.cell? ⟨b, 2, none⟩ = some y2 ∧ w1.cell? ⟨b, 3, none⟩ = some y3 ∧ w1.cell? ⟨b, 4, none⟩ = some y4 ∧ w1.cell? ⟨b, 5, none⟩ = some y5 ∧ w1.cell? ⟨b, 6, none⟩ = some y6) ∧ b < w1.heap.size := by
 refine ⟨⟨?_, ?_, ?_, ?_, ?_, ?_, ?_⟩, xB h⟩
 all_goals (rw [cell_of_row _ _ _ _ _ _ h]; rfl)
theorem Rh (k : Nat) (tx : ByteArray) (N : Nat) (pq : PX) (ka : Option Addr) (kl kc : Nat) (tb : Bool) (w : World) (hk : k < 20) (hf : Md w) (hN : N ≤ (Ws k).2.1) (ht : (Ws k).2.2.1 = 0) (h1 : (Ws k).2.2.2.2.1 ≤ kl) (h2 : kl ≤ (Ws k).2.2.2.2.2.1) (hn : (Ws k).2.2.2.2.2.2 = false) (_ : kl ≤ 1000) (_ : N ≤ 1000)
  (hT : ∀ wx, Below w.heap.size w wx → Calls prog 156 #[.string tx, .int .i64 (Ws k).1] wx fun e w' => e = .returned (.bool tb) ∧ w' = wx) :
  Calls prog 96 #[Tv k tx N pq ka kl kc] w fun e w' => e = .returned (.bool tb) ∧ Below w.heap.size w w' := by
 have hb0 := Zl w (Xl k tx N pq ka kl kc)
 obtain ⟨f0, f1, f2, f3, f4, f5, f6⟩ := hf k hk
 rw [ht] at f2
 rw [hn] at f6
 have hlt := hf.lt
 obtain ⟨⟨t, mN, tl, tm, l, m, nb⟩, hq⟩ : ∃ q, q = Ws k := ⟨_, rfl⟩
 rw [← hq] at f0 f1 f3 f4 f5 hN h1 h2 hT
 simp only at f0 f1 f3 f4 f5 hN h1 h2 hT
 have HH := Za (fun wx => Rw l m kl h1 (by omega) wx)
 have HH0 := Za (fun wx => Rw 0 tm 0 (xR) (by omega) wx)
 have HTX := Za hT
 have HB0 := Za hb0
 have k9 : ¬ (20 : Int) ≤ (k : Int) := by omega
 have k9' : (k : Int) < 20 := by omega
 have k0 : ¬ (k : Int) < 0 := by omega
 have n0 : ¬ (N : Int) < 0 := by omega
 have n1 : ¬ (mN : Int) < (N : Int) := by omega
 clear hq ht hn hf hT hb0
 go_enter func96, ntmps96
 go_wp2_with fail
 have HT : xQ (((w.alloc (Xl k tx N pq ka kl kc)).alloc (.cells #[.int .i64 t, .int .i64 mN, .int .i64 0, .int .i64 tm, .int .i64 l, .int .i64 m, .bool false] 193)).heap[w.heap.size]? = some (Xl k tx N pq ka kl kc)) := (xA (by simp)).trans (xL w _)
 have HO : xQ (((w.alloc (Xl k tx N pq ka kl kc)).alloc (.cells #[.int .i64 t, .int .i64 mN, .int .i64 0, .int .i64 tm, .int .i64 l, .int .i64 m, .bool false] 193)).heap[w.heap.size + 1]? = some (.cells #[.int .i64 t, .int .i64 mN, .int .i64 0, .int .i64 tm, .int .i64 l, .int .i64 m, .bool false] 193)) := Wn w _ _
 refine (HH0.o _).mono ?_
 rintro e w1 ⟨rfl, hb1⟩
 have HB1 := Za (Zn (Zn HB0.o (Zl _ _)) hb1)
 have HT1 := Za ((hb1.block _ (xB HT.o)).trans HT.o)
 have HO1 := Za ((hb1.block _ (xB HO.o)).trans HO.o)
 obtain ⟨⟨x0, x1, x2, x3, x4, x5, x6, x7⟩, hltx⟩ := N5 HT1.o
 obtain ⟨⟨y0, y1, y2, y3, y4, y5, y6⟩, hlty⟩ := F6 HO1.o
 simp only [Nat.zero_add] at x0 x1 x2 x3 x4 x5 x6 x7
 clear hb1 f0 f1 f2 f3 f4 f5 f6 HT HO
 go_wp2_with fail
 refine (HH.o _).mono ?_
 rintro e w2 ⟨rfl, hb2⟩
 have HB2 := Za (Zn HB1.o hb2)
 have HT2 := Za ((hb2.block _ (xB HT1.o)).trans HT1.o)
 have HO2 := Za ((hb2.block _ (xB HO1.o)).trans HO1.o)
 clear hb2 x0 x1 x2 x3 x4 x5 x6 x7 y0 y1 y2 y3 y4 y5 y6 hltx hlty
 obtain ⟨⟨x0, x1, x2, x3, x4, x5, x6, x7⟩, hltx⟩ := N5 HT2.o
 obtain ⟨⟨y0, y1, y2, y3, y4, y5, y6⟩, hlty⟩ := F6 HO2.o
 simp only [Nat.zero_add] at x0 x1 x2 x3 x4 x5 x6 x7
 go_wp2_with fail
 refine (HTX.o _ HB2.o).mono ?_
 rintro e w3 ⟨rfl, rfl⟩
 cases tb
 ·go_wp2_with fail
  go_ret
  exact ⟨rfl, HB2.o⟩
 ·go_wp2_with fail
  refine (zhc pq.na pq.nc kl _).mono ?_
  rintro e w4 ⟨rfl, rfl⟩
  go_wp2_with fail
  refine (Cx _ _ _).mono ?_
  rintro e w5 ⟨rfl, rfl⟩
  go_wp2_with fail
  go_ret
  exact ⟨rfl, HB2.o⟩
def Tl (w : World) (a : Addr) : Prop := ∃ cs t fr, w.heap[a.block]? = some (.cells cs t fr) ∧ w.frozen? a = false
def Tr (w : World) (a : Addr) : Prop := V5 w a.block
theorem Tr.good {w : World} {a : Addr} (h : Tr w a) : Tl w a := by
 obtain ⟨cs, t, h⟩ := h
 exact ⟨cs, t, _, h, by simp [World.frozen?, h]⟩
theorem Tl.below {w w' : World} {a : Addr} (h : Tl w a) (hb : Below w.heap.size w w') : Tl w' a := by
 obtain ⟨cs, t, fr, h, hf⟩ := h
 exact ⟨cs, t, fr, (hb.block _ (xB h)).trans h, (hb.frozen (xB h)).trans hf⟩
theorem zbh (w : World) : w.drewN 0 = w := rfl
theorem zha {P : Program} {w : World} {a b : Addr} (ha : Tl w a) (hb : Tl w b) :
  ∃ r n, (sameAddr a b).run P w = .ok r (w.drewN n) ∧ (a = b → r = true) ∧ (Tr w a → Tr w b → (r = true → a = b)) := by
 by_cases hbl : a.block = b.block
 ·refine ⟨a == b, 0, by simp [sameAddr, hbl, zbh], by simp, by simp⟩
 ·obtain ⟨ca, ta, fa, ha1, ha2⟩ := ha
  obtain ⟨cb, tb, fb, hb1, hb2⟩ := hb
  have hs1 : w.shape? a.block = some (ta, ca.size) := by simp [World.shape?, ha1]
  have hs2 : w.shape? b.block = some (tb, cb.size) := by simp [World.shape?, hb1]
  by_cases hp : Tr w a ∧ Tr w b
  ·obtain ⟨⟨ca', ta', h1⟩, ⟨cb', tb', h2⟩⟩ := hp
   refine ⟨false, 0, by rw [run_sameAddr_other w (fun e => hbl (by rw [e])) h1 h2]; rfl, fun e => absurd (by rw [e]) hbl, fun _ _ h => by cases h⟩
  ·have hno : Tr w a → Tr w b → False := fun h1 h2 => hp ⟨h1, h2⟩
   have hex : ∃ r n, (sameAddr a b).run P w = .ok r (w.drewN n) := by
    generalize hR : (sameAddr a b).run P w = R
    simp only [sameAddr, noView, viewAt, mayBeOne, stringish] at hR
    simp [hbl, ha2, hb2, hs1, hs2] at hR
    repeat' split at hR
    all_goals first | exact ⟨_, 0, hR.symm⟩ | exact ⟨_, 1, hR.symm⟩
   obtain ⟨r, n, h⟩ := hex
   exact ⟨r, n, h, fun e => absurd (by rw [e]) hbl, fun h1 h2 => (hno h1 h2).elim⟩
def Ph (a : Addr) (m : Nat) : Value := .agg #[.pointer (some a), .int .i64 m]
theorem Am (xs : Array Value) (w : World) (m : Int) (h : xs[1]? = some (.int .i64 m)) : (part 3 xs 1).run prog w = .ok (.int .i64 m) w := by
 simp [part, isAgg, run_underlying underlying3, h]
theorem zdq (d : Nat) (w : World) (m l : Nat) : (Op.equalIn (d + 1) 3 (.int .i64 m) (.int .i64 l)).run prog w = .ok (m == l) w := by
 simp [Op.equalIn, run_underlying underlying3]
 rw [Bool.eq_iff_iff]
 simp
 omega
end Go.Proofs.YtbnjllkkhhkkaaaGreatDoor
namespace Go.Proofs.YtbnjllkkhhkkaaaGreatDoor
open Tryz
open Go.RowKit Go.MapKept
open Go.ChangeMaps (setBlock)
structure M9 (K : TypeId) (G P : World → Value → Prop) : Prop where
 eq : ∀ w x y, G w x → G w y → ∃ r n, (Op.equal K x y).run prog w = .ok r (w.drewN n) ∧ (x = y → r = true) ∧ (P w x → P w y → (r = true → x = y))
 check : ∀ w em x, G w x → (Instr.checkKey em 10000 K x).run prog w = .ok () w
 drew : ∀ w n x, G w x → G (w.drewN n) x
 drewP : ∀ w n x, P w x → P (w.drewN n) x
 now : ∀ w x y, G w x → ∃ d, prog.underlying K = some d ∧ Instr.sameNow d x y = none
section
variable {K : TypeId} {G P : World → Value → Prop}
theorem Aj (O : M9 K G P) : ∀ (es : List MapEntry) (i : Nat) (w : World) (x : Value), G w x → (∀ e ∈ es, G w e.key) →
  ∃ n r, (Instr.findAsking K x es i).run prog w = .ok r (w.drewN n) ∧
   ((r = none ∧ ∀ e ∈ es, e.key ≠ x) ∨ ∃ j e, r = some (i + j, e.val) ∧ es[j]? = some e ∧ (P w x → (∀ e ∈ es, P w e.key) → e.key = x))
 | [], i, w, x, _, _ => ⟨0, none, by simp [Instr.findAsking]; rfl, .inl ⟨rfl, by simp⟩⟩
 | e :: es, i, w, x, hx, hes => by
  obtain ⟨r, n, h, h1, h2⟩ := O.eq w x e.key hx (hes e (by simp))
  cases r
  ·obtain ⟨n', r', h', hr⟩ := Aj O es (i + 1) (w.drewN n) x (O.drew w n x hx) (fun e' he' => O.drew w n _ (hes e' (by simp [he'])))
   refine ⟨n + n', r', by simp [Instr.findAsking, h, h'], ?_⟩
   rcases hr with ⟨rfl, hn⟩ | ⟨j, e', rfl, hj, hp⟩
   ·refine .inl ⟨rfl, fun e' he' => ?_⟩
    rcases List.mem_cons.1 he' with rfl | he'
    ·exact fun e2 => absurd (h1 e2.symm) (by decide)
    ·exact hn e' he'
   ·exact .inr ⟨j + 1, e', by rw [Nat.add_assoc, Nat.add_comm 1 j], by simpa using hj, fun p1 p2 => hp (O.drewP w n x p1) fun e2 he2 => O.drewP w n _ (p2 e2 (by simp [he2]))⟩
  ·exact ⟨n, some (i, e.val), by simp [Instr.findAsking, h], .inr ⟨0, e, by simp, by simp, fun p1 p2 => (h2 p1 (p2 e (by simp)) rfl).symm⟩⟩
theorem Dj (O : M9 K G P) (es : List MapEntry) (w : World) (x : Value) (hx : G w x) (hes : ∀ e ∈ es, G w e.key) :
  ∃ n r, (Instr.findKey K x es).run prog w = .ok r (w.drewN n) ∧
   ((r = none ∧ ∀ e ∈ es, e.key ≠ x) ∨ ∃ j e, r = some (j, e.val) ∧ es[j]? = some e ∧ (P w x → (∀ e ∈ es, P w e.key) → e.key = x)) := by
 cases es with
 | nil =>
  obtain ⟨d, hd, _⟩ := O.now w x x hx
  exact ⟨0, none, by simp [Instr.findKey, run_underlying hd, Instr.findNow]; rfl, .inl ⟨rfl, by simp⟩⟩
 | cons e es =>
  obtain ⟨d, hd, hs⟩ := O.now w x e.key hx
  obtain ⟨n, r, h, hr⟩ := Aj O (e :: es) 0 w x hx hes
  refine ⟨n, r, by simp [Instr.findKey, run_underlying hd, Instr.findNow, hs, h], ?_⟩
  rcases hr with hr | ⟨j, e', h1, h2, h3⟩
  ·exact .inl hr
  ·exact .inr ⟨j, e', by simpa using h1, h2, h3⟩
def T5 (w : World) (b : Nat) (vs : List Value) : Prop := ∃ es clock, w.heap[b]? = some (.map es clock) ∧ es.toList.map (·.key) = vs ∧ ∀ e ∈ es.toList, e.val = .agg #[]
theorem Ip (w : World) : T5 (w.alloc (.map #[] 0)) w.heap.size [] := ⟨#[], 0, xL w _, rfl, by simp⟩
theorem D9 {w w' : World} {b : Nat} {vs : List Value} (h : T5 w b vs) (hb : w'.heap[b]? = w.heap[b]?) : T5 w' b vs := by
 obtain ⟨es, clock, h1, h2⟩ := h
 exact ⟨es, clock, hb.trans h1, h2⟩
theorem set_lt {w : World} {b : Nat} {vs : List Value} (h : T5 w b vs) : b < w.heap.size := by
 obtain ⟨es, clock, h1, _⟩ := h
 exact xB h1
variable {w : World} {b : Nat} {vs : List Value} {t e : TypeId}
theorem Ee (O : M9 K G P) (ht : prog.underlying t = some (.map K e)) (hz : (zeroValue e).run prog = fun w => .ok (.agg #[]) w) (h : T5 w b vs) {x : Value} (hx : G w x) (hvs : ∀ y ∈ vs, G w y) :
  ∃ r n, (Instr.lookup t (.map (some b)) x true).run prog w = .ok (.tuple #[.agg #[], .bool r]) (w.drewN n) ∧ (r = false → x ∉ vs) ∧ (r = true → ∃ y ∈ vs, P w x → (∀ z ∈ vs, P w z) → y = x) := by
 obtain ⟨es, clock, hb, rfl, hv⟩ := h
 have hg : ∀ e ∈ es.toList, G w e.key := fun e he => hvs _ (List.mem_map.2 ⟨e, he, rfl⟩)
 obtain ⟨n, r, hf, hr⟩ := Dj O es.toList w x hx hg
 rcases hr with ⟨rfl, hn⟩ | ⟨j, e0, rfl, hj, hp⟩
 ·refine ⟨false, n, ?_, fun _ hm => ?_, fun h => by cases h⟩
  ·simp [Instr.lookup, run_underlying ht, MapKept.run_getObj_map hb, O.check w _ _ hx, hf, hz, Result.andThen]
  ·obtain ⟨e1, he1, h2⟩ := List.mem_map.1 hm
   exact hn e1 he1 h2
 ·have hm := List.mem_of_getElem? hj
  refine ⟨true, n, ?_, fun h => (by cases h), fun _ => ⟨e0.key, List.mem_map.2 ⟨e0, hm, rfl⟩, fun p1 p2 => hp p1 fun e1 he1 => p2 _ (List.mem_map.2 ⟨e1, he1, rfl⟩)⟩⟩
  simp [Instr.lookup, run_underlying ht, MapKept.run_getObj_map hb, O.check w _ _ hx, hf, hv e0 hm, Result.andThen]
theorem zdy (w : World) (old new : Value) : ∃ v n, (Instr.keyThatStays old new).run prog w = .ok v (w.drewN n) ∧ (v = new ∨ v = old) := by
 generalize hR : (Instr.keyThatStays old new).run prog w = R
 simp [Instr.keyThatStays] at hR
 repeat' split at hR
 all_goals first | exact ⟨_, 0, hR.symm, .inl rfl⟩ | exact ⟨_, 1, hR.symm, .inl rfl⟩ | exact ⟨_, 0, hR.symm, .inr rfl⟩ | exact ⟨_, 1, hR.symm, .inr rfl⟩
theorem zak (O : M9 K G P) (ht : prog.underlying t = some (.map K e)) (h : T5 w b vs) {x : Value} (hx : G w x) (hvs : ∀ y ∈ vs, G w y) :
  ∃ w' vs', (Instr.mapUpdate t (.map (some b)) x (.agg #[])).run prog w = .ok () w' ∧ T5 w' b vs' ∧ w.grownBy w' (some b) ∧ (∀ y ∈ vs', y ∈ vs ∨ y = x) ∧ (P w x → (∀ z ∈ vs, P w z) → ∀ y, y ∈ vs ∨ y = x → y ∈ vs') := by
 obtain ⟨es, clock, hb, rfl, hv⟩ := h
 have hg : ∀ e ∈ es.toList, G w e.key := fun e he => hvs _ (List.mem_map.2 ⟨e, he, rfl⟩)
 obtain ⟨n, r, hf, hr⟩ := Dj O es.toList w x hx hg
 have hbl : ∀ m o, (setBlock (w.drewN m) b o).heap[b]? = some o := fun m o => by
  have hlt := xB hb
  simp [setBlock, hlt]
 have hgr : ∀ m o, w.grownBy (setBlock (w.drewN m) b o) (some b) := fun m o => ⟨rfl, rfl, rfl, by simp [setBlock], fun i _ hi => by
  have : b ≠ i := fun e => hi (by rw [e])
  simp [setBlock, this]⟩
 have hbd : ∀ m, (w.drewN m).heap[b]? = some (.map es clock) := fun m => hb
 rcases hr with ⟨rfl, hn⟩ | ⟨j, e0, rfl, hj, hp⟩
 ·refine ⟨setBlock (w.drewN n) b (.map (es.push ⟨x, .agg #[], clock⟩) (clock + 1)), es.toList.map (·.key) ++ [x], ?_, ⟨_, _, hbl _ _, by simp, ?_⟩, hgr _ _, ?_, ?_⟩
  ·simp [Instr.mapUpdate, run_underlying ht, MapKept.run_getObj_map hb, O.check w _ _ hx, hf, MapKept.run_setObj_map _ (hbd n), Result.andThen, setBlock]
  ·intro e1 he1
   simp only [Array.toList_push, List.mem_append, List.mem_singleton] at he1
   rcases he1 with he1 | rfl
   ·exact hv e1 he1
   ·rfl
  ·intro y hy
   simpa [or_comm] using hy
  ·intro _ _ y hy
   simpa using hy
 ·have hm := List.mem_of_getElem? hj
  have hj' : es[j]? = some e0 := by simpa using hj
  obtain ⟨v, n', hst, hvv⟩ := zdy (w.drewN n) e0.key x
  have hjl : j < es.toList.length := (List.getElem?_eq_some_iff.1 hj).1
  have hlist : (es.modify j (fun e' => { e' with key := v, val := .agg #[] })).toList = es.toList.set j { e0 with key := v, val := .agg #[] } := by rw [Array.toList_modify, ChangeMaps.modify_eq_set _ _ _ _ hj]
  refine ⟨setBlock (w.drewN (n + n')) b (.map (es.modify j fun e' => { e' with key := v, val := .agg #[] }) clock), (es.toList.map (·.key)).set j v, ?_, ⟨_, _, hbl _ _, by rw [hlist, List.map_set], ?_⟩, hgr _ _, ?_, ?_⟩
  ·simp [Instr.mapUpdate, run_underlying ht, MapKept.run_getObj_map hb, O.check w _ _ hx, hf, hj', hst, MapKept.run_setObj_map _ (hbd (n + n')), Result.andThen, setBlock]
  ·intro e1 he1
   rw [hlist] at he1
   rcases List.mem_or_eq_of_mem_set he1 with h | rfl
   ·exact hv e1 h
   ·rfl
  ·intro y hy
   rcases List.mem_or_eq_of_mem_set hy with h | rfl
   ·exact .inl h
   ·rcases hvv with rfl | rfl
    ·exact .inr rfl
    ·exact .inl (List.mem_map.2 ⟨e0, hm, rfl⟩)
  ·intro p1 p2 y hy
   have hk : e0.key = x := hp p1 fun e1 he1 => p2 _ (List.mem_map.2 ⟨e1, he1, rfl⟩)
   have hvx : v = x := by rcases hvv with h | h <;> simp [h, hk]
   subst hvx
   have hid : (es.toList.map (·.key)).set j v = es.toList.map (·.key) := by
    apply List.ext_getElem?
    intro i
    rw [List.getElem?_set]
    split
    ·rename_i hij
     subst hij
     simp [hj, hk]
     simpa using hjl
    ·rfl
   rw [hid]
   rcases hy with h | rfl
   ·exact h
   ·exact List.mem_map.2 ⟨e0, hm, hk⟩
theorem zhi {ops : Array Oper} {rest : List Oper} {o : Oper} {a : Act} {Q : Exit → Act → World → Prop} (hg : o.guard = none) (m x : Operand) (t : TypeId) (hop : o.op = Op.lookup t m x true)
  (O : M9 K G P) (ht : prog.underlying t = some (.map K e)) (hz : (zeroValue e).run prog = fun w => .ok (.agg #[]) w) (b : Nat) (vs : List Value)
  (hm : a.eval m = .map (some b)) (h : T5 w b vs) (key : Value) (hx : a.eval x = key) (hkey : G w key) (hvs : ∀ y ∈ vs, G w y)
  (hK : ∀ r n, (r = false → key ∉ vs) → (r = true → ∃ y ∈ vs, P w key → (∀ z ∈ vs, P w z) → y = key) → wpList prog ops Q rest (a.put o.dst (.tuple #[.agg #[], .bool r])) (w.drewN n)) :
  wpList prog ops Q (o :: rest) a w := by
 refine wpList_plain hg fun K' hK' => ?_
 obtain ⟨r, n, hrun, h1, h2⟩ := Ee O ht hz h hkey hvs
 unfold Oper.wp
 simp [execOp, hop, hm, hx, hrun, Result.andThen]
 exact hK' _ _ (hK r n h1 h2)
theorem zas {ops : Array Oper} {rest : List Oper} {o : Oper} {a : Act} {Q : Exit → Act → World → Prop} (hg : o.guard = none) (m x v : Operand) (t : TypeId) (hop : o.op = Op.mapUpdate t m x v)
  (O : M9 K G P) (ht : prog.underlying t = some (.map K e)) (b : Nat) (vs : List Value)
  (hm : a.eval m = .map (some b)) (h : T5 w b vs) (key : Value) (hx : a.eval x = key) (hv : a.eval v = .agg #[]) (hkey : G w key) (hvs : ∀ y ∈ vs, G w y)
  (hK : ∀ w' vs', T5 w' b vs' → w.grownBy w' (some b) → (∀ y ∈ vs', y ∈ vs ∨ y = key) → (P w key → (∀ z ∈ vs, P w z) → ∀ y, y ∈ vs ∨ y = key → y ∈ vs') → wpList prog ops Q rest (a.put o.dst undef) w') :
  wpList prog ops Q (o :: rest) a w := by
 refine wpList_plain hg fun K' hK' => ?_
 obtain ⟨w', vs', hrun, h1, h2, h3, h4⟩ := zak O ht h hkey hvs
 unfold Oper.wp
 simp [execOp, hop, hm, hx, hv, hrun, Result.andThen]
 exact hK' _ _ (hK w' vs' h1 h2 h3 h4)
end
def Ri (w : World) (v : Value) : Prop := ∃ a m, v = Ph a m ∧ Tl w a
def Lv (w : World) (v : Value) : Prop := ∃ a m, v = Ph a m ∧ Tr w a
theorem Lp {a b : Addr} {m l : Nat} (h : Ph a m = Ph b l) : a = b ∧ m = l := by
 unfold Ph at h
 simp at h
 exact ⟨h.1, by omega⟩
theorem Tl.drew {w : World} {a : Addr} (n : Nat) (h : Tl w a) : Tl (w.drewN n) a := h
end Go.Proofs.YtbnjllkkhhkkaaaGreatDoor
namespace Go.Proofs.YtbnjllkkhhkkaaaGreatDoor
open Tryz
open Go.RowKit
def Nu : Value → Value
 | .slice (some a) l _ => Ph a l
 | v => v
def Qc (n : Nat) (ps : List (Value × List Ty)) : Nat := (ps.map fun p => (p.2.map (Wl n)).sum).sum
def Lb (w : World) (a : Option Addr) (vs : List Value) : Prop := vs = [] ∨ ∃ b o, a = some ⟨b, o, none⟩ ∧ b < w.heap.size ∧ ∀ i (h : i < vs.length), w.cell? ⟨b, o + i, none⟩ = some vs[i]
theorem zhk {w : World} {base e n : Nat} {v : Value} {vs : List Value} (h : w.ownsRow base e 1 v n vs) : ∃ a c, v = .slice a vs.length c ∧ Lb w a vs ∧ vs.length = n := by
 have hl := h.1
 rw [Nat.mul_one] at hl
 rcases h.2 with ⟨rfl, h0⟩ | ⟨g, cap, cur, rfl, hg, hh, _⟩
 ·subst h0
  exact ⟨none, 0, by rw [hl], .inl (List.length_eq_zero_iff.1 hl), hl⟩
 ·refine ⟨some ⟨g, 0, none⟩, cap, by rw [hl], .inr ⟨g, 0, rfl, xB hh, fun i hi => ?_⟩, hl⟩
  have := h.cells (g := g) rfl i vs[i] (by simp [hi])
  have hadd : (⟨g, 0, none⟩ : Addr).add i = ⟨g, 0 + i, none⟩ := by unfold Addr.add; split <;> simp_all
  rw [hadd] at this
  exact this
section
variable {w0 wr wr' : World} {u : Bool} {n : Nat} {v : Value} {done : List Ty} {ps : List (Value × List Ty)} {vs : List Value}
theorem Ug (w : World) (m : Nat) (row : Option Nat) : w.grownBy (w.drewN m) row := ⟨rfl, rfl, rfl, xR, fun _ _ _ => rfl⟩
theorem zcc {n : Nat} {D : Ty} : 1 ≤ Wl (n + 1) D := by rw [Wl]; omega
end
theorem zfi : (zeroValue 200).run prog = fun w => .ok (.agg #[]) w := by funext w; kernel_rfl
theorem Sr (Ls : List (List Ty)) (i : Nat) (hi : i < Ls.length) : (Ls.take (i + 1)).flatten = (Ls.take i).flatten ++ Ls[i] := by
 rw [List.take_succ_eq_append_getElem hi, List.flatten_append]
 simp
theorem Ji (f : Ty → Nat) : ∀ (Ls : List (List Ty)), (Ls.flatten.map f).sum = (Ls.map fun L => (L.map f).sum).sum
 | [] => rfl
 | L :: Ls => by rw [List.flatten_cons, List.map_append, List.sum_append, Ji f Ls]; simp
theorem zdf (W : World) (x : Value) (t : TypeId) : ∀ j u, ([x] : List Value)[j]? = some u → (W.alloc (.cells #[x] t)).cell? ((⟨W.heap.size, 0, none⟩ : Addr).add j) = some u := by
 intro j u hj
 cases j with
 | zero =>
  have hadd : (⟨W.heap.size, 0, none⟩ : Addr).add 0 = ⟨W.heap.size, 0, none⟩ := by simp [Addr.add]
  rw [hadd, cell_of_row _ _ 0 _ t (0, 0) (xL W _)]
  simpa using hj
 | succ j => simp at hj
theorem Sn (l : List Nat) (k : Nat) : (l.take k).sum ≤ l.sum := by
 have := List.take_append_drop k l
 conv => rhs; rw [← this, List.sum_append]
 omega
theorem zes {n : Nat} (qs : List (Value × List Ty)) (j k : Nat) (hj : j < qs.length) : ((((qs.map (·.2)).take j).flatten ++ (qs[j].2).take k).map (Wl n)).sum ≤ Qc n qs := by
 have h1 : ((((qs.map (·.2)).take j).flatten ++ (qs[j].2).take k).map (Wl n)).sum ≤ (((qs.map (·.2)).take (j + 1)).flatten.map (Wl n)).sum := by
  rw [Sr _ _ (by simpa using hj), List.getElem_map, List.map_append, List.map_append, List.sum_append, List.sum_append, List.map_take]
  have := Sn ((qs[j].2).map (Wl n)) k
  omega
 refine Nat.le_trans h1 ?_
 rw [Ji, List.map_take, List.map_map]
 exact Sn _ _
def Un (w : World) (_ : Bool) (n : Nat) (x : Value) (ks : List Ty) : Prop :=
 ∃ b o c, x = .slice (some ⟨b, o, none⟩) ks.length c ∧ ks ≠ [] ∧ ks.length ≤ reachBytes ∧ Pt w n (some ⟨b, o, none⟩) ks
theorem Un.good {w : World} {u : Bool} {n : Nat} {x : Value} {ks : List Ty} (h : Un w u n x ks) : ∃ b o c, x = .slice (some ⟨b, o, none⟩) ks.length c ∧ b < w.heap.size ∧ Tl w ⟨b, o, none⟩ ∧ (u = true → Tr w ⟨b, o, none⟩) ∧ ks ≠ [] ∧ ks.length ≤ reachBytes := by
 obtain ⟨b, o, c, rfl, hne, hl, hk⟩ := h
 rcases hk with hk | ⟨b', o', e, hcl, hc⟩
 ·exact absurd hk hne
 ·injection e with e
  injection e with e1 e2
  subst e1 e2
  have hp : Tr w ⟨b, o, none⟩ := hcl
  exact ⟨b, o, c, rfl, Ux hcl, hp.good, fun _ => hp, hne, hl⟩
theorem zgi {w : World} {u u' : Bool} {n m : Nat} {x x' : Value} {ks ks' : List Ty} (h : Un w u n x ks) (h' : Un w u' m x' ks') (he : Nu x = Nu x') : ks = ks' := by
 obtain ⟨b, o, c, rfl, _, _, hk⟩ := h
 obtain ⟨b', o', c', rfl, _, _, hk'⟩ := h'
 obtain ⟨e1, e2⟩ := Lp he
 injection e1 with e3 e4
 subst e3 e4
 exact Ej hk hk' e2
theorem Ay {w w' : World} {u : Bool} {n : Nat} {x : Value} {ks : List Ty} (h : Un w u n x ks) (hb : Below w.heap.size w w') : Un w' u n x ks := by
 obtain ⟨b, o, c, h1, h2, h3, h4⟩ := h
 exact ⟨b, o, c, h1, h2, h3, G1 h4 hb⟩
structure Wo (w0 wr : World) (u : Bool) (n : Nat) (v : Value) (done : List Ty) (ps : List (Value × List Ty)) (vs : List Value) : Prop where
 bl : Below w0.heap.size w0 wr
 st : T5 wr w0.heap.size vs
 ow : wr.ownsRow (w0.heap.size + 1) 25 1 v ps.length (ps.map (·.1))
 ls : ∀ p ∈ ps, Un w0 u n p.1 p.2
 ky : ∀ y ∈ vs, ∃ p ∈ ps, y = Nu p.1
 fr : ∀ p ∈ ps, ∃ D ∈ done, p.2 = Vl D
 tt : Qc n ps ≤ (done.map (Wl (n + 1))).sum
 al : u = true → ∀ D ∈ done, Vl D ≠ [] → ∃ p ∈ ps, p.2 = Vl D
section
variable {w0 wr wr' : World} {u : Bool} {n : Nat} {v : Value} {done : List Ty} {ps : List (Value × List Ty)} {vs : List Value}
theorem Wo.sz (h : Wo w0 wr u n v done ps vs) : w0.heap.size < wr.heap.size := set_lt h.st
theorem Wo.grow (h : Wo w0 wr u n v done ps vs) (hg : wr.grownBy wr' none) : Wo w0 wr' u n v done ps vs where
 bl := h.bl.grown hg h.bl.size (fun k hk => by cases hk)
 st := D9 h.st (hg.block _ h.sz (by simp))
 ow := h.ow.kept hg (by cases h1 : v.ownBlock <;> simp)
 ls := h.ls
 ky := h.ky
 fr := h.fr
 tt := h.tt
 al := h.al
theorem Wo.goodK (h : Wo w0 wr u n v done ps vs) : ∀ y ∈ vs, Ri wr y := by
 intro y hy
 obtain ⟨p, hp, rfl⟩ := h.ky y hy
 obtain ⟨b, o, c, e, _, hg, _⟩ := (h.ls p hp).good
 rw [e]
 exact ⟨_, _, rfl, hg.below h.bl⟩
theorem Wo.plainK (h : Wo w0 wr u n v done ps vs) (hu : u = true) : ∀ y ∈ vs, Lv wr y := by
 intro y hy
 obtain ⟨p, hp, rfl⟩ := h.ky y hy
 obtain ⟨b, o, c, e, _, _, hg, _⟩ := (h.ls p hp).good
 rw [e]
 exact ⟨_, _, rfl, Lm (hg hu) h.bl⟩
theorem Wo.skip (h : Wo w0 wr u n v done ps vs) {D : Ty} (hD : Vl D = []) : Wo w0 wr u n v (done ++ [D]) ps vs where
 bl := h.bl
 st := h.st
 ow := h.ow
 ls := h.ls
 ky := h.ky
 fr p hp := by
  obtain ⟨E, hE, h2⟩ := h.fr p hp
  exact ⟨E, by simp [hE], h2⟩
 tt := by
  have := h.tt
  simp
  omega
 al hu E hE hne := by
  rcases List.mem_append.1 hE with hE | hE
  ·exact h.al hu E hE hne
  ·rw [List.mem_singleton.1 hE] at hne
   exact absurd hD hne
theorem Wo.had (h : Wo w0 wr u n v done ps vs) {D : Ty} {x : Value} (hx : Un w0 u n x (Vl D)) (hf : ∃ y ∈ vs, Lv wr (Nu x) → (∀ z ∈ vs, Lv wr z) → y = Nu x) : Wo w0 wr u n v (done ++ [D]) ps vs where
 bl := h.bl
 st := h.st
 ow := h.ow
 ls := h.ls
 ky := h.ky
 fr p hp := by
  obtain ⟨E, hE, h2⟩ := h.fr p hp
  exact ⟨E, by simp [hE], h2⟩
 tt := by
  have := h.tt
  simp
  omega
 al hu E hE hne := by
  rcases List.mem_append.1 hE with hE | hE
  ·exact h.al hu E hE hne
  ·rw [List.mem_singleton.1 hE]
   obtain ⟨y, hy, hp⟩ := hf
   obtain ⟨b, o, c, e, _, _, hg, _⟩ := hx.good
   have hyx := hp (by rw [e]; exact ⟨_, _, rfl, Lm (hg hu) h.bl⟩) (h.plainK hu)
   obtain ⟨p, hpm, he⟩ := h.ky y hy
   exact ⟨p, hpm, zgi (h.ls p hpm) hx (he.symm.trans hyx)⟩
theorem Wo.add {w1 w2 : World} {vs' : List Value} {v' : Value} (h : Wo w0 wr u n v done ps vs) {D : Ty} {x : Value} (hx : Un w0 u n x (Vl D)) (hs : T5 w1 w0.heap.size vs') (hg : wr.grownBy w1 (some w0.heap.size))
  (hsub : ∀ y ∈ vs', y ∈ vs ∨ y = Nu x) {o : Obj} (ho : w2.ownsRow (w0.heap.size + 1) 25 1 v' (ps.length + 1) (ps.map (·.1) ++ [x])) (hg2 : (w1.alloc o).grownBy w2 v.ownBlock) :
  Wo w0 w2 u n v' (done ++ [D]) (ps ++ [(x, Vl D)]) vs' := by
 have hsz := h.sz
 have hlow : ∀ i, i ≤ w0.heap.size → w2.heap[i]? = w1.heap[i]? := fun i hi => by
  have h1 : i < w1.heap.size := Nat.lt_of_le_of_lt hi (xT hsz hg.size)
  rw [hg2.block i (by simp; omega) (fun e => by have := (h.ow.lt i e.symm).1; omega), xA h1]
 refine ⟨⟨?_, ?_, ?_, ?_, ?_⟩, ?_, ?_, ?_, ?_, ?_, ?_, ?_⟩
 ·rw [hg2.os]; exact hg.os.trans h.bl.os
 ·rw [hg2.tape]; exact hg.tape.trans h.bl.tape
 ·rw [hg2.output]; exact hg.output.trans h.bl.output
 ·have h1 := hg2.size
  have h2 := hg.size
  simp at h1
  omega
 ·intro k hk
  rw [hlow k (by omega), hg.block k (by omega) (fun e => by injection e with e; omega)]
  exact h.bl.block k hk
 ·exact D9 hs (hlow _ (xR))
 ·simpa using ho
 ·intro p hp
  rcases List.mem_append.1 hp with hp | hp
  ·exact h.ls p hp
  ·rw [List.mem_singleton.1 hp]
   exact hx
 ·intro y hy
  rcases hsub y hy with hy | rfl
  ·obtain ⟨p, hp, e⟩ := h.ky y hy
   exact ⟨p, by simp [hp], e⟩
  ·exact ⟨(x, Vl D), by simp, rfl⟩
 ·intro p hp
  rcases List.mem_append.1 hp with hp | hp
  ·obtain ⟨E, hE, h2⟩ := h.fr p hp
   exact ⟨E, by simp [hE], h2⟩
  ·rw [List.mem_singleton.1 hp]
   exact ⟨D, by simp, rfl⟩
 ·have := h.tt
  unfold Qc at this ⊢
  simp only [List.map_append, List.sum_append, List.map_cons, List.map_nil, List.sum_cons, List.sum_nil]
  rw [show Wl (n + 1) D = 1 + ((Vl D).map (Wl n)).sum from rfl]
  omega
 ·intro hu E hE hne
  rcases List.mem_append.1 hE with hE | hE
  ·obtain ⟨p, hp, e⟩ := h.al hu E hE hne
   exact ⟨p, by simp [hp], e⟩
  ·rw [List.mem_singleton.1 hE]
   exact ⟨(x, Vl D), by simp, rfl⟩
theorem L4 {w : World} : ∀ {ps : List (Value × List Ty)}, (∀ p ∈ ps, Un w u n p.1 p.2) → ps.length ≤ Qc n ps
 | [], _ => xZ _
 | p :: ps, h => by
  have ih := L4 (ps := ps) fun q hq => h q (by simp [hq])
  unfold Qc at ih ⊢
  obtain ⟨b, o, c, _, hne, _, hk⟩ := h p (by simp)
  have h1 : 1 ≤ (p.2.map (Wl n)).sum := by
   rcases hk with hk | ⟨_, _, _, _, hc⟩
   ·exact absurd hk hne
   ·obtain ⟨_, _, _, _, _, _, _, _, ht⟩ := hc 0 (List.length_pos_iff.2 hne)
    obtain ⟨m, rfl⟩ : ∃ m, n = m + 1 := by
     cases n with
     | zero => exact ht.elim
     | succ m => exact ⟨m, rfl⟩
    obtain ⟨D, ks, e⟩ := List.exists_cons_of_ne_nil hne
    rw [e, List.map_cons, List.sum_cons]
    have := zcc (n := m) (D := D)
    omega
  simp only [List.map_cons, List.sum_cons, List.length_cons]
  omega
end
abbrev Pn : Value := .func (.func 96) #[] #[]
abbrev Jh : Value := .func (.func 95) #[] #[]
abbrev partsN (b : Nat) : Value := .func (.func 152) #[] #[.pointer (some ⟨b, 0, none⟩)]
def Bw (w : World) (S : Ty → Prop) (fb : Ty → Bool) : Prop := ∀ (n k : Nat) (tx : ByteArray) (N : Nat) (pq : PX) (ka : Option Addr) (kl kc : Nat) (D : Ty) (wx : World), Below w.heap.size w wx → S D → V4 wx n k tx N pq ka kl kc D → Calls prog 96 #[Tv k tx N pq ka kl kc] wx fun e w' => e = .returned (.bool (fb D)) ∧ Below wx.heap.size wx w'
theorem zbd {fb : Ty → Bool} {ks : List Ty} {j : Nat} (hj : j < ks.length) (h : (ks.take j).all fb = true) (hb : fb ks[j] = true) : (ks.take (j + 1)).all fb = true := by
 rw [List.take_succ_eq_append_getElem hj, List.all_append, h]
 simp [hb]
theorem Sb {α : Type} {fb : α → Bool} {ks : List α} {j : Nat} (hj : j < ks.length) (hb : fb ks[j] = false) : ks.all fb = false := by
 rw [List.all_eq_false]
 exact ⟨ks[j], List.getElem_mem hj, by rw [hb]; decide⟩
theorem O5 (n : Nat) (S : Ty → Prop) (fb : Ty → Bool) (ka : Option Addr) (kc : Nat) (ks : List Ty) (w : World) (hF : Bw w S fb) (h : Pt w n ka ks) (hl : ks.length ≤ 140737488351232) (hs : ∀ x ∈ ks, S x) :
  Calls prog 153 #[.slice ka ks.length kc, Pn] w fun e w' => e = .returned (.bool (ks.all fb)) ∧ Below w.heap.size w w' := by
 have HK := Za h
 have HF := Za hF
 have HS := Za hs
 obtain ⟨q, hq⟩ := xE (ks.all fb)
 rw [← hq]
 have HQ := Za hq
 clear h hF hs hq
 go_enter func153, ntmps153
 go_wp2_with fail
 go_loopw [9] (fun i wx => ∃ j : Nat, i = .int .i64 j ∧ j ≤ ks.length ∧ xQ ((ks.take j).all fb = true) ∧ xQ (Below w.heap.size w wx)) (fun i _ => ks.length - (intOf i).toNat)
 case atStart => exact ⟨0, rfl, xZ _, show _ = _ by simp, Below.refl _ _⟩
 case round =>
  obtain ⟨j, rfl, hj, hall, hbl⟩ := hrel
  by_cases hlt : j < ks.length
  ·have hjl : (j : Int) < (ks.length : Int) := by omega
   obtain ⟨b, o, k, tx, N, pq, la, ll, lc, rfl, hb1, qc, ht⟩ := Hj HK.o hlt
   obtain ⟨r0, r1, r2, r3, r4, r5, r6, r7⟩ := qc.below hb1 hbl.o
   have hb2 := Zn hbl.o (Zl wr (Xl k tx N pq la ll lc))
   have HC := Za (HF.o n k tx N pq la ll lc _ _ hb2 (HS.o _ (List.getElem_mem hlt)) (N3 ht hb2))
   have HB2 := Za hb2
   clear ht hb2
   cases hfb : fb ks[j]
   ·rw [hfb] at HC
    obtain rfl : q = false := by rw [HQ.o]; exact Sb hlt hfb
    clear hfb
    go_wp2_with fail
    refine HC.o.mono ?_
    rintro e w' ⟨rfl, hb'⟩
    have HB3 := Za (Zn HB2.o hb')
    clear hb'
    go_wp2_with fail
    go_ret
    exact ⟨rfl, HB3.o⟩
   ·rw [hfb] at HC
    have HA := Za (zbd hlt hall.o hfb)
    clear hfb
    go_wp2_with fail
    refine HC.o.mono ?_
    rintro e w' ⟨rfl, hb'⟩
    have HB3 := Za (Zn HB2.o hb')
    clear hb'
    go_wp2_with fail
    exact ⟨⟨j + 1, by go_num, by omega, HA, HB3⟩, by simp [intOf]; omega⟩
  ·have hjl : ¬ (j : Int) < (ks.length : Int) := by omega
   obtain rfl : q = true := by
    rw [HQ.o]
    have := hall.o
    rw [List.take_of_length_le (by omega)] at this
    exact this
   go_wp2_with fail
   go_ret
   exact ⟨rfl, hbl.o⟩
theorem Al (k : Nat) (tx : ByteArray) (N : Nat) (pq : PX) (ka : Option Addr) (kl kc : Nat) (w : World) :
  Calls prog 95 #[Tv k tx N pq ka kl kc] w fun e w' => e = .returned (.slice ka kl kc) ∧ w' = w.alloc (Xl k tx N pq ka kl kc) := by
 go_enter func95, ntmps95
 go_wp2_with fail
 go_ret
 exact ⟨rfl, rfl⟩
theorem zgw (n b : Nat) (S : Ty → Prop) (fb : Ty → Bool) (ka : Option Addr) (kc : Nat) (ks : List Ty) (w : World) (hx : w.cell? ⟨b, 0, none⟩ = some Pn) (hF : Bw w S fb) (h : Pt w n ka ks) (hl : ks.length ≤ 140737488351232) (hs : ∀ x ∈ ks, S x) :
  Calls prog 152 #[.slice ka ks.length kc, .pointer (some ⟨b, 0, none⟩)] w fun e w' => e = .returned (.bool (ks.all fb)) ∧ Below w.heap.size w w' := by
 have HC := Za (O5 n S fb ka kc ks w hF h hl hs)
 clear h hF hs
 generalize ks.all fb = q at HC
 go_enter func152, ntmps152
 go_wp2_with fail
 refine HC.o.mono ?_
 rintro e w' ⟨rfl, hb⟩
 have HB := Za hb
 clear hb
 go_wp2_with fail
 go_ret
 exact ⟨rfl, HB.o⟩
theorem zfa (n b : Nat) (S : Ty → Prop) (fb : Ty → Bool) (a : Option Addr) (c : Nat) (qs : List (Value × List Ty)) (w : World) (hx : w.cell? ⟨b, 0, none⟩ = some Pn) (hF : Bw w S fb) (hr : Lb w a (qs.map (·.1))) (hq : ∀ q ∈ qs, Un w true n q.1 q.2) (hl : qs.length ≤ 140737488351232) (hs : ∀ q ∈ qs, ∀ x ∈ q.2, S x) :
  Calls prog 151 #[.slice a qs.length c, partsN b] w fun e w' => e = .returned (.bool (qs.all fun q => q.2.all fb)) ∧ Below w.heap.size w w' := by
 have HR := Za hr
 have HQ := Za hq
 have HS := Za hs
 have HF := Za hF
 have HX := Za hx
 obtain ⟨r, hre⟩ := xE (qs.all fun q => q.2.all fb)
 rw [← hre]
 have HRE := Za hre
 clear hr hq hs hF hx hre
 go_enter func151, ntmps151
 go_wp2_with fail
 go_loopw [9] (fun i wx => ∃ j : Nat, i = .int .i64 j ∧ j ≤ qs.length ∧ xQ (∀ q ∈ qs.take j, q.2.all fb = true) ∧ xQ (Below w.heap.size w wx)) (fun i _ => qs.length - (intOf i).toNat)
 case atStart => exact ⟨0, rfl, xZ _, fun q h => by simp at h, Below.refl _ _⟩
 case round =>
  obtain ⟨j, rfl, hj, hall, hbl⟩ := hrel
  by_cases hlt : j < qs.length
  ·have hjl : (j : Int) < (qs.length : Int) := by omega
   have hr0 : ∃ b o, a = some ⟨b, o, none⟩ ∧ b < w.heap.size ∧ w.cell? ⟨b, o + j, none⟩ = some qs[j].1 := by
    rcases HR.o with h0 | ⟨b, o, e, hb, hc⟩
    ·have := congrArg List.length h0
     rw [List.length_map, List.length_nil] at this
     omega
    ·have := hc j (by simpa using hlt)
     rw [List.getElem_map] at this
     exact ⟨b, o, e, hb, this⟩
   obtain ⟨b0, o0, rfl, hb0, hcj⟩ := hr0
   obtain ⟨b1, o1, c1, e1, _, hll, zia⟩ := HQ.o qs[j] (List.getElem_mem hlt)
   rw [e1] at hcj
   have hcr := (hbl.o.cell (p := ⟨b0, o0 + j, none⟩) hb0).trans hcj
   have hxr := (hbl.o.cell (p := ⟨b, 0, none⟩) (World.block_lt_of_cell? w _ HX.o)).trans HX.o
   have HC := Za (zgw n b S fb (some ⟨b1, o1, none⟩) c1 qs[j].2 wr hxr (fun n k tx N pq ka kl kc D wx hwx => HF.o n k tx N pq ka kl kc D wx (Zn hbl.o hwx)) (G1 zia hbl.o) hll (HS.o _ (List.getElem_mem hlt)))
   clear hcj e1 hll zia hxr
   cases hfb : qs[j].2.all fb
   ·rw [hfb] at HC
    obtain rfl : r = false := by rw [HRE.o]; exact Sb (fb := fun q : Value × List Ty => q.2.all fb) hlt hfb
    clear hfb
    go_wp2_with fail
    refine HC.o.mono ?_
    rintro e w' ⟨rfl, hb'⟩
    have HB3 := Za (Zn hbl.o hb')
    clear hb'
    go_wp2_with fail
    go_ret
    exact ⟨rfl, HB3.o⟩
   ·rw [hfb] at HC
    have HA : xQ (∀ q ∈ qs.take (j + 1), q.2.all fb = true) := fun q hq => by
     rw [List.take_succ_eq_append_getElem hlt, List.mem_append] at hq
     rcases hq with hq | hq
     ·exact hall.o q hq
     ·rw [List.mem_singleton.1 hq]
      exact hfb
    clear hfb
    go_wp2_with fail
    refine HC.o.mono ?_
    rintro e w' ⟨rfl, hb'⟩
    have HB3 := Za (Zn hbl.o hb')
    clear hb'
    go_wp2_with fail
    exact ⟨⟨j + 1, by go_num, by omega, HA, HB3⟩, by simp [intOf]; omega⟩
  ·have hjl : ¬ (j : Int) < (qs.length : Int) := by omega
   obtain rfl : r = true := by
    rw [HRE.o, List.all_eq_true]
    have := hall.o
    rw [List.take_of_length_le (by omega)] at this
    exact this
   go_wp2_with fail
   go_ret
   exact ⟨rfl, hbl.o⟩
theorem Su (xs : Array Value) (w : World) (a : Addr) (h : xs[0]? = some (.pointer (some a))) : (part 217 xs 0).run prog w = .ok (.pointer (some a)) w := by
 simp [part, isAgg, run_underlying underlying217, h]
theorem zcu (d : Nat) (w : World) (a b : Addr) : (Op.equalIn (d + 1) 217 (.pointer (some a)) (.pointer (some b))).run prog w = (sameAddr a b).run prog w := by
 simp [Op.equalIn, run_underlying underlying217]
theorem zbj : prog.underlying 219 = some (.struct (prog.fieldsOf 219)) := by kernel_rfl
theorem Oe : prog.stoodInHeld 219 = false := by kernel_rfl
theorem Et (d : Nat) {w : World} {a b : Addr} {m l : Nat} (ha : Tl w a) (hb : Tl w b) :
  ∃ r n, (Op.equalIn (d + 2) 219 (Ph a m) (Ph b l)).run prog w = .ok r (w.drewN n) ∧ ((a = b ∧ m = l) → r = true) ∧ (Tr w a → Tr w b → (r = true → a = b ∧ m = l)) := by
 obtain ⟨r, n, h, h1, h2⟩ := zha (P := prog) ha hb
 unfold Ph
 rw [run_equalIn_struct _ _ _ _ _ zbj Oe]
 simp only [Program.fieldsOf, underlying219, Op.eqFields, ne_eq]
 simp only [show ¬ ("first" = "_") by decide, show ¬ ("length" = "_") by decide, not_false_eq_true, if_true, Sem.run_bind]
 simp only [Su _ _ a (show (#[Value.pointer (some a), .int .i64 m] : Array Value)[0]? = _ from rfl), Su _ _ b (show (#[Value.pointer (some b), .int .i64 l] : Array Value)[0]? = _ from rfl), Result.andThen_ok, zcu, h]
 cases r
 ·refine ⟨false, n, by simp, fun e => ?_, fun _ _ e => by cases e⟩
  exact absurd (h1 e.1) (by decide)
 ·refine ⟨m == l, n, ?_, fun e => by simp [e.2], fun p1 p2 e => ⟨h2 p1 p2 rfl, by simpa using e⟩⟩
  simp [Am _ _ m (show (#[Value.pointer (some a), .int .i64 m] : Array Value)[1]? = _ from rfl), Am _ _ l (show (#[Value.pointer (some b), .int .i64 l] : Array Value)[1]? = _ from rfl), zdq]
  by_cases hml : m = l <;> simp [hml]
theorem F3 : M9 219 Ri Lv where
 eq w x y hx hy := by
  obtain ⟨a, m, rfl, ha⟩ := hx
  obtain ⟨b, l, rfl, hb⟩ := hy
  obtain ⟨r, n, h, h1, h2⟩ := Et 9998 (m := m) (l := l) ha hb
  refine ⟨r, n, h, fun e => h1 (Lp e), fun p1 p2 e => ?_⟩
  obtain ⟨a', m', e1, p1⟩ := p1
  obtain ⟨b', l', e2, p2⟩ := p2
  obtain ⟨rfl, rfl⟩ := Lp e1
  obtain ⟨rfl, rfl⟩ := Lp e2
  obtain ⟨rfl, rfl⟩ := h2 p1 p2 e
  rfl
 check w em x hx := by
  obtain ⟨a, m, rfl, ha⟩ := hx
  kernel_rfl
 drew w n x hx := hx
 drewP w n x hx := hx
 now w x y hx := by
  obtain ⟨a, m, rfl, ha⟩ := hx
  exact ⟨_, underlying219, rfl⟩
theorem zcz : (prog.info? 25).map (fun i => (i.zero, i.size, i.bytes)) = some (some (.slice none 0 0), 1, 24) := by kernel_rfl
theorem zad {w0 wr w1 : World} {u : Bool} {n : Nat} {v : Value} {done : List Ty} {ps : List (Value × List Ty)} {vs : List Value} (h : Wo w0 wr u n v done ps vs) (hg : wr.grownBy w1 (some w0.heap.size)) : w1.ownsRow (w0.heap.size + 1) 25 1 v ps.length (ps.map (·.1)) :=
 h.ow.kept hg (.inr fun e => by have := (h.ow.lt _ e).1; omega)
def Ou (w : World) (u : Bool) (n : Nat) (Ds : List Ty) (e : Ending) (w' : World) : Prop :=
 ∃ v ps vs, e = .returned v ∧ Wo w w' u n v Ds ps vs
theorem E5 (u : Bool) (n : Nat) (qs : List (Value × List Ty)) (a : Option Addr) (c : Nat) (w : World) (hr : Lb w a (qs.map (·.1))) (hq : ∀ q ∈ qs, Un w u (n + 1) q.1 q.2) (ht : Qc (n + 1) qs ≤ 1000) :
  Calls prog 154 #[.slice a qs.length c, Jh] w (Ou w u n (qs.map (·.2)).flatten) := by
 have hql : qs.length ≤ 1000 := Nat.le_trans (L4 hq) ht
 obtain ⟨i0, hi, hz0, hz1, hz2⟩ := info_parts zcz
 have hmm := @run_makeMap prog
 have HR := Za hr
 have HQ := Za hq
 have HTT := Za ht
 clear hr hq ht
 go_enter func154, ntmps154
 go_wp2_with fail
 go_loopw [5, 18] (fun v i wr => ∃ (j : Nat) (ps : List (Value × List Ty)) (vs : List Value), i = .int .i64 j ∧ j ≤ qs.length ∧ xQ (Wo w wr u n v ((qs.map (·.2)).take j).flatten ps vs)) (fun _ i _ => qs.length - (intOf i).toNat)
 case atStart =>
  refine ⟨0, [], [], rfl, xZ _, ?_⟩
  refine ⟨Zl _ _, Ip w, World.ownsRow_nil .., by simp, by simp, by simp, ?_, ?_⟩
  ·simp [Qc]
  ·simp
 case round =>
  obtain ⟨j, ps, vs, rfl, hj, hL⟩ := hrel
  by_cases hlt : j < qs.length
  ·have hjl : (j : Int) < (qs.length : Int) := by omega
   have hr0 : ∃ b o, a = some ⟨b, o, none⟩ ∧ b < w.heap.size ∧ w.cell? ⟨b, o + j, none⟩ = some qs[j].1 := by
    rcases HR.o with h0 | ⟨b, o, e, hb, hc⟩
    ·have := congrArg List.length h0
     rw [List.length_map, List.length_nil] at this
     omega
    ·have := hc j (by simpa using hlt)
     rw [List.getElem_map] at this
     exact ⟨b, o, e, hb, this⟩
   obtain ⟨b, o, rfl, hbl, hcj⟩ := hr0
   have hls := HQ.o qs[j] (List.getElem_mem hlt)
   obtain ⟨b1, o1, c1, e1, hne, hll, zia⟩ := hls
   have hll' : qs[j].2.length ≤ 140737488351232 := hll
   rw [e1] at hcj
   have hcr := (hL.o.bl.cell (p := ⟨b, o + j, none⟩) hbl).trans hcj
   obtain ⟨Ds, hDs⟩ := xE (qs[j].2)
   rw [← hDs] at hcr hll' zia hne
   have hDM : xQ (Ds = qs[j].2) := hDs
   have HK := Za zia
   have HNE := Za hne
   clear hcj e1 zia hll hDs hne
   go_wp2_with fail
   go_loopw [5, 24] (fun v i wr => ∃ (k : Nat) (ps : List (Value × List Ty)) (vs : List Value), i = .int .i64 k ∧ k ≤ Ds.length ∧ xQ (Wo w wr u n v (((qs.map (·.2)).take j).flatten ++ Ds.take k) ps vs)) (fun _ i _ => Ds.length - (intOf i).toNat)
   case atStart => exact ⟨0, ps, vs, rfl, xZ _, by simpa using hL⟩
   case round =>
    obtain ⟨k, ps, vs, rfl, hk, hL⟩ := hrel
    by_cases hkt : k < Ds.length
    ·have hkl : (k : Int) < (Ds.length : Int) := by omega
     obtain ⟨_, _, k', tx', N', pq', la', ll', lc', e2, hbl1, qc, hty⟩ := Hj HK.o hkt
     injection e2 with e2
     injection e2 with e3 e4
     subst e3 e4
     obtain ⟨r0, r1, r2, r3, r4, r5, r6, r7⟩ := qc.below hbl1 hL.o.bl
     obtain ⟨ks', e5, e6, _, _, _, _, hkl', hk2⟩ := hty
     subst e5
     clear qc
     by_cases hz : ks' = []
     ·subst hz
      clear HK HR HQ
      have hLn := Za (((hL.o.grow (World.grownBy_alloc _ (Xl k' tx' N' pq' la' 0 lc') none)).grow (World.grownBy_alloc _ (Xl k' tx' N' pq' la' 0 lc') none)).skip (D := Ds[k]) (by rw [e6]; rfl))
      clear e6 hk2 hkl'
      go_wp2_with fail
      refine (Al _ _ _ _ _ _ _ _).mono ?_
      rintro e w1 ⟨rfl, rfl⟩
      go_wp2_with fail
      refine ⟨⟨k + 1, ps, vs, by go_num, by omega, ?_⟩, by simp [intOf]; omega⟩
      rw [List.take_succ_eq_append_getElem hkt, ← List.append_assoc]
      exact hLn.o
     ·have hlst : Un w u n (.slice la' ks'.length lc') (Vl Ds[k]) := by
       rw [e6]
       rcases hk2 with h0 | ⟨b2, o2, rfl, h3⟩
       ·exact absurd h0 hz
       ·exact ⟨b2, o2, lc', rfl, hz, Nat.le_trans hkl' (by decide), .inr ⟨b2, o2, rfl, h3⟩⟩
      obtain ⟨b2, o2, _, e7, hbl2, hgood, hplain, _, _⟩ := hlst.good
      injection e7 with e7 e8 e9
      subst e7
      have hkl2 : ks'.length ≤ 140737488351232 := Nat.le_trans hkl' (by decide)
      have hk1 : 1 ≤ ks'.length := List.length_pos_iff.2 hz
      have hzk : ((ks'.length : Int) == 0) = false := by rw [beq_eq_false_iff_ne]; omega
      have HLST := Za hlst
      have HGD := Za ((((hgood.below hL.o.bl).below (Zl wr (Xl k' tx' N' pq' (some ⟨b2, o2, none⟩) ks'.length lc'))).below (Zl _ (Xl k' tx' N' pq' (some ⟨b2, o2, none⟩) ks'.length lc'))).below (Zl _ (.cells #[.pointer (some ⟨b2, o2, none⟩), .int .i64 ks'.length] 219)))
      have HL1 := Za (((hL.o.grow (World.grownBy_alloc _ (Xl k' tx' N' pq' (some ⟨b2, o2, none⟩) ks'.length lc') none)).grow (World.grownBy_alloc _ (Xl k' tx' N' pq' (some ⟨b2, o2, none⟩) ks'.length lc') none)).grow (World.grownBy_alloc _ (.cells #[.pointer (some ⟨b2, o2, none⟩), .int .i64 ks'.length] 219) none))
      clear e6 e8 e9 hk2 hkl' HK HR HQ hlst hgood hplain hz
      go_wp2_with fail
      refine (Al _ _ _ _ _ _ _ _).mono ?_
      rintro e w1 ⟨rfl, rfl⟩
      have htl : ps.length ≤ 1000 := by
       have h1 := L4 HL1.o.ls
       have h2 := HL1.o.tt
       have h3 : ((((qs.map (·.2)).take j).flatten ++ Ds.take k).map (Wl (n + 1))).sum ≤ Qc (n + 1) qs := by
        rw [hDM.o]
        exact zes qs j k hlt
       have := HTT.o
       omega
      go_wp2_with (first | (at_lookup; refine zhi rfl _ _ 216 rfl F3 underlying216 zfi w.heap.size vs rfl HL1.o.st _ rfl ⟨_, _, rfl, HGD.o⟩ HL1.o.goodK ?_; intro r nd hno hyes; have HL2 := Za ((HL1.o.grow (Ug _ nd none)).grow (World.grownBy_alloc _ (.cells #[] 200) none)); have HGD2 := Za ((HGD.o.drew nd).below (Zl _ (.cells #[] 200))); have HYES := Za hyes; clear hno hyes) | (at_mapUpdate; refine zas rfl _ _ _ 216 rfl F3 underlying216 w.heap.size vs rfl HL2.o.st _ rfl rfl ⟨_, _, rfl, HGD2.o⟩ HL2.o.goodK ?_; intro w3 vs' hst hgr hsub hall; have HST := Za hst; have HGR := Za hgr; have HSUB := Za hsub; have HOW := Za (zad HL2.o hgr); have hs3 : w.heap.size + 1 ≤ w3.heap.size := Nat.le_trans HL2.o.sz hgr.size; clear hst hgr hsub hall) | (at_builtin; refine wpList_append_own _ rfl (.tmp 50) (.tmp 52) 185 rfl (w.heap.size + 1) 25 i0 _ 1 24 underlying185 hi hz0 hz1 hz2 rfl (by decide) _ _ _ rfl (HOW.o.alloc _) ⟨_, 0, none⟩ 1 1 [.slice (some ⟨b2, o2, none⟩) ks'.length lc'] rfl rfl (zdf _ _ _) (by simp [Value.oneCell']) (by unfold maxLen; omega) (by omega) (by simp; omega) ?_; intro v' w4 zho zhn _; have HOWN := Za zho; have HGROW := Za zhn; clear zho zhn))
      ·have HL5 := Za (HL2.o.add (D := Ds[k]) HLST.o HST.o HGR.o HSUB.o HOWN.o HGROW.o)
       clear HL1 HGD HYES HL2 HGD2 HST HGR HSUB HOW HOWN HGROW
       refine ⟨⟨k + 1, ps ++ [(.slice (some ⟨b2, o2, none⟩) ks'.length lc', Vl Ds[k])], vs', by go_num, by omega, ?_⟩, by simp [intOf]; omega⟩
       rw [List.take_succ_eq_append_getElem hkt, ← List.append_assoc]
       exact HL5.o
      ·have hr : r = true := by cases r <;> simp_all
       have HL3 := Za (((HL1.o.had (D := Ds[k]) HLST.o (HYES.o hr)).grow (Ug _ nd none)).grow (World.grownBy_alloc _ (.cells #[] 200) none))
       clear HL1 HGD HYES HL2 HGD2
       refine ⟨⟨k + 1, ps, vs, by go_num, by omega, ?_⟩, by simp [intOf]; omega⟩
       rw [List.take_succ_eq_append_getElem hkt, ← List.append_assoc]
       exact HL3.o
    ·have hkl : ¬ (k : Int) < (Ds.length : Int) := by omega
     clear HK HR HQ
     go_wp2_with fail
     refine ⟨⟨j + 1, ps, vs, by go_num, by omega, ?_⟩, by simp [intOf]; omega⟩
     rw [Sr _ _ (by simpa using hlt), List.getElem_map]
     have := hL.o
     rw [List.take_of_length_le (l := Ds) (by omega), hDM.o] at this
     exact this
  ·have hjl : ¬ (j : Int) < (qs.length : Int) := by omega
   clear HR HQ
   go_wp2_with fail
   go_ret
   have := hL.o
   rw [List.take_of_length_le (by simp; omega)] at this
   exact ⟨_, ps, vs, rfl, this⟩
def V9 (n : Nat) (ps : List (Value × List Ty)) : Nat := Vw (ps.map fun p => Vw (p.2.map (Xf n)))
theorem O1 (n : Nat) (ps : List (Value × List Ty)) : V9 n ps = Vw ((ps.map (·.2)).flatten.map (Xf n)) := by
 apply Nat.le_antisymm
 ·refine Ld fun a ha => ?_
  obtain ⟨p, hp, rfl⟩ := List.mem_map.1 ha
  refine Ld fun x hx => P3 ?_
  obtain ⟨D, hD, rfl⟩ := List.mem_map.1 hx
  exact List.mem_map.2 ⟨D, List.mem_flatten.2 ⟨p.2, List.mem_map.2 ⟨p, hp, rfl⟩, hD⟩, rfl⟩
 ·refine Ld fun a ha => ?_
  obtain ⟨D, hD, rfl⟩ := List.mem_map.1 ha
  obtain ⟨L, hL, hD⟩ := List.mem_flatten.1 hD
  obtain ⟨p, hp, rfl⟩ := List.mem_map.1 hL
  exact Nat.le_trans (P3 (List.mem_map.2 ⟨D, hD, rfl⟩)) (P3 (List.mem_map.2 ⟨p, hp, rfl⟩ : Vw (p.2.map (Xf n)) ∈ ps.map fun p => Vw (p.2.map (Xf n))))
theorem zgn (n : Nat) (ps : List (Value × List Ty)) : ((ps.map (·.2)).flatten.map (Wl n)).sum = Qc n ps := by
 rw [Ji, List.map_map]
 rfl
end Go.Proofs.YtbnjllkkhhkkaaaGreatDoor
