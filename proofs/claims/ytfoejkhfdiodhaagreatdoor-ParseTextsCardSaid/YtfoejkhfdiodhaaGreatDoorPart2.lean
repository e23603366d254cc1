/- Part. -/
import Derived.LaidEql
import Derived.Maps.OwnSet
import Derived.ChangeKeysEq
import Derived.Maps.AppendAt
import Derived.Test.YtfoejkhfdiodhaaGreatDoorPart1
set_option maxRecDepth 100000
set_option maxHeartbeats 4000000
namespace Go.Proofs.YtfoejkhfdiodhaaGreatDoor
open Go.Proofs.Tryz
open Go.RowKit
def Kk : List (List UInt8) := [[111, 114], [97, 110, 100], [60], [60, 61], [61, 61], [43, 43], [43], [45], [94], [42], [47], [37], [38], [60, 60], [62, 62]]
def Fy (i : Nat) : ByteArray := ⟨(Kk.getD i []).toArray⟩
def Hy (w : World) : Prop := ∀ i, i < 15 -> w.cell? ⟨5, i, none⟩ = some (.string (Fy i))
theorem Hy.lt {w : World} (h : Hy w) : 5 < w.heap.size := World.block_lt_of_cell? w _ (h 0 (by decide))
theorem Hy.below {w w' : World} (h : Hy w) (hb : Below w.heap.size w w') : Hy w' := fun i hi => (hb.cell (show 5 < w.heap.size from h.lt)).trans (h i hi)
def Rs : List Value := (List.range 15).map fun i => .string (Fy i)
theorem tL (i : Nat) (hi : i < 15) : Rs[i]? = some (.string (Fy i)) := by simp [Rs, hi]
theorem Hy.range {w : World} (h : Hy w) : w.rangeAt 5 0 Rs := by
 intro j v hv
 have hj : j < 15 := by
  have := (List.getElem?_eq_some_iff.1 hv).1
  simpa [Rs] using this
 rw [tL j hj] at hv
 injection hv with hv
 rw [<- hv, Nat.zero_add]
 exact h j hj
theorem gO : (prog.info? 189).map (·.size) = some Rs.length := by kernel_rfl
def noOp (s : ByteArray) (k : Nat) : Prop := ∀ i, i < k -> s ≠ Fy i
theorem tN (s : ByteArray) : Kk.contains s.data.toList = true ↔ ∃ i, i < 15 /\ s = Fy i := by
 rw [List.contains_iff_mem]
 constructor
 ·intro h
  obtain ⟨i, hi, e⟩ := List.mem_iff_getElem.1 h;refine ⟨i, hi, ?_⟩;unfold Fy;rw [List.getD_eq_getElem?_getD, List.getElem?_eq_getElem hi, Option.getD_some, e]
 ·rintro ⟨i, hi, e⟩
  rw [e];unfold Fy;rw [List.getD_eq_getElem?_getD, List.getElem?_eq_getElem (show i < Kk.length from hi), Option.getD_some];exact List.getElem_mem ..
theorem gN {A : List Value} {k : Nat} {t : ByteArray} (hk : k < 15) (h : A[k]? = some (.string t)) (w : World) :
  (Instr.index 189 (.agg A.toArray) (.int .i64 k)).run prog w = .ok (.string t) w := by
 have hu := underlying189
 have ha := isAgg9
 have hz := sizeOf9
 simp [Instr.index, asIntOf, run_underlying hu, part, ha, hz, Result.andThen, hk]
 rw [h]
 rfl
theorem isOp_c (s : ByteArray) (w : World) (hw : Hy w) :
  Calls prog 130 #[.string s] w fun e w' => e = .returned (.bool (Kk.contains s.data.toList)) /\ w' = w := by
 obtain ⟨b, hb⟩ := xE (Kk.contains s.data.toList)
 rw [<- hb]
 have HB := Za hb
 clear hb
 have hr := Za hw.range
 obtain ⟨A, hA⟩ := xE Rs
 have Zd := tL
 have hsz := gO
 rw [<- hA] at hr Zd hsz
 clear hA hw
 have HA := Za Zd
 clear Zd
 go_enter func130, ntmps130
 go_wp2_with (refine wpList_load_mid rfl 189 (.global 5) rfl 5 0 rfl A (.array 15 9) hr.o underlying189 rfl hsz ?_)
 go_loop [6] (fun i => ∃ k : Nat, k <= 15 /\ i = .int .i64 k /\ xQ (noOp s k)) (fun i => 15 - (intOf i).toNat)
 case atStart => exact ⟨0, by omega, rfl, fun i hi => by omega⟩
 case round =>
  obtain ⟨k, hk, rfl, Vb⟩ := hrel;by_cases Zo : k < 15
  ·have hAk := HA.o k Zo
   obtain ⟨t, ht⟩ := xE (Fy k);rw [<- ht] at hAk;have hix := gN Zo hAk w;clear hAk;have HT := Za ht;clear ht;cases hq : (s.toList == t.toList)
   ·have Jg : xQ (noOp s (k + 1)) := fun i hi => by
     by_cases hik : i = k
     ·subst hik; rw [<- HT.o]; exact Ar hq
     ·exact Vb.o i (by omega)
    go_wp2
    go_round
    case rel => exact ⟨k + 1, by omega, by go_num, Jg⟩
    case measure => simp [intOf]; omega
   ·have e : b = true := by
     rw [HB.o];exact (tN s).2 ⟨k, Zo, (Ge.1 hq).trans HT.o⟩
    subst e;go_wp2;go_ret;exact ⟨rfl, rfl⟩
  ·have e : b = false := by
    rw [HB.o, Bool.eq_false_iff];intro h;obtain ⟨i, hi, e⟩ := (tN s).1 h;exact Vb.o i (by omega) e
   subst e;go_wp2;go_ret;exact ⟨rfl, rfl⟩
theorem aV (s : ByteArray) (w : World) (hw : Hy w) : Calls prog 91 #[.string s, .int .i64 3] w fun e w' => e = .returned (.bool (Kk.contains s.data.toList)) /\ w' = w := by
 have HC := Za (isOp_c s w hw)
 clear hw
 generalize Kk.contains s.data.toList = b at HC
 go_enter func91, ntmps91
 go_wp2_with fail
 refine HC.o.mono ?_
 rintro e w' ⟨rfl, rfl⟩
 go_wp2_with fail
 go_ret
 exact ⟨rfl, rfl⟩
theorem aU (s : ByteArray) (hs : s.size <= 1000) (w : World) (hw : Words w) : Calls prog 91 #[.string s, .int .i64 1] w fun e w' => e = .returned (.bool (Ho s.data.toList)) /\ w' = w := by
 have HC := Za (uU s (by omega) w hw)
 clear hw
 generalize Ho s.data.toList = b at HC
 go_enter func91, ntmps91
 go_wp2_with fail
 refine HC.o.mono ?_
 rintro e w' ⟨rfl, rfl⟩
 go_wp2_with fail
 go_ret
 exact ⟨rfl, rfl⟩
theorem mV (a : Option Addr) (c : Nat) (w : World) : Calls prog 93 #[.slice a 0 c, .func (.func 94) #[] #[]] w fun e w' => e = .returned (.bool true) /\ w' = w := by
 go_enter func93, ntmps93
 go_wp2_with fail
 go_loopw [9] (fun i wx => i = .int .i64 0 /\ wx = w) (fun _ _ => 0)
 case atStart => exact ⟨rfl, rfl⟩
 case round =>
  obtain ⟨rfl, rfl⟩ := hrel;go_wp2_with fail;go_ret;exact ⟨rfl, by first | rfl | trivial⟩
def Qz (k : Nat) : Nat × Nat × Nat × Nat × Nat × Nat × Bool :=
 [(0, 9223372036854775807, 0, 0, 0, 0, false), (2, 0, 0, 0, 0, 0, false), (0, 1, 0, 0, 0, 0, false), (0, 0, 0, 0, 0, 0, false), (1, 0, 0, 0, 0, 0, false), (1, 0, 0, 1, 2, 2, false), (1, 0, 1, 2, 1, 1, false), (0, 0, 0, 0, 2, 2, false), (0, 0, 0, 0, 0, 9223372036854775807, true), (1, 0, 0, 0, 1, 1, false),
 (1, 0, 0, 0, 2, 2, false), (0, 0, 0, 0, 3, 3, false), (0, 5, 0, 0, 1, 1, false), (0, 0, 1, 1, 1, 1, false), (3, 0, 0, 0, 2, 2, false), (0, 0, 0, 0, 1, 1, false), (0, 0, 0, 0, 1, 1, false), (0, 0, 0, 0, 1, 1, false), (0, 0, 0, 0, 0, 0, false), (1, 0, 1, 9223372036854775807, 0, 0, false)].getD k (0, 0, 0, 0, 0, 0, false)
def F7 (w : World) : Prop := ∀ k, k < 20 -> w.cell? ⟨2, k * 7, none⟩ = some (.int .i64 (Qz k).1) /\ w.cell? ⟨2, k * 7 + 1, none⟩ = some (.int .i64 (Qz k).2.1) /\ w.cell? ⟨2, k * 7 + 2, none⟩ = some (.int .i64 (Qz k).2.2.1) /\ w.cell? ⟨2, k * 7 + 3, none⟩ = some (.int .i64 (Qz k).2.2.2.1) /\
 w.cell? ⟨2, k * 7 + 4, none⟩ = some (.int .i64 (Qz k).2.2.2.2.1) /\ w.cell? ⟨2, k * 7 + 5, none⟩ = some (.int .i64 (Qz k).2.2.2.2.2.1) /\ w.cell? ⟨2, k * 7 + 6, none⟩ = some (.bool (Qz k).2.2.2.2.2.2)
theorem F7.lt {w : World} (h : F7 w) : 2 < w.heap.size := World.block_lt_of_cell? w _ (h 0 (by decide)).1
theorem F7.below {w w' : World} (h : F7 w) (hb : Below w.heap.size w w') : F7 w' := fun k hk => by
 obtain ⟨h0, h1, h2, h3, h4, h5, h6⟩ := h k hk
 have hl : 2 < w.heap.size := h.lt
 exact ⟨(hb.cell hl).trans h0, (hb.cell hl).trans h1, (hb.cell hl).trans h2, (hb.cell hl).trans h3, (hb.cell hl).trans h4, (hb.cell hl).trans h5, (hb.cell hl).trans h6⟩
theorem vE {w1 : World} {b : Nat} {y0 y1 y2 y3 y4 y5 y6 : Value} {t : TypeId} (h : w1.heap[b]? = some (.cells #[y0, y1, y2, y3, y4, y5, y6] t)) :
  (w1.cell? ⟨b, 0, none⟩ = some y0 /\ w1.cell? ⟨b, 1, none⟩ = some y1 /\ w1.cell? ⟨b, 2, none⟩ = some y2 /\ w1.cell? ⟨b, 3, none⟩ = some y3 /\ w1.cell? ⟨b, 4, none⟩ = some y4 /\ w1.cell? ⟨b, 5, none⟩ = some y5 /\ w1.cell? ⟨b, 6, none⟩ = some y6) /\ b < w1.heap.size := by
 refine ⟨⟨?_, ?_, ?_, ?_, ?_, ?_, ?_⟩, xB h⟩
 all_goals (rw [cell_of_row _ _ _ _ _ _ h]; rfl)
theorem wY (k : Nat) (tx : ByteArray) (N : Nat) (pq : PX) (ka : Option Addr) (kl kc : Nat) (tb : Bool) (w : World) (hk : k < 20) (hf : F7 w) (hN : N <= (Qz k).2.1) (ht : (Qz k).2.2.1 = 0) (h1 : (Qz k).2.2.2.2.1 <= kl) (h2 : kl <= (Qz k).2.2.2.2.2.1) (hn : (Qz k).2.2.2.2.2.2 = false) (_ : kl <= 1000) (_ : N <= 1000)
  (hT : ∀ wx, Below w.heap.size w wx -> Calls prog 91 #[.string tx, .int .i64 (Qz k).1] wx fun e w' => e = .returned (.bool tb) /\ w' = wx) :
  Calls prog 50 #[Jm k tx N pq ka kl kc] w fun e w' => e = .returned (.bool tb) /\ Below w.heap.size w w' := by
 have Wk := Zq w (Up k tx N pq ka kl kc)
 obtain ⟨f0, f1, f2, f3, f4, f5, f6⟩ := hf k hk
 rw [ht] at f2
 rw [hn] at f6
 have Zo := hf.lt
 obtain ⟨⟨t, mN, tl, tm, l, m, nb⟩, hq⟩ : ∃ q, q = Qz k := ⟨_, rfl⟩
 rw [<- hq] at f0 f1 f3 f4 f5 hN h1 h2 hT
 simp only at f0 f1 f3 f4 f5 hN h1 h2 hT
 have HH := Za (fun wx => vN l m kl h1 (by omega) wx)
 have HH0 := Za (fun wx => vN 0 tm 0 (xR) (by omega) wx)
 have HTX := Za hT
 have HB0 := Za Wk
 have k9 : ¬ (20 : Int) <= (k : Int) := by omega
 have k9' : (k : Int) < 20 := by omega
 have k0 : ¬ (k : Int) < 0 := by omega
 have n0 : ¬ (N : Int) < 0 := by omega
 have n1 : ¬ (mN : Int) < (N : Int) := by omega
 clear hq ht hn hf hT Wk
 go_enter func50, ntmps50
 go_wp2_with fail
 have HT : xQ (((w.alloc (Up k tx N pq ka kl kc)).alloc (.cells #[.int .i64 t, .int .i64 mN, .int .i64 0, .int .i64 tm, .int .i64 l, .int .i64 m, .bool false] 138)).heap[w.heap.size]? = some (Up k tx N pq ka kl kc)) := (xA (by simp)).trans (xL w _)
 have HO : xQ (((w.alloc (Up k tx N pq ka kl kc)).alloc (.cells #[.int .i64 t, .int .i64 mN, .int .i64 0, .int .i64 tm, .int .i64 l, .int .i64 m, .bool false] 138)).heap[w.heap.size + 1]? = some (.cells #[.int .i64 t, .int .i64 mN, .int .i64 0, .int .i64 tm, .int .i64 l, .int .i64 m, .bool false] 138)) := Ti w _ _
 refine (HH0.o _).mono ?_
 rintro e w1 ⟨rfl, Zt⟩
 have Yl := Za (Zx (Zx HB0.o (Zq _ _)) Zt)
 have M1 := Za ((Zt.block _ (xB HT.o)).trans HT.o)
 have HO1 := Za ((Zt.block _ (xB HO.o)).trans HO.o)
 obtain ⟨⟨x0, x1, x2, x3, x4, x5, x6, x7⟩, Hg⟩ := Rq M1.o
 obtain ⟨⟨y0, y1, y2, y3, y4, y5, y6⟩, Gr⟩ := vE HO1.o
 simp only [Nat.zero_add] at x0 x1 x2 x3 x4 x5 x6 x7
 clear Zt f0 f1 f2 f3 f4 f5 f6 HT HO
 go_wp2_with fail
 refine (HH.o _).mono ?_
 rintro e w2 ⟨rfl, Z0⟩
 have Yx := Za (Zx Yl.o Z0)
 have Jz := Za ((Z0.block _ (xB M1.o)).trans M1.o)
 have Ky := Za ((Z0.block _ (xB HO1.o)).trans HO1.o)
 clear Z0 x0 x1 x2 x3 x4 x5 x6 x7 y0 y1 y2 y3 y4 y5 y6 Hg Gr
 obtain ⟨⟨x0, x1, x2, x3, x4, x5, x6, x7⟩, Hg⟩ := Rq Jz.o
 obtain ⟨⟨y0, y1, y2, y3, y4, y5, y6⟩, Gr⟩ := vE Ky.o
 simp only [Nat.zero_add] at x0 x1 x2 x3 x4 x5 x6 x7
 go_wp2_with fail
 refine (HTX.o _ Yx.o).mono ?_
 rintro e w3 ⟨rfl, rfl⟩
 cases tb
 ·go_wp2_with fail
  go_ret;exact ⟨rfl, Yx.o⟩
 ·go_wp2_with fail
  refine (jV pq.na pq.nc kl _).mono ?_;rintro e w4 ⟨rfl, rfl⟩;go_wp2_with fail;refine (mV _ _ _).mono ?_;rintro e w5 ⟨rfl, rfl⟩;go_wp2_with fail;go_ret;exact ⟨rfl, Yx.o⟩
def Ks (w : World) (a : Addr) : Prop := ∃ cs t fr, w.heap[a.block]? = some (.cells cs t fr) /\ w.frozen? a = false
def K4 (w : World) (a : Addr) : Prop := N0 w a.block
theorem K4.good {w : World} {a : Addr} (h : K4 w a) : Ks w a := by
 obtain ⟨cs, t, h⟩ := h
 exact ⟨cs, t, _, h, by simp [World.frozen?, h]⟩
theorem Ks.below {w w' : World} {a : Addr} (h : Ks w a) (hb : Below w.heap.size w w') : Ks w' a := by
 obtain ⟨cs, t, fr, h, hf⟩ := h
 exact ⟨cs, t, fr, (hb.block _ (xB h)).trans h, (hb.frozen (xB h)).trans hf⟩
theorem lD (w : World) : w.drewN 0 = w := rfl
theorem sJ {P : Program} {w : World} {a b : Addr} (ha : Ks w a) (hb : Ks w b) :
  ∃ r n, (sameAddr a b).run P w = .ok r (w.drewN n) /\ (a = b -> r = true) /\ (K4 w a -> K4 w b -> (r = true -> a = b)) := by
 by_cases Z8 : a.block = b.block
 ·refine ⟨a == b, 0, by simp [sameAddr, Z8, lD], by simp, by simp⟩
 ·obtain ⟨ca, ta, fa, ha1, Un⟩ := ha
  obtain ⟨cb, tb, fb, Zt, Z0⟩ := hb
  have Xx : w.shape? a.block = some (ta, ca.size) := by simp [World.shape?, ha1]
  have Wc : w.shape? b.block = some (tb, cb.size) := by simp [World.shape?, Zt]
  by_cases hp : K4 w a /\ K4 w b
  ·obtain ⟨⟨ca', ta', h1⟩, ⟨cb', tb', h2⟩⟩ := hp
   refine ⟨false, 0, by rw [run_sameAddr_other w (fun e => Z8 (by rw [e])) h1 h2]; rfl, fun e => absurd (by rw [e]) Z8, fun _ _ h => by cases h⟩
  ·have Vb : K4 w a -> K4 w b -> False := fun h1 h2 => hp ⟨h1, h2⟩
   have hex : ∃ r n, (sameAddr a b).run P w = .ok r (w.drewN n) := by
    generalize hR : (sameAddr a b).run P w = R;simp only [sameAddr, noView, viewAt, mayBeOne, stringish] at hR;simp [Z8, Un, Z0, Xx, Wc] at hR
    repeat' split at hR
    all_goals first | exact ⟨_, 0, hR.symm⟩ | exact ⟨_, 1, hR.symm⟩
   obtain ⟨r, n, h⟩ := hex;exact ⟨r, n, h, fun e => absurd (by rw [e]) Z8, fun h1 h2 => (Vb h1 h2).elim⟩
def Fu (a : Addr) (m : Nat) : Value := .agg #[.pointer (some a), .int .i64 m]
theorem tV (xs : Array Value) (w : World) (m : Int) (h : xs[1]? = some (.int .i64 m)) : (part 3 xs 1).run prog w = .ok (.int .i64 m) w := by
 simp [part, isAgg, run_underlying underlying3, h]
theorem sH (d : Nat) (w : World) (m l : Nat) : (Op.equalIn (d + 1) 3 (.int .i64 m) (.int .i64 l)).run prog w = .ok (m == l) w := by
 simp [Op.equalIn, run_underlying underlying3]
 rw [Bool.eq_iff_iff]
 simp
 omega
end Go.Proofs.YtfoejkhfdiodhaaGreatDoor
namespace Go.Proofs.YtfoejkhfdiodhaaGreatDoor
open Go.Proofs.Tryz
open Go.RowKit Go.MapKept
open Go.ChangeMaps (setBlock)
structure Sp (K : TypeId) (G P : World -> Value -> Prop) : Prop where
 eq : ∀ w x y, G w x -> G w y -> ∃ r n, (Op.equal K x y).run prog w = .ok r (w.drewN n) /\ (x = y -> r = true) /\ (P w x -> P w y -> (r = true -> x = y))
 check : ∀ w em x, G w x -> (Instr.checkKey em 10000 K x).run prog w = .ok () w
 drew : ∀ w n x, G w x -> G (w.drewN n) x
 drewP : ∀ w n x, P w x -> P (w.drewN n) x
 now : ∀ w x y, G w x -> ∃ d, prog.underlying K = some d /\ Instr.sameNow d x y = none
section
variable {K : TypeId} {G P : World -> Value -> Prop}
theorem wW (O : Sp K G P) : ∀ (es : List MapEntry) (i : Nat) (w : World) (x : Value), G w x -> (∀ e ∈ es, G w e.key) ->
  ∃ n r, (Instr.findAsking K x es i).run prog w = .ok r (w.drewN n) /\
   ((r = none /\ ∀ e ∈ es, e.key ≠ x) ∨ ∃ j e, r = some (i + j, e.val) /\ es[j]? = some e /\ (P w x -> (∀ e ∈ es, P w e.key) -> e.key = x))
 | [], i, w, x, _, _ => ⟨0, none, by simp [Instr.findAsking]; rfl, .inl ⟨rfl, by simp⟩⟩
 | e :: es, i, w, x, hx, Hd => by
  obtain ⟨r, n, h, h1, h2⟩ := O.eq w x e.key hx (Hd e (by simp));cases r
  ·obtain ⟨n', r', h', hr⟩ := wW O es (i + 1) (w.drewN n) x (O.drew w n x hx) (fun e' he' => O.drew w n _ (Hd e' (by simp [he'])))
   refine ⟨n + n', r', by simp [Instr.findAsking, h, h'], ?_⟩;rcases hr with ⟨rfl, hn⟩ | ⟨j, e', rfl, hj, hp⟩
   ·refine .inl ⟨rfl, fun e' he' => ?_⟩
    rcases List.mem_cons.1 he' with rfl | he'
    ·exact fun e2 => absurd (h1 e2.symm) (by decide)
    ·exact hn e' he'
   ·exact .inr ⟨j + 1, e', by rw [Nat.add_assoc, Nat.add_comm 1 j], by simpa using hj, fun p1 p2 => hp (O.drewP w n x p1) fun e2 he2 => O.drewP w n _ (p2 e2 (by simp [he2]))⟩
  ·exact ⟨n, some (i, e.val), by simp [Instr.findAsking, h], .inr ⟨0, e, by simp, by simp, fun p1 p2 => (h2 p1 (p2 e (by simp)) rfl).symm⟩⟩
theorem wX (O : Sp K G P) (es : List MapEntry) (w : World) (x : Value) (hx : G w x) (Hd : ∀ e ∈ es, G w e.key) :
  ∃ n r, (Instr.findKey K x es).run prog w = .ok r (w.drewN n) /\
   ((r = none /\ ∀ e ∈ es, e.key ≠ x) ∨ ∃ j e, r = some (j, e.val) /\ es[j]? = some e /\ (P w x -> (∀ e ∈ es, P w e.key) -> e.key = x)) := by
 cases es with
 | nil =>
  obtain ⟨d, hd, _⟩ := O.now w x x hx;exact ⟨0, none, by simp [Instr.findKey, run_underlying hd, Instr.findNow]; rfl, .inl ⟨rfl, by simp⟩⟩
 | cons e es =>
  obtain ⟨d, hd, hs⟩ := O.now w x e.key hx;obtain ⟨n, r, h, hr⟩ := wW O (e :: es) 0 w x hx Hd;refine ⟨n, r, by simp [Instr.findKey, run_underlying hd, Instr.findNow, hs, h], ?_⟩;rcases hr with hr | ⟨j, e', h1, h2, h3⟩
  ·exact .inl hr
  ·exact .inr ⟨j, e', by simpa using h1, h2, h3⟩
def J4 (w : World) (b : Nat) (vs : List Value) : Prop := ∃ es clock, w.heap[b]? = some (.map es clock) /\ es.toList.map (·.key) = vs /\ ∀ e ∈ es.toList, e.val = .agg #[]
theorem sQ (w : World) : J4 (w.alloc (.map #[] 0)) w.heap.size [] := ⟨#[], 0, xL w _, rfl, by simp⟩
theorem qP {w w' : World} {b : Nat} {vs : List Value} (h : J4 w b vs) (hb : w'.heap[b]? = w.heap[b]?) : J4 w' b vs := by
 obtain ⟨es, clock, h1, h2⟩ := h
 exact ⟨es, clock, hb.trans h1, h2⟩
theorem set_lt {w : World} {b : Nat} {vs : List Value} (h : J4 w b vs) : b < w.heap.size := by
 obtain ⟨es, clock, h1, _⟩ := h
 exact xB h1
variable {w : World} {b : Nat} {vs : List Value} {t e : TypeId}
theorem sP (O : Sp K G P) (ht : prog.underlying t = some (.map K e)) (hz : (zeroValue e).run prog = fun w => .ok (.agg #[]) w) (h : J4 w b vs) {x : Value} (hx : G w x) (hvs : ∀ y ∈ vs, G w y) :
  ∃ r n, (Instr.lookup t (.map (some b)) x true).run prog w = .ok (.tuple #[.agg #[], .bool r]) (w.drewN n) /\ (r = false -> x ∉ vs) /\ (r = true -> ∃ y ∈ vs, P w x -> (∀ z ∈ vs, P w z) -> y = x) := by
 obtain ⟨es, clock, hb, rfl, hv⟩ := h
 have hg : ∀ e ∈ es.toList, G w e.key := fun e he => hvs _ (List.mem_map.2 ⟨e, he, rfl⟩)
 obtain ⟨n, r, hf, hr⟩ := wX O es.toList w x hx hg
 rcases hr with ⟨rfl, hn⟩ | ⟨j, e0, rfl, hj, hp⟩
 ·refine ⟨false, n, ?_, fun _ hm => ?_, fun h => by cases h⟩
  ·simp [Instr.lookup, run_underlying ht, MapKept.run_getObj_map hb, O.check w _ _ hx, hf, hz, Result.andThen]
  ·obtain ⟨e1, Ja, h2⟩ := List.mem_map.1 hm
   exact hn e1 Ja h2
 ·have hm := List.mem_of_getElem? hj
  refine ⟨true, n, ?_, fun h => (by cases h), fun _ => ⟨e0.key, List.mem_map.2 ⟨e0, hm, rfl⟩, fun p1 p2 => hp p1 fun e1 Ja => p2 _ (List.mem_map.2 ⟨e1, Ja, rfl⟩)⟩⟩;simp [Instr.lookup, run_underlying ht, MapKept.run_getObj_map hb, O.check w _ _ hx, hf, hv e0 hm, Result.andThen]
theorem aH (w : World) (old new : Value) : ∃ v n, (Instr.keyThatStays old new).run prog w = .ok v (w.drewN n) /\ (v = new ∨ v = old) := by
 generalize hR : (Instr.keyThatStays old new).run prog w = R
 simp [Instr.keyThatStays] at hR
 repeat' split at hR
 all_goals first | exact ⟨_, 0, hR.symm, .inl rfl⟩ | exact ⟨_, 1, hR.symm, .inl rfl⟩ | exact ⟨_, 0, hR.symm, .inr rfl⟩ | exact ⟨_, 1, hR.symm, .inr rfl⟩
theorem sR (O : Sp K G P) (ht : prog.underlying t = some (.map K e)) (h : J4 w b vs) {x : Value} (hx : G w x) (hvs : ∀ y ∈ vs, G w y) :
  ∃ w' vs', (Instr.mapUpdate t (.map (some b)) x (.agg #[])).run prog w = .ok () w' /\ J4 w' b vs' /\ w.grownBy w' (some b) /\ (∀ y ∈ vs', y ∈ vs ∨ y = x) /\ (P w x -> (∀ z ∈ vs, P w z) -> ∀ y, y ∈ vs ∨ y = x -> y ∈ vs') := by
 obtain ⟨es, clock, hb, rfl, hv⟩ := h
 have hg : ∀ e ∈ es.toList, G w e.key := fun e he => hvs _ (List.mem_map.2 ⟨e, he, rfl⟩)
 obtain ⟨n, r, hf, hr⟩ := wX O es.toList w x hx hg
 have Z8 : ∀ m o, (setBlock (w.drewN m) b o).heap[b]? = some o := fun m o => by
  have Zo := xB hb;simp [setBlock, Zo]
 have hgr : ∀ m o, w.grownBy (setBlock (w.drewN m) b o) (some b) := fun m o => ⟨rfl, rfl, rfl, by simp [setBlock], fun i _ hi => by
  have : b ≠ i := fun e => hi (by rw [e])
  simp [setBlock, this]⟩
 have hbd : ∀ m, (w.drewN m).heap[b]? = some (.map es clock) := fun m => hb
 rcases hr with ⟨rfl, hn⟩ | ⟨j, e0, rfl, hj, hp⟩
 ·refine ⟨setBlock (w.drewN n) b (.map (es.push ⟨x, .agg #[], clock⟩) (clock + 1)), es.toList.map (·.key) ++ [x], ?_, ⟨_, _, Z8 _ _, by simp, ?_⟩, hgr _ _, ?_, ?_⟩
  ·simp [Instr.mapUpdate, run_underlying ht, MapKept.run_getObj_map hb, O.check w _ _ hx, hf, MapKept.run_setObj_map _ (hbd n), Result.andThen, setBlock]
  ·intro e1 Ja
   simp only [Array.toList_push, List.mem_append, List.mem_singleton] at Ja;rcases Ja with Ja | rfl
   ·exact hv e1 Ja
   ·rfl
  ·intro y hy
   simpa [or_comm] using hy
  ·intro _ _ y hy
   simpa using hy
 ·have hm := List.mem_of_getElem? hj
  have hj' : es[j]? = some e0 := by simpa using hj
  obtain ⟨v, n', Zb, hvv⟩ := aH (w.drewN n) e0.key x;have Qt : j < es.toList.length := (List.getElem?_eq_some_iff.1 hj).1
  have hlist : (es.modify j (fun e' => { e' with key := v, val := .agg #[] })).toList = es.toList.set j { e0 with key := v, val := .agg #[] } := by rw [Array.toList_modify, ChangeMaps.modify_eq_set _ _ _ _ hj]
  refine ⟨setBlock (w.drewN (n + n')) b (.map (es.modify j fun e' => { e' with key := v, val := .agg #[] }) clock), (es.toList.map (·.key)).set j v, ?_, ⟨_, _, Z8 _ _, by rw [hlist, List.map_set], ?_⟩, hgr _ _, ?_, ?_⟩
  ·simp [Instr.mapUpdate, run_underlying ht, MapKept.run_getObj_map hb, O.check w _ _ hx, hf, hj', Zb, MapKept.run_setObj_map _ (hbd (n + n')), Result.andThen, setBlock]
  ·intro e1 Ja
   rw [hlist] at Ja;rcases List.mem_or_eq_of_mem_set Ja with h | rfl
   ·exact hv e1 h
   ·rfl
  ·intro y hy
   rcases List.mem_or_eq_of_mem_set hy with h | rfl
   ·exact .inl h
   ·rcases hvv with rfl | rfl
    ·exact .inr rfl
    ·exact .inl (List.mem_map.2 ⟨e0, hm, rfl⟩)
  ·intro p1 p2 y hy
   have hk : e0.key = x := hp p1 fun e1 Ja => p2 _ (List.mem_map.2 ⟨e1, Ja, rfl⟩)
   have hvx : v = x := by rcases hvv with h | h <;> simp [h, hk]
   subst hvx
   have hid : (es.toList.map (·.key)).set j v = es.toList.map (·.key) := by
    apply List.ext_getElem?
    intro i;rw [List.getElem?_set]
    split
    ·rename_i hij
     subst hij;simp [hj, hk]
     simpa using Qt
    ·rfl
   rw [hid];rcases hy with h | rfl
   ·exact h
   ·exact List.mem_map.2 ⟨e0, hm, hk⟩
theorem eO {ops : Array Oper} {rest : List Oper} {o : Oper} {a : Act} {Q : Exit -> Act -> World -> Prop} (hg : o.guard = none) (m x : Operand) (t : TypeId) (hop : o.op = Op.lookup t m x true)
  (O : Sp K G P) (ht : prog.underlying t = some (.map K e)) (hz : (zeroValue e).run prog = fun w => .ok (.agg #[]) w) (b : Nat) (vs : List Value)
  (hm : a.eval m = .map (some b)) (h : J4 w b vs) (key : Value) (hx : a.eval x = key) (Rb : G w key) (hvs : ∀ y ∈ vs, G w y)
  (hK : ∀ r n, (r = false -> key ∉ vs) -> (r = true -> ∃ y ∈ vs, P w key -> (∀ z ∈ vs, P w z) -> y = key) -> wpList prog ops Q rest (a.put o.dst (.tuple #[.agg #[], .bool r])) (w.drewN n)) :
  wpList prog ops Q (o :: rest) a w := by
 refine wpList_plain hg fun K' hK' => ?_
 obtain ⟨r, n, Dm, h1, h2⟩ := sP O ht hz h Rb hvs
 unfold Oper.wp
 simp [execOp, hop, hm, hx, Dm, Result.andThen]
 exact hK' _ _ (hK r n h1 h2)
theorem eQ {ops : Array Oper} {rest : List Oper} {o : Oper} {a : Act} {Q : Exit -> Act -> World -> Prop} (hg : o.guard = none) (m x v : Operand) (t : TypeId) (hop : o.op = Op.mapUpdate t m x v)
  (O : Sp K G P) (ht : prog.underlying t = some (.map K e)) (b : Nat) (vs : List Value)
  (hm : a.eval m = .map (some b)) (h : J4 w b vs) (key : Value) (hx : a.eval x = key) (hv : a.eval v = .agg #[]) (Rb : G w key) (hvs : ∀ y ∈ vs, G w y)
  (hK : ∀ w' vs', J4 w' b vs' -> w.grownBy w' (some b) -> (∀ y ∈ vs', y ∈ vs ∨ y = key) -> (P w key -> (∀ z ∈ vs, P w z) -> ∀ y, y ∈ vs ∨ y = key -> y ∈ vs') -> wpList prog ops Q rest (a.put o.dst undef) w') :
  wpList prog ops Q (o :: rest) a w := by
 refine wpList_plain hg fun K' hK' => ?_
 obtain ⟨w', vs', Dm, h1, h2, h3, h4⟩ := sR O ht h Rb hvs
 unfold Oper.wp
 simp [execOp, hop, hm, hx, hv, Dm, Result.andThen]
 exact hK' _ _ (hK w' vs' h1 h2 h3 h4)
end
def xC (w : World) (v : Value) : Prop := ∃ a m, v = Fu a m /\ Ks w a
def Cr (w : World) (v : Value) : Prop := ∃ a m, v = Fu a m /\ K4 w a
theorem Ij {a b : Addr} {m l : Nat} (h : Fu a m = Fu b l) : a = b /\ m = l := by
 unfold Fu at h
 simp at h
 exact ⟨h.1, by omega⟩
theorem Ks.drew {w : World} {a : Addr} (n : Nat) (h : Ks w a) : Ks (w.drewN n) a := h
end Go.Proofs.YtfoejkhfdiodhaaGreatDoor
namespace Go.Proofs.YtfoejkhfdiodhaaGreatDoor
open Go.Proofs.Tryz
open Go.RowKit
def Rk : Value -> Value
 | .slice (some a) l _ => Fu a l
 | v => v
def Gf (n : Nat) (ps : List (Value × List Ty)) : Nat := (ps.map fun p => (p.2.map (Qw n)).sum).sum
def Eo (w : World) (a : Option Addr) (vs : List Value) : Prop := vs = [] ∨ ∃ b o, a = some ⟨b, o, none⟩ /\ b < w.heap.size /\ ∀ i (h : i < vs.length), w.cell? ⟨b, o + i, none⟩ = some vs[i]
theorem dV {w : World} {base e n : Nat} {v : Value} {vs : List Value} (h : w.ownsRow base e 1 v n vs) : ∃ a c, v = .slice a vs.length c /\ Eo w a vs /\ vs.length = n := by
 have hl := h.1
 rw [Nat.mul_one] at hl
 rcases h.2 with ⟨rfl, h0⟩ | ⟨g, cap, cur, rfl, hg, hh, _⟩
 ·subst h0
  exact ⟨none, 0, by rw [hl], .inl (List.length_eq_zero_iff.1 hl), hl⟩
 ·refine ⟨some ⟨g, 0, none⟩, cap, by rw [hl], .inr ⟨g, 0, rfl, xB hh, fun i hi => ?_⟩, hl⟩
  have := h.cells (g := g) rfl i vs[i] (by simp [hi])
  have Fq : (⟨g, 0, none⟩ : Addr).add i = ⟨g, 0 + i, none⟩ := by unfold Addr.add; split <;> simp_all
  rw [Fq] at this;exact this
section
variable {w0 wr wr' : World} {u : Bool} {n : Nat} {v : Value} {done : List Ty} {ps : List (Value × List Ty)} {vs : List Value}
theorem B2 (w : World) (m : Nat) (row : Option Nat) : w.grownBy (w.drewN m) row := ⟨rfl, rfl, rfl, xR, fun _ _ _ => rfl⟩
theorem sZ {n : Nat} {D : Ty} : 1 <= Qw (n + 1) D := by rw [Qw]; omega
end
theorem rT : (zeroValue 151).run prog = fun w => .ok (.agg #[]) w := by funext w; kernel_rfl
theorem wZ (Ls : List (List Ty)) (i : Nat) (hi : i < Ls.length) : (Ls.take (i + 1)).flatten = (Ls.take i).flatten ++ Ls[i] := by
 rw [List.take_succ_eq_append_getElem hi, List.flatten_append]
 simp
theorem yJ (f : Ty -> Nat) : ∀ (Ls : List (List Ty)), (Ls.flatten.map f).sum = (Ls.map fun L => (L.map f).sum).sum
 | [] => rfl
 | L :: Ls => by rw [List.flatten_cons, List.map_append, List.sum_append, yJ f Ls]; simp
theorem gI (W : World) (x : Value) (t : TypeId) : ∀ j u, ([x] : List Value)[j]? = some u -> (W.alloc (.cells #[x] t)).cell? ((⟨W.heap.size, 0, none⟩ : Addr).add j) = some u := by
 intro j u hj
 cases j with
 | zero =>
  have Fq : (⟨W.heap.size, 0, none⟩ : Addr).add 0 = ⟨W.heap.size, 0, none⟩ := by simp [Addr.add]
  rw [Fq, cell_of_row _ _ 0 _ t (0, 0) (xL W _)]
  simpa using hj
 | succ j => simp at hj
theorem pK (l : List Nat) (k : Nat) : (l.take k).sum <= l.sum := by
 have := List.take_append_drop k l
 conv => rhs; rw [<- this, List.sum_append]
 omega
theorem lB {n : Nat} (qs : List (Value × List Ty)) (j k : Nat) (hj : j < qs.length) : ((((qs.map (·.2)).take j).flatten ++ (qs[j].2).take k).map (Qw n)).sum <= Gf n qs := by
 have h1 : ((((qs.map (·.2)).take j).flatten ++ (qs[j].2).take k).map (Qw n)).sum <= (((qs.map (·.2)).take (j + 1)).flatten.map (Qw n)).sum := by
  rw [wZ _ _ (by simpa using hj), List.getElem_map, List.map_append, List.map_append, List.sum_append, List.sum_append, List.map_take];have := pK ((qs[j].2).map (Qw n)) k;omega
 refine Nat.le_trans h1 ?_
 rw [yJ, List.map_take, List.map_map]
 exact pK _ _
def Bw (w : World) (_ : Bool) (n : Nat) (x : Value) (ks : List Ty) : Prop :=
 ∃ b o c, x = .slice (some ⟨b, o, none⟩) ks.length c /\ ks ≠ [] /\ ks.length <= reachBytes /\ Ff w n (some ⟨b, o, none⟩) ks
theorem Bw.good {w : World} {u : Bool} {n : Nat} {x : Value} {ks : List Ty} (h : Bw w u n x ks) : ∃ b o c, x = .slice (some ⟨b, o, none⟩) ks.length c /\ b < w.heap.size /\ Ks w ⟨b, o, none⟩ /\ (u = true -> K4 w ⟨b, o, none⟩) /\ ks ≠ [] /\ ks.length <= reachBytes := by
 obtain ⟨b, o, c, rfl, Z3, hl, hk⟩ := h
 rcases hk with hk | ⟨b', o', e, Yz, hc⟩
 ·exact absurd hk Z3
 ·injection e with e
  injection e with e1 e2;subst e1 e2;have hp : K4 w ⟨b, o, none⟩ := Yz;exact ⟨b, o, c, rfl, Nr Yz, hp.good, fun _ => hp, Z3, hl⟩
theorem gA {w : World} {u u' : Bool} {n m : Nat} {x x' : Value} {ks ks' : List Ty} (h : Bw w u n x ks) (h' : Bw w u' m x' ks') (he : Rk x = Rk x') : ks = ks' := by
 obtain ⟨b, o, c, rfl, _, _, hk⟩ := h
 obtain ⟨b', o', c', rfl, _, _, Lt⟩ := h'
 obtain ⟨e1, e2⟩ := Ij he
 injection e1 with e3 e4
 subst e3 e4
 exact hM hk Lt e2
theorem tD {w w' : World} {u : Bool} {n : Nat} {x : Value} {ks : List Ty} (h : Bw w u n x ks) (hb : Below w.heap.size w w') : Bw w' u n x ks := by
 obtain ⟨b, o, c, h1, h2, h3, h4⟩ := h
 exact ⟨b, o, c, h1, h2, h3, tC h4 hb⟩
structure Qy (w0 wr : World) (u : Bool) (n : Nat) (v : Value) (done : List Ty) (ps : List (Value × List Ty)) (vs : List Value) : Prop where
 bl : Below w0.heap.size w0 wr
 st : J4 wr w0.heap.size vs
 ow : wr.ownsRow (w0.heap.size + 1) 36 1 v ps.length (ps.map (·.1))
 ls : ∀ p ∈ ps, Bw w0 u n p.1 p.2
 ky : ∀ y ∈ vs, ∃ p ∈ ps, y = Rk p.1
 fr : ∀ p ∈ ps, ∃ D ∈ done, p.2 = Ms D
 tt : Gf n ps <= (done.map (Qw (n + 1))).sum
 al : u = true -> ∀ D ∈ done, Ms D ≠ [] -> ∃ p ∈ ps, p.2 = Ms D
section
variable {w0 wr wr' : World} {u : Bool} {n : Nat} {v : Value} {done : List Ty} {ps : List (Value × List Ty)} {vs : List Value}
theorem Qy.sz (h : Qy w0 wr u n v done ps vs) : w0.heap.size < wr.heap.size := set_lt h.st
theorem Qy.grow (h : Qy w0 wr u n v done ps vs) (hg : wr.grownBy wr' none) : Qy w0 wr' u n v done ps vs where
 bl := h.bl.grown hg h.bl.size (fun k hk => by cases hk)
 st := qP h.st (hg.block _ h.sz (by simp))
 ow := h.ow.kept hg (by cases h1 : v.ownBlock <;> simp)
 ls := h.ls
 ky := h.ky
 fr := h.fr
 tt := h.tt
 al := h.al
theorem Qy.goodK (h : Qy w0 wr u n v done ps vs) : ∀ y ∈ vs, xC wr y := by
 intro y hy
 obtain ⟨p, hp, rfl⟩ := h.ky y hy
 obtain ⟨b, o, c, e, _, hg, _⟩ := (h.ls p hp).good
 rw [e]
 exact ⟨_, _, rfl, hg.below h.bl⟩
theorem Qy.plainK (h : Qy w0 wr u n v done ps vs) (hu : u = true) : ∀ y ∈ vs, Cr wr y := by
 intro y hy
 obtain ⟨p, hp, rfl⟩ := h.ky y hy
 obtain ⟨b, o, c, e, _, _, hg, _⟩ := (h.ls p hp).good
 rw [e]
 exact ⟨_, _, rfl, Et (hg hu) h.bl⟩
theorem Qy.skip (h : Qy w0 wr u n v done ps vs) {D : Ty} (hD : Ms D = []) : Qy w0 wr u n v (done ++ [D]) ps vs where
 bl := h.bl
 st := h.st
 ow := h.ow
 ls := h.ls
 ky := h.ky
 fr p hp := by
  obtain ⟨E, hE, h2⟩ := h.fr p hp;exact ⟨E, by simp [hE], h2⟩
 tt := by
  have := h.tt;simp;omega
 al hu E hE Z3 := by
  rcases List.mem_append.1 hE with hE | hE
  ·exact h.al hu E hE Z3
  ·rw [List.mem_singleton.1 hE] at Z3
   exact absurd hD Z3
theorem Qy.had (h : Qy w0 wr u n v done ps vs) {D : Ty} {x : Value} (hx : Bw w0 u n x (Ms D)) (hf : ∃ y ∈ vs, Cr wr (Rk x) -> (∀ z ∈ vs, Cr wr z) -> y = Rk x) : Qy w0 wr u n v (done ++ [D]) ps vs where
 bl := h.bl
 st := h.st
 ow := h.ow
 ls := h.ls
 ky := h.ky
 fr p hp := by
  obtain ⟨E, hE, h2⟩ := h.fr p hp;exact ⟨E, by simp [hE], h2⟩
 tt := by
  have := h.tt;simp;omega
 al hu E hE Z3 := by
  rcases List.mem_append.1 hE with hE | hE
  ·exact h.al hu E hE Z3
  ·rw [List.mem_singleton.1 hE]
   obtain ⟨y, hy, hp⟩ := hf;obtain ⟨b, o, c, e, _, _, hg, _⟩ := hx.good;have hyx := hp (by rw [e]; exact ⟨_, _, rfl, Et (hg hu) h.bl⟩) (h.plainK hu);obtain ⟨p, hpm, he⟩ := h.ky y hy;exact ⟨p, hpm, gA (h.ls p hpm) hx (he.symm.trans hyx)⟩
theorem Qy.add {w1 w2 : World} {vs' : List Value} {v' : Value} (h : Qy w0 wr u n v done ps vs) {D : Ty} {x : Value} (hx : Bw w0 u n x (Ms D)) (hs : J4 w1 w0.heap.size vs') (hg : wr.grownBy w1 (some w0.heap.size))
  (hsub : ∀ y ∈ vs', y ∈ vs ∨ y = Rk x) {o : Obj} (ho : w2.ownsRow (w0.heap.size + 1) 36 1 v' (ps.length + 1) (ps.map (·.1) ++ [x])) (Wu : (w1.alloc o).grownBy w2 v.ownBlock) :
  Qy w0 w2 u n v' (done ++ [D]) (ps ++ [(x, Ms D)]) vs' := by
 have hsz := h.sz
 have Je : ∀ i, i <= w0.heap.size -> w2.heap[i]? = w1.heap[i]? := fun i hi => by
  have h1 : i < w1.heap.size := Nat.lt_of_le_of_lt hi (xT hsz hg.size);rw [Wu.block i (by simp; omega) (fun e => by have := (h.ow.lt i e.symm).1; omega), xA h1]
 refine ⟨⟨?_, ?_, ?_, ?_, ?_⟩, ?_, ?_, ?_, ?_, ?_, ?_, ?_⟩
 ·rw [Wu.os]; exact hg.os.trans h.bl.os
 ·rw [Wu.tape]; exact hg.tape.trans h.bl.tape
 ·rw [Wu.output]; exact hg.output.trans h.bl.output
 ·have h1 := Wu.size
  have h2 := hg.size;simp at h1;omega
 ·intro k hk
  rw [Je k (by omega), hg.block k (by omega) (fun e => by injection e with e; omega)];exact h.bl.block k hk
 ·exact qP hs (Je _ (xR))
 ·simpa using ho
 ·intro p hp
  rcases List.mem_append.1 hp with hp | hp
  ·exact h.ls p hp
  ·rw [List.mem_singleton.1 hp]
   exact hx
 ·intro y hy
  rcases hsub y hy with hy | rfl
  ·obtain ⟨p, hp, e⟩ := h.ky y hy
   exact ⟨p, by simp [hp], e⟩
  ·exact ⟨(x, Ms D), by simp, rfl⟩
 ·intro p hp
  rcases List.mem_append.1 hp with hp | hp
  ·obtain ⟨E, hE, h2⟩ := h.fr p hp
   exact ⟨E, by simp [hE], h2⟩
  ·rw [List.mem_singleton.1 hp]
   exact ⟨D, by simp, rfl⟩
 ·have := h.tt
  unfold Gf at this ⊢;simp only [List.map_append, List.sum_append, List.map_cons, List.map_nil, List.sum_cons, List.sum_nil];rw [show Qw (n + 1) D = 1 + ((Ms D).map (Qw n)).sum from rfl];omega
 ·intro hu E hE Z3
  rcases List.mem_append.1 hE with hE | hE
  ·obtain ⟨p, hp, e⟩ := h.al hu E hE Z3
   exact ⟨p, by simp [hp], e⟩
  ·rw [List.mem_singleton.1 hE]
   exact ⟨(x, Ms D), by simp, rfl⟩
theorem I7 {w : World} : ∀ {ps : List (Value × List Ty)}, (∀ p ∈ ps, Bw w u n p.1 p.2) -> ps.length <= Gf n ps
 | [], _ => xZ _
 | p :: ps, h => by
  have ih := I7 (ps := ps) fun q hq => h q (by simp [hq])
  unfold Gf at ih ⊢;obtain ⟨b, o, c, _, Z3, _, hk⟩ := h p (by simp)
  have h1 : 1 <= (p.2.map (Qw n)).sum := by
   rcases hk with hk | ⟨_, _, _, _, hc⟩
   ·exact absurd hk Z3
   ·obtain ⟨_, _, _, _, _, _, _, _, ht⟩ := hc 0 (List.length_pos_iff.2 Z3)
    obtain ⟨m, rfl⟩ : ∃ m, n = m + 1 := by
     cases n with
     | zero => exact ht.elim
     | succ m => exact ⟨m, rfl⟩
    obtain ⟨D, ks, e⟩ := List.exists_cons_of_ne_nil Z3;rw [e, List.map_cons, List.sum_cons];have := sZ (n := m) (D := D);omega
  simp only [List.map_cons, List.sum_cons, List.length_cons];omega
end
abbrev Fm : Value := .func (.func 50) #[] #[]
abbrev zC : Value := .func (.func 49) #[] #[]
abbrev partsN (b : Nat) : Value := .func (.func 87) #[] #[.pointer (some ⟨b, 0, none⟩)]
def Ek (w : World) (S : Ty -> Prop) (fb : Ty -> Bool) : Prop := ∀ (n k : Nat) (tx : ByteArray) (N : Nat) (pq : PX) (ka : Option Addr) (kl kc : Nat) (D : Ty) (wx : World), Below w.heap.size w wx -> S D -> Bb wx n k tx N pq ka kl kc D -> Calls prog 50 #[Jm k tx N pq ka kl kc] wx fun e w' => e = .returned (.bool (fb D)) /\ Below wx.heap.size wx w'
theorem mW {fb : Ty -> Bool} {ks : List Ty} {j : Nat} (hj : j < ks.length) (h : (ks.take j).all fb = true) (hb : fb ks[j] = true) : (ks.take (j + 1)).all fb = true := by
 rw [List.take_succ_eq_append_getElem hj, List.all_append, h]
 simp [hb]
theorem xV {α : Type} {fb : α -> Bool} {ks : List α} {j : Nat} (hj : j < ks.length) (hb : fb ks[j] = false) : ks.all fb = false := by
 rw [List.all_eq_false]
 exact ⟨ks[j], List.getElem_mem hj, by rw [hb]; decide⟩
theorem mU (n : Nat) (S : Ty -> Prop) (fb : Ty -> Bool) (ka : Option Addr) (kc : Nat) (ks : List Ty) (w : World) (hF : Ek w S fb) (h : Ff w n ka ks) (hl : ks.length <= 140737488351232) (hs : ∀ x ∈ ks, S x) :
  Calls prog 88 #[.slice ka ks.length kc, Fm] w fun e w' => e = .returned (.bool (ks.all fb)) /\ Below w.heap.size w w' := by
 have HK := Za h
 have HF := Za hF
 have HS := Za hs
 obtain ⟨q, hq⟩ := xE (ks.all fb)
 rw [<- hq]
 have HQ := Za hq
 clear h hF hs hq
 go_enter func88, ntmps88
 go_wp2_with fail
 go_loopw [9] (fun i wx => ∃ j : Nat, i = .int .i64 j /\ j <= ks.length /\ xQ ((ks.take j).all fb = true) /\ xQ (Below w.heap.size w wx)) (fun i _ => ks.length - (intOf i).toNat)
 case atStart => exact ⟨0, rfl, xZ _, show _ = _ by simp, Below.refl _ _⟩
 case round =>
  obtain ⟨j, rfl, hj, Ux, Z8⟩ := hrel;by_cases Zo : j < ks.length
  ·have Qt : (j : Int) < (ks.length : Int) := by omega
   obtain ⟨b, o, k, tx, N, pq, la, ll, lc, rfl, Zt, qc, ht⟩ := zQ HK.o Zo;obtain ⟨r0, r1, r2, r3, r4, r5, r6, r7⟩ := qc.below Zt Z8.o;have Z0 := Zx Z8.o (Zq wr (Up k tx N pq la ll lc));have HC := Za (HF.o n k tx N pq la ll lc _ _ Z0 (HS.o _ (List.getElem_mem Zo)) (Rp ht Z0));have Yx := Za Z0;clear ht Z0;cases Nd : fb ks[j]
   ·rw [Nd] at HC
    obtain rfl : q = false := by rw [HQ.o]; exact xV Zo Nd
    clear Nd;go_wp2_with fail;refine HC.o.mono ?_;rintro e w' ⟨rfl, hb'⟩;have Vr := Za (Zx Yx.o hb');clear hb';go_wp2_with fail;go_ret;exact ⟨rfl, Vr.o⟩
   ·rw [Nd] at HC
    have HA := Za (mW Zo Ux.o Nd);clear Nd;go_wp2_with fail;refine HC.o.mono ?_;rintro e w' ⟨rfl, hb'⟩;have Vr := Za (Zx Yx.o hb');clear hb';go_wp2_with fail;exact ⟨⟨j + 1, by go_num, by omega, HA, Vr⟩, by simp [intOf]; omega⟩
  ·have Qt : ¬ (j : Int) < (ks.length : Int) := by omega
   obtain rfl : q = true := by
    rw [HQ.o];have := Ux.o;rw [List.take_of_length_le (by omega)] at this;exact this
   go_wp2_with fail;go_ret;exact ⟨rfl, Z8.o⟩
theorem vY (k : Nat) (tx : ByteArray) (N : Nat) (pq : PX) (ka : Option Addr) (kl kc : Nat) (w : World) :
  Calls prog 49 #[Jm k tx N pq ka kl kc] w fun e w' => e = .returned (.slice ka kl kc) /\ w' = w.alloc (Up k tx N pq ka kl kc) := by
 go_enter func49, ntmps49
 go_wp2_with fail
 go_ret
 exact ⟨rfl, rfl⟩
theorem fD (n b : Nat) (S : Ty -> Prop) (fb : Ty -> Bool) (ka : Option Addr) (kc : Nat) (ks : List Ty) (w : World) (hx : w.cell? ⟨b, 0, none⟩ = some Fm) (hF : Ek w S fb) (h : Ff w n ka ks) (hl : ks.length <= 140737488351232) (hs : ∀ x ∈ ks, S x) :
  Calls prog 87 #[.slice ka ks.length kc, .pointer (some ⟨b, 0, none⟩)] w fun e w' => e = .returned (.bool (ks.all fb)) /\ Below w.heap.size w w' := by
 have HC := Za (mU n S fb ka kc ks w hF h hl hs)
 clear h hF hs
 generalize ks.all fb = q at HC
 go_enter func87, ntmps87
 go_wp2_with fail
 refine HC.o.mono ?_
 rintro e w' ⟨rfl, hb⟩
 have HB := Za hb
 clear hb
 go_wp2_with fail
 go_ret
 exact ⟨rfl, HB.o⟩
theorem mT (n b : Nat) (S : Ty -> Prop) (fb : Ty -> Bool) (a : Option Addr) (c : Nat) (qs : List (Value × List Ty)) (w : World) (hx : w.cell? ⟨b, 0, none⟩ = some Fm) (hF : Ek w S fb) (hr : Eo w a (qs.map (·.1))) (hq : ∀ q ∈ qs, Bw w true n q.1 q.2) (hl : qs.length <= 140737488351232) (hs : ∀ q ∈ qs, ∀ x ∈ q.2, S x) :
  Calls prog 86 #[.slice a qs.length c, partsN b] w fun e w' => e = .returned (.bool (qs.all fun q => q.2.all fb)) /\ Below w.heap.size w w' := by
 have HR := Za hr
 have HQ := Za hq
 have HS := Za hs
 have HF := Za hF
 have HX := Za hx
 obtain ⟨r, hre⟩ := xE (qs.all fun q => q.2.all fb)
 rw [<- hre]
 have HRE := Za hre
 clear hr hq hs hF hx hre
 go_enter func86, ntmps86
 go_wp2_with fail
 go_loopw [9] (fun i wx => ∃ j : Nat, i = .int .i64 j /\ j <= qs.length /\ xQ (∀ q ∈ qs.take j, q.2.all fb = true) /\ xQ (Below w.heap.size w wx)) (fun i _ => qs.length - (intOf i).toNat)
 case atStart => exact ⟨0, rfl, xZ _, fun q h => by simp at h, Below.refl _ _⟩
 case round =>
  obtain ⟨j, rfl, hj, Ux, Z8⟩ := hrel;by_cases Zo : j < qs.length
  ·have Qt : (j : Int) < (qs.length : Int) := by omega
   have hr0 : ∃ b o, a = some ⟨b, o, none⟩ /\ b < w.heap.size /\ w.cell? ⟨b, o + j, none⟩ = some qs[j].1 := by
    rcases HR.o with h0 | ⟨b, o, e, hb, hc⟩
    ·have := congrArg List.length h0
     rw [List.length_map, List.length_nil] at this;omega
    ·have := hc j (by simpa using Zo)
     rw [List.getElem_map] at this;exact ⟨b, o, e, hb, this⟩
   obtain ⟨b0, o0, rfl, Wk, K9⟩ := hr0;obtain ⟨b1, o1, c1, e1, _, Jd, Rc⟩ := HQ.o qs[j] (List.getElem_mem Zo);rw [e1] at K9;have hcr := (Z8.o.cell (p := ⟨b0, o0 + j, none⟩) Wk).trans K9;have hxr := (Z8.o.cell (p := ⟨b, 0, none⟩) (World.block_lt_of_cell? w _ HX.o)).trans HX.o;have HC := Za (fD n b S fb (some ⟨b1, o1, none⟩) c1 qs[j].2 wr hxr (fun n k tx N pq ka kl kc D wx Xd => HF.o n k tx N pq ka kl kc D wx (Zx Z8.o Xd)) (tC Rc Z8.o) Jd (HS.o _ (List.getElem_mem Zo)))
   clear K9 e1 Jd Rc hxr;cases Nd : qs[j].2.all fb
   ·rw [Nd] at HC
    obtain rfl : r = false := by rw [HRE.o]; exact xV (fb := fun q : Value × List Ty => q.2.all fb) Zo Nd
    clear Nd;go_wp2_with fail;refine HC.o.mono ?_;rintro e w' ⟨rfl, hb'⟩;have Vr := Za (Zx Z8.o hb');clear hb';go_wp2_with fail;go_ret;exact ⟨rfl, Vr.o⟩
   ·rw [Nd] at HC
    have HA : xQ (∀ q ∈ qs.take (j + 1), q.2.all fb = true) := fun q hq => by
     rw [List.take_succ_eq_append_getElem Zo, List.mem_append] at hq;rcases hq with hq | hq
     ·exact Ux.o q hq
     ·rw [List.mem_singleton.1 hq]
      exact Nd
    clear Nd;go_wp2_with fail;refine HC.o.mono ?_;rintro e w' ⟨rfl, hb'⟩;have Vr := Za (Zx Z8.o hb');clear hb';go_wp2_with fail;exact ⟨⟨j + 1, by go_num, by omega, HA, Vr⟩, by simp [intOf]; omega⟩
  ·have Qt : ¬ (j : Int) < (qs.length : Int) := by omega
   obtain rfl : r = true := by
    rw [HRE.o, List.all_eq_true];have := Ux.o;rw [List.take_of_length_le (by omega)] at this;exact this
   go_wp2_with fail;go_ret;exact ⟨rfl, Z8.o⟩
theorem tU (xs : Array Value) (w : World) (a : Addr) (h : xs[0]? = some (.pointer (some a))) : (part 166 xs 0).run prog w = .ok (.pointer (some a)) w := by
 simp [part, isAgg, run_underlying underlying166, h]
theorem sG (d : Nat) (w : World) (a b : Addr) : (Op.equalIn (d + 1) 166 (.pointer (some a)) (.pointer (some b))).run prog w = (sameAddr a b).run prog w := by
 simp [Op.equalIn, run_underlying underlying166]
theorem aM : prog.underlying 168 = some (.struct (prog.fieldsOf 168)) := by kernel_rfl
theorem aN : prog.stoodInHeld 168 = false := by kernel_rfl
theorem sI (d : Nat) {w : World} {a b : Addr} {m l : Nat} (ha : Ks w a) (hb : Ks w b) :
  ∃ r n, (Op.equalIn (d + 2) 168 (Fu a m) (Fu b l)).run prog w = .ok r (w.drewN n) /\ ((a = b /\ m = l) -> r = true) /\ (K4 w a -> K4 w b -> (r = true -> a = b /\ m = l)) := by
 obtain ⟨r, n, h, h1, h2⟩ := sJ (P := prog) ha hb
 unfold Fu
 rw [run_equalIn_struct _ _ _ _ _ aM aN]
 simp only [Program.fieldsOf, underlying168, Op.eqFields, ne_eq]
 simp only [show ¬ ("first" = "_") by decide, show ¬ ("length" = "_") by decide, not_false_eq_true, if_true, Sem.run_bind]
 simp only [tU _ _ a (show (#[Value.pointer (some a), .int .i64 m] : Array Value)[0]? = _ from rfl), tU _ _ b (show (#[Value.pointer (some b), .int .i64 l] : Array Value)[0]? = _ from rfl), Result.andThen_ok, sG, h]
 cases r
 ·refine ⟨false, n, by simp, fun e => ?_, fun _ _ e => by cases e⟩
  exact absurd (h1 e.1) (by decide)
 ·refine ⟨m == l, n, ?_, fun e => by simp [e.2], fun p1 p2 e => ⟨h2 p1 p2 rfl, by simpa using e⟩⟩
  simp [tV _ _ m (show (#[Value.pointer (some a), .int .i64 m] : Array Value)[1]? = _ from rfl), tV _ _ l (show (#[Value.pointer (some b), .int .i64 l] : Array Value)[1]? = _ from rfl), sH]
  by_cases Ly : m = l <;> simp [Ly]
theorem pJ : Sp 168 xC Cr where
 eq w x y hx hy := by
  obtain ⟨a, m, rfl, ha⟩ := hx;obtain ⟨b, l, rfl, hb⟩ := hy;obtain ⟨r, n, h, h1, h2⟩ := sI 9998 (m := m) (l := l) ha hb;refine ⟨r, n, h, fun e => h1 (Ij e), fun p1 p2 e => ?_⟩;obtain ⟨a', m', e1, p1⟩ := p1;obtain ⟨b', l', e2, p2⟩ := p2;obtain ⟨rfl, rfl⟩ := Ij e1;obtain ⟨rfl, rfl⟩ := Ij e2;obtain ⟨rfl, rfl⟩ := h2 p1 p2 e;rfl
 check w em x hx := by
  obtain ⟨a, m, rfl, ha⟩ := hx
  kernel_rfl
 drew w n x hx := hx
 drewP w n x hx := hx
 now w x y hx := by
  obtain ⟨a, m, rfl, ha⟩ := hx;exact ⟨_, underlying168, rfl⟩
theorem kE : (prog.info? 36).map (fun i => (i.zero, i.size, i.bytes)) = some (some (.slice none 0 0), 1, 24) := by kernel_rfl
theorem gS {w0 wr w1 : World} {u : Bool} {n : Nat} {v : Value} {done : List Ty} {ps : List (Value × List Ty)} {vs : List Value} (h : Qy w0 wr u n v done ps vs) (hg : wr.grownBy w1 (some w0.heap.size)) : w1.ownsRow (w0.heap.size + 1) 36 1 v ps.length (ps.map (·.1)) :=
 h.ow.kept hg (.inr fun e => by have := (h.ow.lt _ e).1; omega)
def mR (w : World) (u : Bool) (n : Nat) (Ds : List Ty) (e : Ending) (w' : World) : Prop :=
 ∃ v ps vs, e = .returned v /\ Qy w w' u n v Ds ps vs
theorem rG (u : Bool) (n : Nat) (qs : List (Value × List Ty)) (a : Option Addr) (c : Nat) (w : World) (hr : Eo w a (qs.map (·.1))) (hq : ∀ q ∈ qs, Bw w u (n + 1) q.1 q.2) (ht : Gf (n + 1) qs <= 1000) :
  Calls prog 89 #[.slice a qs.length c, zC] w (mR w u n (qs.map (·.2)).flatten) := by
 have hql : qs.length <= 1000 := Nat.le_trans (I7 hq) ht
 obtain ⟨i0, hi, Wp, Xy, Wr⟩ := info_parts kE
 have hmm := @run_makeMap prog
 have HR := Za hr
 have HQ := Za hq
 have HTT := Za ht
 clear hr hq ht
 go_enter func89, ntmps89
 go_wp2_with fail
 go_loopw [5, 18] (fun v i wr => ∃ (j : Nat) (ps : List (Value × List Ty)) (vs : List Value), i = .int .i64 j /\ j <= qs.length /\ xQ (Qy w wr u n v ((qs.map (·.2)).take j).flatten ps vs)) (fun _ i _ => qs.length - (intOf i).toNat)
 case atStart =>
  refine ⟨0, [], [], rfl, xZ _, ?_⟩;refine ⟨Zq _ _, sQ w, World.ownsRow_nil .., by simp, by simp, by simp, ?_, ?_⟩
  ·simp [Gf]
  ·simp
 case round =>
  obtain ⟨j, ps, vs, rfl, hj, hL⟩ := hrel;by_cases Zo : j < qs.length
  ·have Qt : (j : Int) < (qs.length : Int) := by omega
   have hr0 : ∃ b o, a = some ⟨b, o, none⟩ /\ b < w.heap.size /\ w.cell? ⟨b, o + j, none⟩ = some qs[j].1 := by
    rcases HR.o with h0 | ⟨b, o, e, hb, hc⟩
    ·have := congrArg List.length h0
     rw [List.length_map, List.length_nil] at this;omega
    ·have := hc j (by simpa using Zo)
     rw [List.getElem_map] at this;exact ⟨b, o, e, hb, this⟩
   obtain ⟨b, o, rfl, Z8, K9⟩ := hr0;have Ng := HQ.o qs[j] (List.getElem_mem Zo);obtain ⟨b1, o1, c1, e1, Z3, Jd, Rc⟩ := Ng;have hll' : qs[j].2.length <= 140737488351232 := Jd;rw [e1] at K9;have hcr := (hL.o.bl.cell (p := ⟨b, o + j, none⟩) Z8).trans K9;obtain ⟨Ds, hDs⟩ := xE (qs[j].2);rw [<- hDs] at hcr hll' Rc Z3;have hDM : xQ (Ds = qs[j].2) := hDs;have HK := Za Rc;have Bu := Za Z3;clear K9 e1 Rc Jd hDs Z3
   go_wp2_with fail
   go_loopw [5, 24] (fun v i wr => ∃ (k : Nat) (ps : List (Value × List Ty)) (vs : List Value), i = .int .i64 k /\ k <= Ds.length /\ xQ (Qy w wr u n v (((qs.map (·.2)).take j).flatten ++ Ds.take k) ps vs)) (fun _ i _ => Ds.length - (intOf i).toNat)
   case atStart => exact ⟨0, ps, vs, rfl, xZ _, by simpa using hL⟩
   case round =>
    obtain ⟨k, ps, vs, rfl, hk, hL⟩ := hrel;by_cases hkt : k < Ds.length
    ·have Qh : (k : Int) < (Ds.length : Int) := by omega
     obtain ⟨_, _, k', tx', N', pq', la', ll', lc', e2, hbl1, qc, hty⟩ := zQ HK.o hkt;injection e2 with e2;injection e2 with e3 e4;subst e3 e4;obtain ⟨r0, r1, r2, r3, r4, r5, r6, r7⟩ := qc.below hbl1 hL.o.bl;obtain ⟨ks', e5, e6, _, _, _, _, hkl', Mq⟩ := hty;subst e5;clear qc;by_cases hz : ks' = []
     ·subst hz
      clear HK HR HQ;have hLn := Za (((hL.o.grow (World.grownBy_alloc _ (Up k' tx' N' pq' la' 0 lc') none)).grow (World.grownBy_alloc _ (Up k' tx' N' pq' la' 0 lc') none)).skip (D := Ds[k]) (by rw [e6]; rfl));clear e6 Mq hkl';go_wp2_with fail;refine (vY _ _ _ _ _ _ _ _).mono ?_;rintro e w1 ⟨rfl, rfl⟩;go_wp2_with fail;refine ⟨⟨k + 1, ps, vs, by go_num, by omega, ?_⟩, by simp [intOf]; omega⟩;rw [List.take_succ_eq_append_getElem hkt, <- List.append_assoc]
      exact hLn.o
     ·have hlst : Bw w u n (.slice la' ks'.length lc') (Ms Ds[k]) := by
       rw [e6];rcases Mq with h0 | ⟨b2, o2, rfl, h3⟩
       ·exact absurd h0 hz
       ·exact ⟨b2, o2, lc', rfl, hz, Nat.le_trans hkl' (by decide), .inr ⟨b2, o2, rfl, h3⟩⟩
      obtain ⟨b2, o2, _, e7, hbl2, hgood, hplain, _, _⟩ := hlst.good;injection e7 with e7 e8 e9;subst e7;have hkl2 : ks'.length <= 140737488351232 := Nat.le_trans hkl' (by decide);have P8 : 1 <= ks'.length := List.length_pos_iff.2 hz
      have hzk : ((ks'.length : Int) == 0) = false := by rw [beq_eq_false_iff_ne]; omega
      have HLST := Za hlst;have HGD := Za ((((hgood.below hL.o.bl).below (Zq wr (Up k' tx' N' pq' (some ⟨b2, o2, none⟩) ks'.length lc'))).below (Zq _ (Up k' tx' N' pq' (some ⟨b2, o2, none⟩) ks'.length lc'))).below (Zq _ (.cells #[.pointer (some ⟨b2, o2, none⟩), .int .i64 ks'.length] 168)));have Tx := Za (((hL.o.grow (World.grownBy_alloc _ (Up k' tx' N' pq' (some ⟨b2, o2, none⟩) ks'.length lc') none)).grow (World.grownBy_alloc _ (Up k' tx' N' pq' (some ⟨b2, o2, none⟩) ks'.length lc') none)).grow (World.grownBy_alloc _ (.cells #[.pointer (some ⟨b2, o2, none⟩), .int .i64 ks'.length] 168) none))
      clear e6 e8 e9 Mq hkl' HK HR HQ hlst hgood hplain hz;go_wp2_with fail;refine (vY _ _ _ _ _ _ _ _).mono ?_;rintro e w1 ⟨rfl, rfl⟩
      have Vd : ps.length <= 1000 := by
       have h1 := I7 Tx.o.ls;have h2 := Tx.o.tt
       have h3 : ((((qs.map (·.2)).take j).flatten ++ Ds.take k).map (Qw (n + 1))).sum <= Gf (n + 1) qs := by
        rw [hDM.o];exact lB qs j k Zo
       have := HTT.o;omega
      go_wp2_with (first | (at_lookup; refine eO rfl _ _ 165 rfl pJ underlying165 rT w.heap.size vs rfl Tx.o.st _ rfl ⟨_, _, rfl, HGD.o⟩ Tx.o.goodK ?_; intro r nd Vb Ny; have L9 := Za ((Tx.o.grow (B2 _ nd none)).grow (World.grownBy_alloc _ (.cells #[] 151) none)); have HGD2 := Za ((HGD.o.drew nd).below (Zq _ (.cells #[] 151))); have HYES := Za Ny; clear Vb Ny) | (at_mapUpdate; refine eQ rfl _ _ _ 165 rfl pJ underlying165 w.heap.size vs rfl L9.o.st _ rfl rfl ⟨_, _, rfl, HGD2.o⟩ L9.o.goodK ?_; intro w3 vs' Zb hgr hsub Ux; have Zu := Za Zb; have HGR := Za hgr; have HSUB := Za hsub; have HOW := Za (gS L9.o hgr); have Lz : w.heap.size + 1 <= w3.heap.size := Nat.le_trans L9.o.sz hgr.size; clear Zb hgr hsub Ux) | (at_builtin; refine wpList_append_own _ rfl (.tmp 50) (.tmp 52) 130 rfl (w.heap.size + 1) 36 i0 _ 1 24 underlying130 hi Wp Xy Wr rfl (by decide) _ _ _ rfl (HOW.o.alloc _) ⟨_, 0, none⟩ 1 1 [.slice (some ⟨b2, o2, none⟩) ks'.length lc'] rfl rfl (gI _ _ _) (by simp [Value.oneCell']) (by unfold maxLen; omega) (by omega) (by simp; omega) ?_; intro v' w4 Z1 Zy _; have HOWN := Za Z1; have HGROW := Za Zy; clear Z1 Zy))
      ·have HL5 := Za (L9.o.add (D := Ds[k]) HLST.o Zu.o HGR.o HSUB.o HOWN.o HGROW.o)
       clear Tx HGD HYES L9 HGD2 Zu HGR HSUB HOW HOWN HGROW;refine ⟨⟨k + 1, ps ++ [(.slice (some ⟨b2, o2, none⟩) ks'.length lc', Ms Ds[k])], vs', by go_num, by omega, ?_⟩, by simp [intOf]; omega⟩;rw [List.take_succ_eq_append_getElem hkt, <- List.append_assoc];exact HL5.o
      ·have hr : r = true := by cases r <;> simp_all
       have HL3 := Za (((Tx.o.had (D := Ds[k]) HLST.o (HYES.o hr)).grow (B2 _ nd none)).grow (World.grownBy_alloc _ (.cells #[] 151) none));clear Tx HGD HYES L9 HGD2;refine ⟨⟨k + 1, ps, vs, by go_num, by omega, ?_⟩, by simp [intOf]; omega⟩;rw [List.take_succ_eq_append_getElem hkt, <- List.append_assoc];exact HL3.o
    ·have Qh : ¬ (k : Int) < (Ds.length : Int) := by omega
     clear HK HR HQ;go_wp2_with fail;refine ⟨⟨j + 1, ps, vs, by go_num, by omega, ?_⟩, by simp [intOf]; omega⟩;rw [wZ _ _ (by simpa using Zo), List.getElem_map];have := hL.o;rw [List.take_of_length_le (l := Ds) (by omega), hDM.o] at this;exact this
  ·have Qt : ¬ (j : Int) < (qs.length : Int) := by omega
   clear HR HQ;go_wp2_with fail;go_ret;have := hL.o;rw [List.take_of_length_le (by simp; omega)] at this;exact ⟨_, ps, vs, rfl, this⟩
def Bm (n : Nat) (ps : List (Value × List Ty)) : Nat := Nj (ps.map fun p => Nj (p.2.map (Ud n)))
theorem l5 (n : Nat) (ps : List (Value × List Ty)) : Bm n ps = Nj ((ps.map (·.2)).flatten.map (Ud n)) := by
 apply Nat.le_antisymm
 ·refine E3 fun a ha => ?_
  obtain ⟨p, hp, rfl⟩ := List.mem_map.1 ha
  refine E3 fun x hx => Dq ?_
  obtain ⟨D, hD, rfl⟩ := List.mem_map.1 hx;exact List.mem_map.2 ⟨D, List.mem_flatten.2 ⟨p.2, List.mem_map.2 ⟨p, hp, rfl⟩, hD⟩, rfl⟩
 ·refine E3 fun a ha => ?_
  obtain ⟨D, hD, rfl⟩ := List.mem_map.1 ha;obtain ⟨L, hL, hD⟩ := List.mem_flatten.1 hD;obtain ⟨p, hp, rfl⟩ := List.mem_map.1 hL;exact Nat.le_trans (Dq (List.mem_map.2 ⟨D, hD, rfl⟩)) (Dq (List.mem_map.2 ⟨p, hp, rfl⟩ : Nj (p.2.map (Ud n)) ∈ ps.map fun p => Nj (p.2.map (Ud n))))
theorem rE (n : Nat) (ps : List (Value × List Ty)) : ((ps.map (·.2)).flatten.map (Qw n)).sum = Gf n ps := by
 rw [yJ, List.map_map]
 rfl
end Go.Proofs.YtfoejkhfdiodhaaGreatDoor
