/- Part. -/
import Derived.Test.YtfoejkhfdiodhaaGreatDoorPart22
set_option maxRecDepth 100000
set_option maxHeartbeats 4000000
namespace Go.Proofs.YtfoejkhfdiodhaaGreatDoor
open Go.Proofs.Tryz
open Go.RowKit
attribute [local go_sem ↓] Go.wp_at_zero Go.wp_at_succ
section
variable (ts : List Tok) (K E : Nat -> Pr Ty) (f a : Nat)
def De : Pr Ty := (Zr ts a).go fun s b => if Zh ts b [91] then (Yd ts K [44] f (b + 1)).go fun l b => (Ze ts b [93]).go fun _ b => .inl (Zn 19 s 0 (Yg ts a) (Yf ts a) l [] [], b) else .inl (Zn 4 s 0 (Yg ts a) (Yf ts a) [] [] [], b)
def at7 : Pr Ty := if Zh ts a [123] then G0 ts E f a else De ts K f a
def at6 : Pr Ty := if Zh ts a [40] then (E (a + 1)).go fun x b => (Ze ts b [41]).go fun _ b => .inl (x, b) else at7 ts K E f a
def at5 : Pr Ty := if Zh ts a [112, 114, 105, 110, 116] then (Ze ts (a + 1) [40]).go fun _ b => (E b).go fun x b => (Ze ts b [41]).go fun _ b => .inl (Zn 17 [] 0 (Yg ts a) (Yf ts a) [] [] [x], b) else at6 ts K E f a
def at4 : Pr Ty := if Zh ts a [114, 101, 97, 100] then (Ze ts (a + 1) [40]).go fun _ b => (Ze ts b [41]).go fun _ b => .inl (Zn 18 [] 0 (Yg ts a) (Yf ts a) [] [] [], b) else at5 ts K E f a
def at3 : Pr Ty := if Zh ts a [110, 117, 108, 108] then .inl (Zn 3 [] 0 (Yg ts a) (Yf ts a) [] [] [], a + 1) else at4 ts K E f a
def at2 : Pr Ty := if Zh ts a [102, 97, 108, 115, 101] then .inl (Zn 2 [] 0 (Yg ts a) (Yf ts a) [] [] [], a + 1) else at3 ts K E f a
def at1 : Pr Ty := if Zh ts a [116, 114, 117, 101] then .inl (Zn 2 [] 1 (Yg ts a) (Yf ts a) [] [] [], a + 1) else at2 ts K E f a
end
theorem RX.toNext {pb tb cap d a : Nat} {ts : List Tok} {w0 w : World} {bx : List (Nat × Obj)} (h : RX pb tb cap ts w0 w d (.inl a) bx) (hb : a + 1 < ts.length) : RX pb tb cap ts w0 (w.setCell ⟨pb, 1, none⟩ (.int .i64 ((a : Int) + 1))) d (.inl (a + 1)) bx := by
 obtain ⟨a2, h2⟩ := h.at_
 obtain rfl : a = a2 := h2.live a rfl
 refine ⟨h.st.set 1 _, ⟨a + 1, h2.setAt (b := a + 1) hb⟩, h.hp, fun p hp => ⟨(xH (by show p.1 ≠ pb; have := (h.has p hp).2; have := h.hp; omega)).trans (h.has p hp).1, (h.has p hp).2⟩⟩
theorem dA (pb tb cap d : Nat) (ts : List Tok) (ok : Yh ts) (K E : Nat -> Pr Ty) (f : Nat) (hf : ts.length <= f + 1) (huK : ∀ a x b, K a = .inl (x, b) -> a <= b)
  (hK : ∀ S w, Z2 w pb tb cap ts d S -> Calls prog 77 #[pP pb] w (Pq pb tb cap ts d w (Zj K S)))
  (hE : ∀ S w, Z2 w pb tb cap ts d S -> Calls prog 37 #[pP pb] w (Vh pb tb cap ts d w (Zj E S)))
  (a : Nat)
  (hRec : ∀ li co w, li = Yg ts a -> co = Yf ts a -> Z2 w pb tb cap ts d (.inl (a + 1)) -> Calls prog 173 #[pP pb, (Yc 2 li co).val] w (Vh pb tb cap ts d w (G0 ts E (f + 1) a)))
  (w : World) (h : Z2 w pb tb cap ts d (.inl a)) :
  Calls prog 166 #[pP pb] w (Vh pb tb cap ts d w (Qp ts K E (f + 1) a)) := by
 have OK := Za ok
 have HK := Za hK
 have HE := Za hE
 have HRec := Za hRec
 have X0 := Za (Lc h Zi.obj)
 have hp := h.ltp
 obtain ⟨R, hR⟩ := xE (Qp ts K E (f + 1) a)
 rw [<- hR]
 have HR := Za hR
 clear h hR hRec hE
 go_enter func166, ntmps166
 go_wp2_with fail
 refine (Am pb tb cap d ts (.inl a) 2 _ X0.o.at_).mono ?_
 rintro e w1 ⟨li, co, rfl, Nf, Zb, Zd⟩
 have X1 := Za ((X0.o.step Zb Zd).alloc (Yc 2 li co).obj)
 obtain ⟨hl, hc⟩ := Nf a rfl
 have Xf := Za (And.intro hl hc)
 have Xx := Zb.size
 rw [xS] at Xx
 clear Zb Zd Nf X0 hl hc
 obtain ⟨nb, Wb⟩ := xE w1.heap.size
 rw [<- Wb] at X1 Xx
 obtain ⟨a', ha⟩ := X1.o.at_
 obtain rfl : a = a' := ha.live a rfl
 have Na : (a : Int) < (ts.length : Int) := by have := ha.lt; omega
 have haL := ha.lt
 obtain ⟨t, ht⟩ := xE (Zk ts a)
 have HT := Za ht
 have Xc := ha.ltp
 have Vd := Nat.lt_trans ha.tlt ha.ltp
 have HS : xQ (∀ W, Below (w1.alloc (Yc 2 li co).obj).heap.size (w1.alloc (Yc 2 li co).obj) W -> W.cell? ⟨pb, 0, none⟩ = some (.slice (some ⟨tb, 0, none⟩) ts.length cap) /\ W.cell? ⟨pb, 1, none⟩ = some (.int .i64 a) /\ W.cell? ⟨tb, a * 4, none⟩ = some (.int .i64 t.kind) /\ W.cell? ⟨tb, a * 4 + 1, none⟩ = some (.string ⟨t.text.toArray⟩) /\ W.cell? ⟨tb, a * 4 + 2, none⟩ = some (.int .i64 t.line) /\ W.cell? ⟨tb, a * 4 + 3, none⟩ = some (.int .i64 t.col)) := fun W hW => by
  have h1 := ha.below hW;rw [ht];obtain ⟨q0, q1, q2, q3⟩ := h1.toks a h1.lt;exact ⟨h1.cells.1.1, h1.cells.1.2.1, q0, q1, q2, q3⟩
 have Qf := HS.o (w1.alloc (Yc 2 li co).obj).drew (Below.refl _ _).drew
 have Y7 : xQ (∀ o, _) := fun o => HS.o (((w1.alloc (Yc 2 li co).obj).alloc o).drew) (Zq _ o).drew
 have P2 := Za Wb
 clear ha ht Wb Xc Vd
 go_wp2_with fail
 go_region_held (fun W => W.cell? ⟨pb, 0, none⟩ = some (.slice (some ⟨tb, 0, none⟩) ts.length cap) /\ W.cell? ⟨pb, 1, none⟩ = some (.int .i64 a) /\ W.cell? ⟨tb, a * 4, none⟩ = some (.int .i64 t.kind) /\ W.cell? ⟨tb, a * 4 + 1, none⟩ = some (.string ⟨t.text.toArray⟩) /\ W.cell? ⟨tb, a * 4 + 2, none⟩ = some (.int .i64 t.line) /\ W.cell? ⟨tb, a * 4 + 3, none⟩ = some (.int .i64 t.col)) (first | with_reducible assumption | with_reducible exact Y7.o _) (fail)
 obtain ⟨W2, B3⟩ := xE (((w1.alloc (.cells #[.int .i64 2, .string ⟨#[]⟩, .int .i64 0, .int .i64 li, .int .i64 co, .slice none 0 0, .slice none 0 0, .slice none 0 0] 38)).alloc (.cells #[.int .i64 t.kind, .string ⟨t.text.toArray⟩, .int .i64 t.line, .int .i64 t.col] 81)).drew)
 rw [<- B3]
 have X2 : xQ (RX pb tb cap ts w W2 d (.inl a) [(nb + 1, Zp t), (nb, (Yc 2 li co).obj), (w.heap.size, Zi.obj)]) := by
  have h1 := (X1.o.alloc (Zp t)).drew;rw [xS, <- P2.o] at h1;rw [B3];exact h1
 rw [<- P2.o]
 have hwn : w.heap.size < nb := Xx
 clear B3 HS Y7 Qf X1 P2
 obtain ⟨⟨t0, t1, t2, t3⟩, _, Dn⟩ := Z6 (X2.o.box (p := (nb + 1, Zp t)) (by simp))
 have e0 : W2.cell? ⟨pb, 3, none⟩ = some (.int .i64 0) /\ W2.cell? ⟨pb, 1, none⟩ = some (.int .i64 a) /\ W2.frozen? ⟨pb, 1, none⟩ = false := by
  obtain ⟨a2, h2⟩ := X2.o.at_;obtain rfl : a = a2 := h2.live a rfl;exact ⟨h2.cells.1.2.2.2.1, h2.cells.1.2.1, h2.cells.2.1⟩
 obtain ⟨e0, e1, e2⟩ := e0
 have hpl2 := X2.o.at_.ltp
 cases hk : (t.kind == 3) with
 | true =>
  have Yr : xQ (R = .inl (Zn 0 [] ((Pi t.text).getD 0) (Yg ts a) (Yf ts a) [] [] [], a + 1)) := by
   rw [HR.o, HT.o];rw [HT.o] at hk;exact if_pos hk
  have Jh : a + 1 < ts.length := OK.o.ends a haL (by rw [<- HT.o]; intro h0; rw [h0] at hk; simp at hk)
  have ha9 : a < 8193 := by have := OK.o.len; omega
  have X3 := Za (X2.o.toNext Jh)
  have Jk : (⟨t.text.toArray⟩ : ByteArray).size <= 9223372036854775807 := by have := OK.o.txt a; rw [<- HT.o] at this; show t.text.toArray.size <= _; rw [List.size_toArray]; omega
  obtain ⟨⟨n0, n1, n2, n3, n4, n5, n6, n7⟩, ⟨g0, g1, g2, g3, g4, g5, g6, g7⟩, Y0⟩ := Zm (X2.o.box (p := (nb, (Yc 2 li co).obj)) (by simp));obtain ⟨⟨r0, r1, r2, r3, r4, r5, r6, r7⟩, ⟨f0, f1, f2, f3, f4, f5, f6, f7⟩, Xu⟩ := Zm (X2.o.box (p := (w.heap.size, Zi.obj)) (by simp))
  have Vq : ¬ nb = w.heap.size := by omega
  have Wl : ¬ w.heap.size = nb := by omega
  obtain ⟨v, hv⟩ := xE ((Pi t.text).getD 0);have HV := Za hv
  have hpv : Fz (Pi (⟨t.text.toArray⟩ : ByteArray).data.toList) = .tuple #[.int .i64 v, .bool (Pi t.text).isSome] := by rw [hv]; rfl
  have Hi : ¬ pb = nb := by omega
  have Fr : ¬ nb = pb := by omega
  have Gt : ¬ pb = w.heap.size := by omega
  have H4 : ¬ w.heap.size = pb := by omega
  clear hv;go_wp2_with fail;refine (Lx.parseR_c ⟨t.text.toArray⟩ _ Jk).mono ?_;rintro e w4 ⟨rfl, rfl⟩;rw [hpv];clear hpv;go_wp2_with fail;obtain ⟨W3, hW3⟩ := xE (W2.setCell ⟨pb, 1, none⟩ (.int .i64 ((a : Int) + 1)));rw [<- hW3]
  have X3' : xQ (RX pb tb cap ts w W3 d (.inl (a + 1)) [(nb + 1, Zp t), (nb, (Yc 2 li co).obj), (w.heap.size, Zi.obj)]) := by rw [hW3]; exact X3.o
  clear hW3 X2 X3;obtain ⟨Wf, Zs⟩ := xE ((((((((((W3.setCell ⟨nb, 0, none⟩ (.int .i64 0)).setCell ⟨nb, 2, none⟩ (.int .i64 v)).setCell ⟨w.heap.size, 0, none⟩ (.int .i64 0)).setCell ⟨w.heap.size, 1, none⟩ (.string ⟨#[]⟩)).setCell ⟨w.heap.size, 2, none⟩ (.int .i64 v)).setCell ⟨w.heap.size, 3, none⟩ (.int .i64 li)).setCell ⟨w.heap.size, 4, none⟩ (.int .i64 co)).setCell ⟨w.heap.size, 5, none⟩ (.slice none 0 0)).setCell ⟨w.heap.size, 6, none⟩ (.slice none 0 0)).setCell ⟨w.heap.size, 7, none⟩ (.slice none 0 0))
  rw [<- Zs]
  obtain ⟨Zw, Y6, Ue⟩ : Left pb tb cap ts w d (.inl (a + 1)) w.heap.size nb W3 Wf ⟨0, ⟨#[]⟩, v, li, co, none, 0, 0, none, 0, 0, none, 0, 0⟩ 0 := by rw [Zs]; exact Im (rb := w.heap.size) X3'.o (by simp) (by omega) (by omega) 0 (.int .i64 0) 2 (.int .i64 v) ⟨0, ⟨#[]⟩, v, li, co, none, 0, 0, none, 0, 0, none, 0, 0⟩
  clear Zs;replace Zw := Za Zw;refine Me rfl rfl (Zw.o.box xM) rfl ⟨Zw.o.st, ?_, ⟨0, ⟨#[]⟩, v, li, co, none, 0, 0, none, 0, 0, none, 0, 0⟩, rfl, fun D c e => ?_⟩
  ·rw [Yr.o]; exact Zw.o.at_
  ·rw [Yr.o] at e
   injection e with e;injection e with e _;rw [<- e, <- Xf.o.1, <- Xf.o.2]
   exact by rw [<- HV.o]; exact ⟨1, [], [], [], rfl, ⟨rfl, rfl, rfl⟩, ⟨xZ _, xZ _, xZ _⟩, .inl rfl, .inl rfl, .inl rfl⟩
 | false =>
 cases Lv : (t.kind == 4) with
 | true =>
  have Yr : xQ (R = .inl (Zn 1 t.text 0 (Yg ts a) (Yf ts a) [] [] [], a + 1)) := by
   rw [HR.o, HT.o];rw [HT.o] at hk Lv;unfold Qp;rw [if_neg (by rw [hk]; simp), if_pos Lv];exact rfl
  have Jh : a + 1 < ts.length := OK.o.ends a haL (by rw [<- HT.o]; intro h0; rw [h0] at Lv; simp at Lv)
  have ha9 : a < 8193 := by have := OK.o.len; omega
  have X3 := Za (X2.o.toNext Jh);obtain ⟨⟨n0, n1, n2, n3, n4, n5, n6, n7⟩, ⟨g0, g1, g2, g3, g4, g5, g6, g7⟩, Y0⟩ := Zm (X2.o.box (p := (nb, (Yc 2 li co).obj)) (by simp));obtain ⟨⟨r0, r1, r2, r3, r4, r5, r6, r7⟩, ⟨f0, f1, f2, f3, f4, f5, f6, f7⟩, Xu⟩ := Zm (X2.o.box (p := (w.heap.size, Zi.obj)) (by simp))
  have Vq : ¬ nb = w.heap.size := by omega
  have Wl : ¬ w.heap.size = nb := by omega
  have Hi : ¬ pb = nb := by omega
  have Fr : ¬ nb = pb := by omega
  have Gt : ¬ pb = w.heap.size := by omega
  have H4 : ¬ w.heap.size = pb := by omega
  have Dl : ¬ nb + 1 = pb := by omega
  have hne8 : ¬ nb + 1 = nb := by omega
  go_wp2_with fail;obtain ⟨W3, hW3⟩ := xE (W2.setCell ⟨pb, 1, none⟩ (.int .i64 ((a : Int) + 1)));rw [<- hW3]
  have X3' : xQ (RX pb tb cap ts w W3 d (.inl (a + 1)) [(nb + 1, Zp t), (nb, (Yc 2 li co).obj), (w.heap.size, Zi.obj)]) := by rw [hW3]; exact X3.o
  clear hW3 X2 X3;obtain ⟨Wf, Zs⟩ := xE ((((((((((W3.setCell ⟨nb, 0, none⟩ (.int .i64 1)).setCell ⟨nb, 1, none⟩ (.string ⟨t.text.toArray⟩)).setCell ⟨w.heap.size, 0, none⟩ (.int .i64 1)).setCell ⟨w.heap.size, 1, none⟩ (.string ⟨t.text.toArray⟩)).setCell ⟨w.heap.size, 2, none⟩ (.int .i64 0)).setCell ⟨w.heap.size, 3, none⟩ (.int .i64 li)).setCell ⟨w.heap.size, 4, none⟩ (.int .i64 co)).setCell ⟨w.heap.size, 5, none⟩ (.slice none 0 0)).setCell ⟨w.heap.size, 6, none⟩ (.slice none 0 0)).setCell ⟨w.heap.size, 7, none⟩ (.slice none 0 0))
  rw [<- Zs]
  obtain ⟨Zw, Y6, Ue⟩ : Left pb tb cap ts w d (.inl (a + 1)) w.heap.size nb W3 Wf ⟨1, ⟨t.text.toArray⟩, 0, li, co, none, 0, 0, none, 0, 0, none, 0, 0⟩ 0 := by rw [Zs]; exact Im (rb := w.heap.size) X3'.o (by simp) (by omega) (by omega) 0 (.int .i64 1) 1 (.string ⟨t.text.toArray⟩) ⟨1, ⟨t.text.toArray⟩, 0, li, co, none, 0, 0, none, 0, 0, none, 0, 0⟩
  clear Zs;replace Zw := Za Zw;refine Me rfl rfl (Zw.o.box xM) rfl ⟨Zw.o.st, ?_, ⟨1, ⟨t.text.toArray⟩, 0, li, co, none, 0, 0, none, 0, 0, none, 0, 0⟩, rfl, fun D c e => ?_⟩
  ·rw [Yr.o]; exact Zw.o.at_
  ·rw [Yr.o] at e
   injection e with e;injection e with e _;rw [<- e, <- Xf.o.1, <- Xf.o.2];exact ⟨1, [], [], [], rfl, ⟨rfl, rfl, rfl⟩, ⟨xZ _, xZ _, xZ _⟩, .inl rfl, .inl rfl, .inl rfl⟩
 | false =>
 have Yk : xQ (R = at1 ts K E (f + 1) a) := by
  rw [HR.o];rw [HT.o] at hk Lv;unfold Qp;rw [if_neg (by rw [hk]; simp), if_neg (by rw [Lv]; simp)];rfl
 have Lu := hk
 go_wp2_with fail
 clear hk Lu Lv HR e0 t0 t1 t2 t3
 refine (Wq pb tb cap d ts (.inl a) [116, 114, 117, 101] _ X2.o.at_ OK.o).mono ?_
 rintro e wt ⟨rfl, Zb, Zd⟩
 have X := Za (X2.o.step Zb Zd)
 clear Zb Zd X2
 cases hs : Yw ts (.inl a) [116, 114, 117, 101] with
 | true =>
  rw [hs, if_pos rfl] at X
  have Yr : xQ (R = .inl (Zn 2 [] 1 (Yg ts a) (Yf ts a) [] [] [], a + 1)) := by
   rw [Yk.o];exact if_pos hs
  clear hs Yk;replace X : xQ (RX pb tb cap ts w wt d (.inl (a + 1)) [(nb, (Yc 2 li co).obj), (w.heap.size, Zi.obj)]) := X.o.perm (by simp);obtain ⟨⟨n0, n1, n2, n3, n4, n5, n6, n7⟩, ⟨g0, g1, g2, g3, g4, g5, g6, g7⟩, Y0⟩ := Zm (X.o.box (p := (nb, (Yc 2 li co).obj)) (by simp));obtain ⟨⟨r0, r1, r2, r3, r4, r5, r6, r7⟩, ⟨f0, f1, f2, f3, f4, f5, f6, f7⟩, Xu⟩ := Zm (X.o.box (p := (w.heap.size, Zi.obj)) (by simp))
  have Vq : ¬ nb = w.heap.size := by omega
  have Wl : ¬ w.heap.size = nb := by omega
  go_wp2_with fail;obtain ⟨Wf, Zs⟩ := xE (((((((((wt.setCell ⟨nb, 2, none⟩ (.int .i64 1)).setCell ⟨w.heap.size, 0, none⟩ (.int .i64 2)).setCell ⟨w.heap.size, 1, none⟩ (.string ⟨#[]⟩)).setCell ⟨w.heap.size, 2, none⟩ (.int .i64 1)).setCell ⟨w.heap.size, 3, none⟩ (.int .i64 li)).setCell ⟨w.heap.size, 4, none⟩ (.int .i64 co)).setCell ⟨w.heap.size, 5, none⟩ (.slice none 0 0)).setCell ⟨w.heap.size, 6, none⟩ (.slice none 0 0)).setCell ⟨w.heap.size, 7, none⟩ (.slice none 0 0))
  rw [<- Zs]
  obtain ⟨Zw, Y6, Ue⟩ : Left pb tb cap ts w d (.inl (a + 1)) w.heap.size nb wt Wf ⟨2, ⟨#[]⟩, 1, li, co, none, 0, 0, none, 0, 0, none, 0, 0⟩ 0 := by rw [Zs]; exact B7 (rb := w.heap.size) X.o (by simp) (by omega) (by omega) 2 (.int .i64 1) ⟨2, ⟨#[]⟩, 1, li, co, none, 0, 0, none, 0, 0, none, 0, 0⟩
  clear Zs;replace Zw := Za Zw;refine Me rfl rfl (Zw.o.box xM) rfl ⟨Zw.o.st, ?_, ⟨2, ⟨#[]⟩, 1, li, co, none, 0, 0, none, 0, 0, none, 0, 0⟩, rfl, fun D c e => ?_⟩
  ·rw [Yr.o]; exact Zw.o.at_
  ·rw [Yr.o] at e
   injection e with e;injection e with e _;rw [<- e, <- Xf.o.1, <- Xf.o.2];exact ⟨1, [], [], [], rfl, ⟨rfl, rfl, rfl⟩, ⟨xZ _, xZ _, xZ _⟩, .inl rfl, .inl rfl, .inl rfl⟩
 | false =>
 rw [hs, if_neg (by simp)] at X
 have Zz : xQ (R = at2 ts K E (f + 1) a) := by
  rw [Yk.o];exact if_neg (by rw [show Zh ts a [116, 114, 117, 101] = false from hs]; simp)
 clear hs Yk
 obtain ⟨W10, hW10⟩ := xE wt
 subst hW10
 have X10 := X
 clear X
 go_wp2_with fail
 refine (Wq pb tb cap d ts (.inl a) [102, 97, 108, 115, 101] _ X10.o.at_ OK.o).mono ?_
 rintro e wt ⟨rfl, Zb, Zd⟩
 have X := Za (X10.o.step Zb Zd)
 clear Zb Zd X10
 cases hs : Yw ts (.inl a) [102, 97, 108, 115, 101] with
 | true =>
  rw [hs, if_pos rfl] at X
  have Yr : xQ (R = .inl (Zn 2 [] 0 (Yg ts a) (Yf ts a) [] [] [], a + 1)) := by
   rw [Zz.o];exact if_pos hs
  clear hs Zz;replace X : xQ (RX pb tb cap ts w wt d (.inl (a + 1)) [(nb, (Yc 2 li co).obj), (w.heap.size, Zi.obj)]) := X.o.perm (by simp);obtain ⟨⟨n0, n1, n2, n3, n4, n5, n6, n7⟩, ⟨g0, g1, g2, g3, g4, g5, g6, g7⟩, Y0⟩ := Zm (X.o.box (p := (nb, (Yc 2 li co).obj)) (by simp));obtain ⟨⟨r0, r1, r2, r3, r4, r5, r6, r7⟩, ⟨f0, f1, f2, f3, f4, f5, f6, f7⟩, Xu⟩ := Zm (X.o.box (p := (w.heap.size, Zi.obj)) (by simp))
  have Vq : ¬ nb = w.heap.size := by omega
  have Wl : ¬ w.heap.size = nb := by omega
  go_wp2_with fail;obtain ⟨Wf, Zs⟩ := xE ((((((((wt.setCell ⟨w.heap.size, 0, none⟩ (.int .i64 2)).setCell ⟨w.heap.size, 1, none⟩ (.string ⟨#[]⟩)).setCell ⟨w.heap.size, 2, none⟩ (.int .i64 0)).setCell ⟨w.heap.size, 3, none⟩ (.int .i64 li)).setCell ⟨w.heap.size, 4, none⟩ (.int .i64 co)).setCell ⟨w.heap.size, 5, none⟩ (.slice none 0 0)).setCell ⟨w.heap.size, 6, none⟩ (.slice none 0 0)).setCell ⟨w.heap.size, 7, none⟩ (.slice none 0 0))
  rw [<- Zs]
  obtain ⟨Zw, Y6, Ue⟩ : Left pb tb cap ts w d (.inl (a + 1)) w.heap.size nb wt Wf ⟨2, ⟨#[]⟩, 0, li, co, none, 0, 0, none, 0, 0, none, 0, 0⟩ 0 := by rw [Zs]; exact Dt (rb := w.heap.size) X.o (by simp) nb ⟨2, ⟨#[]⟩, 0, li, co, none, 0, 0, none, 0, 0, none, 0, 0⟩
  clear Zs;replace Zw := Za Zw;refine Me rfl rfl (Zw.o.box xM) rfl ⟨Zw.o.st, ?_, ⟨2, ⟨#[]⟩, 0, li, co, none, 0, 0, none, 0, 0, none, 0, 0⟩, rfl, fun D c e => ?_⟩
  ·rw [Yr.o]; exact Zw.o.at_
  ·rw [Yr.o] at e
   injection e with e;injection e with e _;rw [<- e, <- Xf.o.1, <- Xf.o.2];exact ⟨1, [], [], [], rfl, ⟨rfl, rfl, rfl⟩, ⟨xZ _, xZ _, xZ _⟩, .inl rfl, .inl rfl, .inl rfl⟩
 | false =>
 rw [hs, if_neg (by simp)] at X
 have Yt : xQ (R = at3 ts K E (f + 1) a) := by
  rw [Zz.o];exact if_neg (by rw [show Zh ts a [102, 97, 108, 115, 101] = false from hs]; simp)
 clear hs Zz
 obtain ⟨W11, hW11⟩ := xE wt
 subst hW11
 have X11 := X
 clear X
 go_wp2_with fail
 refine (Wq pb tb cap d ts (.inl a) [110, 117, 108, 108] _ X11.o.at_ OK.o).mono ?_
 rintro e wt ⟨rfl, Zb, Zd⟩
 have X := Za (X11.o.step Zb Zd)
 clear Zb Zd X11
 cases hs : Yw ts (.inl a) [110, 117, 108, 108] with
 | true =>
  rw [hs, if_pos rfl] at X
  have Yr : xQ (R = .inl (Zn 3 [] 0 (Yg ts a) (Yf ts a) [] [] [], a + 1)) := by
   rw [Yt.o];exact if_pos hs
  clear hs Yt;replace X : xQ (RX pb tb cap ts w wt d (.inl (a + 1)) [(nb, (Yc 2 li co).obj), (w.heap.size, Zi.obj)]) := X.o.perm (by simp);obtain ⟨⟨n0, n1, n2, n3, n4, n5, n6, n7⟩, ⟨g0, g1, g2, g3, g4, g5, g6, g7⟩, Y0⟩ := Zm (X.o.box (p := (nb, (Yc 2 li co).obj)) (by simp));obtain ⟨⟨r0, r1, r2, r3, r4, r5, r6, r7⟩, ⟨f0, f1, f2, f3, f4, f5, f6, f7⟩, Xu⟩ := Zm (X.o.box (p := (w.heap.size, Zi.obj)) (by simp))
  have Vq : ¬ nb = w.heap.size := by omega
  have Wl : ¬ w.heap.size = nb := by omega
  go_wp2_with fail;obtain ⟨Wf, Zs⟩ := xE (((((((((wt.setCell ⟨nb, 0, none⟩ (.int .i64 3)).setCell ⟨w.heap.size, 0, none⟩ (.int .i64 3)).setCell ⟨w.heap.size, 1, none⟩ (.string ⟨#[]⟩)).setCell ⟨w.heap.size, 2, none⟩ (.int .i64 0)).setCell ⟨w.heap.size, 3, none⟩ (.int .i64 li)).setCell ⟨w.heap.size, 4, none⟩ (.int .i64 co)).setCell ⟨w.heap.size, 5, none⟩ (.slice none 0 0)).setCell ⟨w.heap.size, 6, none⟩ (.slice none 0 0)).setCell ⟨w.heap.size, 7, none⟩ (.slice none 0 0))
  rw [<- Zs]
  obtain ⟨Zw, Y6, Ue⟩ : Left pb tb cap ts w d (.inl (a + 1)) w.heap.size nb wt Wf ⟨3, ⟨#[]⟩, 0, li, co, none, 0, 0, none, 0, 0, none, 0, 0⟩ 0 := by rw [Zs]; exact B7 (rb := w.heap.size) X.o (by simp) (by omega) (by omega) 0 (.int .i64 3) ⟨3, ⟨#[]⟩, 0, li, co, none, 0, 0, none, 0, 0, none, 0, 0⟩
  clear Zs;replace Zw := Za Zw;refine Me rfl rfl (Zw.o.box xM) rfl ⟨Zw.o.st, ?_, ⟨3, ⟨#[]⟩, 0, li, co, none, 0, 0, none, 0, 0, none, 0, 0⟩, rfl, fun D c e => ?_⟩
  ·rw [Yr.o]; exact Zw.o.at_
  ·rw [Yr.o] at e
   injection e with e;injection e with e _;rw [<- e, <- Xf.o.1, <- Xf.o.2];exact ⟨1, [], [], [], rfl, ⟨rfl, rfl, rfl⟩, ⟨xZ _, xZ _, xZ _⟩, .inl rfl, .inl rfl, .inl rfl⟩
 | false =>
 rw [hs, if_neg (by simp)] at X
 have Xi : xQ (R = at4 ts K E (f + 1) a) := by
  rw [Yt.o];exact if_neg (by rw [show Zh ts a [110, 117, 108, 108] = false from hs]; simp)
 clear hs Yt
 obtain ⟨W12, hW12⟩ := xE wt
 subst hW12
 have X12 := X
 clear X
 go_wp2_with fail
 refine (Wq pb tb cap d ts (.inl a) [114, 101, 97, 100] _ X12.o.at_ OK.o).mono ?_
 rintro e wt ⟨rfl, Zb, Zd⟩
 have X := Za (X12.o.step Zb Zd)
 clear Zb Zd X12
 cases hs : Yw ts (.inl a) [114, 101, 97, 100] with
 | true =>
  rw [hs, if_pos rfl] at X
  have Yr : xQ (R = (Ze ts (a + 1) [40]).go fun _ b => (Ze ts b [41]).go fun _ b => .inl (Zn 18 [] 0 (Yg ts a) (Yf ts a) [] [] [], b)) := by
   rw [Xi.o];exact if_pos hs
  clear hs Xi;replace X : xQ (RX pb tb cap ts w wt d (.inl (a + 1)) [(nb, (Yc 2 li co).obj), (w.heap.size, Zi.obj)]) := X.o.perm (by simp);go_wp2_with fail;refine (Ua pb tb cap d ts (.inl (a + 1)) [40] _ X.o.at_ OK.o).mono ?_;rintro e wu ⟨rfl, Zb, Zd⟩;have X4 := Za (X.o.step Zb Zd);clear Zb Zd X;go_wp2_with fail;refine (Ua pb tb cap d ts _ [41] _ X4.o.at_ OK.o).mono ?_;rintro e wv ⟨rfl, Zb, Zd⟩;have X5 := Za (X4.o.step Zb Zd)
  clear Zb Zd X4
  have Wy : xQ (Zf R = Zf (Zj (fun a => Ze ts a [41]) (Zf (Zj (fun a => Ze ts a [40]) (.inl (a + 1)))))) := by
   show _ = _;rw [Yr.o];show Zf ((Ze ts (a + 1) [40]).go _) = Zf (Zj _ (Zf (Ze ts (a + 1) [40])))
   cases Ze ts (a + 1) [40] with
   | inr p => rfl
   | inl q =>
    show Zf ((Ze ts q.2 [41]).go _) = Zf (Ze ts q.2 [41])
    cases Ze ts q.2 [41] with
    | inr p => rfl
    | inl q => rfl
  have Q8 : xQ (∀ D c, R = .inl (D, c) -> D = Zn 18 [] 0 (Yg ts a) (Yf ts a) [] [] []) := fun D c e => by
   rw [Yr.o] at e
   cases h1 : Ze ts (a + 1) [40] with
   | inr p => rw [h1] at e; cases e
   | inl q =>
    rw [h1] at e;have e2 : (Ze ts q.2 [41]).go (fun _ b => (.inl (Zn 18 [] 0 (Yg ts a) (Yf ts a) [] [] [], b) : Pr Ty)) = .inl (D, c) := e
    cases h2 : Ze ts q.2 [41] with
    | inr p => rw [h2] at e2; cases e2
    | inl q =>
     rw [h2] at e2;injection e2 with e2;injection e2 with e2 _;exact e2.symm
  obtain ⟨S5, hS5⟩ := xE (Zf (Zj (fun a => Ze ts a [41]) (Zf (Zj (fun a => Ze ts a [40]) (.inl (a + 1))))));rw [<- hS5] at X5 Wy;clear hS5;obtain ⟨⟨n0, n1, n2, n3, n4, n5, n6, n7⟩, ⟨g0, g1, g2, g3, g4, g5, g6, g7⟩, Y0⟩ := Zm (X5.o.box (p := (nb, (Yc 2 li co).obj)) (by simp));obtain ⟨⟨r0, r1, r2, r3, r4, r5, r6, r7⟩, ⟨f0, f1, f2, f3, f4, f5, f6, f7⟩, Xu⟩ := Zm (X5.o.box (p := (w.heap.size, Zi.obj)) (by simp))
  have Vq : ¬ nb = w.heap.size := by omega
  have Wl : ¬ w.heap.size = nb := by omega
  go_wp2_with fail;obtain ⟨Wf, Zs⟩ := xE (((((((((wv.setCell ⟨nb, 0, none⟩ (.int .i64 18)).setCell ⟨w.heap.size, 0, none⟩ (.int .i64 18)).setCell ⟨w.heap.size, 1, none⟩ (.string ⟨#[]⟩)).setCell ⟨w.heap.size, 2, none⟩ (.int .i64 0)).setCell ⟨w.heap.size, 3, none⟩ (.int .i64 li)).setCell ⟨w.heap.size, 4, none⟩ (.int .i64 co)).setCell ⟨w.heap.size, 5, none⟩ (.slice none 0 0)).setCell ⟨w.heap.size, 6, none⟩ (.slice none 0 0)).setCell ⟨w.heap.size, 7, none⟩ (.slice none 0 0))
  rw [<- Zs]
  obtain ⟨Zw, Y6, Ue⟩ : Left pb tb cap ts w d S5 w.heap.size nb wv Wf ⟨18, ⟨#[]⟩, 0, li, co, none, 0, 0, none, 0, 0, none, 0, 0⟩ 0 := by rw [Zs]; exact B7 (rb := w.heap.size) X5.o (by simp) (by omega) (by omega) 0 (.int .i64 18) ⟨18, ⟨#[]⟩, 0, li, co, none, 0, 0, none, 0, 0, none, 0, 0⟩
  clear Zs;replace Zw := Za Zw;refine Me rfl rfl (Zw.o.box xM) rfl ⟨Zw.o.st, ?_, ⟨18, ⟨#[]⟩, 0, li, co, none, 0, 0, none, 0, 0, none, 0, 0⟩, rfl, fun D c e => ?_⟩
  ·rw [Wy.o]; exact Zw.o.at_
  ·rw [Q8.o D c e, <- Xf.o.1, <- Xf.o.2]
   exact ⟨1, [], [], [], rfl, ⟨rfl, rfl, rfl⟩, ⟨xZ _, xZ _, xZ _⟩, .inl rfl, .inl rfl, .inl rfl⟩
 | false =>
 rw [hs, if_neg (by simp)] at X
 have Xq : xQ (R = at5 ts K E (f + 1) a) := by
  rw [Xi.o];exact if_neg (by rw [show Zh ts a [114, 101, 97, 100] = false from hs]; simp)
 clear hs Xi
 obtain ⟨W13, hW13⟩ := xE wt
 subst hW13
 have X13 := X
 clear X
 go_wp2_with fail
 refine (Wq pb tb cap d ts (.inl a) [112, 114, 105, 110, 116] _ X13.o.at_ OK.o).mono ?_
 rintro e wt ⟨rfl, Zb, Zd⟩
 have X := Za (X13.o.step Zb Zd)
 clear Zb Zd X13
 cases hs : Yw ts (.inl a) [112, 114, 105, 110, 116] with
 | true =>
  rw [hs, if_pos rfl] at X
  have Yr : xQ (R = (Ze ts (a + 1) [40]).go fun _ b => (E b).go fun x b => (Ze ts b [41]).go fun _ b => .inl (Zn 17 [] 0 (Yg ts a) (Yf ts a) [] [] [x], b)) := by
   rw [Xq.o];exact if_pos hs
  clear hs Xq;replace X : xQ (RX pb tb cap ts w wt d (.inl (a + 1)) [(nb, (Yc 2 li co).obj), (w.heap.size, Zi.obj)]) := X.o.perm (by simp);go_wp2_with fail;refine (Ua pb tb cap d ts (.inl (a + 1)) [40] _ X.o.at_ OK.o).mono ?_;rintro e wu ⟨rfl, Zb, Zd⟩;have X4 := Za (X.o.step Zb Zd);clear Zb Zd X;obtain ⟨S4, Pd⟩ := xE (Zf (Zj (fun a => Ze ts a [40]) (.inl (a + 1))));rw [<- Pd] at X4;have Xp := Za Pd
  clear Pd;go_wp2_with fail;refine (HE.o _ _ X4.o.at_).mono ?_;rintro e wv ⟨Zb, Zd, z, rfl, hv⟩;have X5 := Za ((X4.o.step Zb Zd).alloc z.obj);have Vc := xB (X4.o.box (p := (nb, (Yc 2 li co).obj)) (by simp));have HZ : xQ (Xo (nb + 1) (wv.alloc z.obj) z (Zj E S4)) := (hv.lower Vc).below (Zq _ _);have hs5 := Zb.size;clear Zb Zd hv X4;obtain ⟨R4, hR4⟩ := xE (Zj E S4);rw [<- hR4] at X5 HZ;have Xi := Za hR4
  clear hR4;go_wp2_with fail;obtain ⟨kb, Wv⟩ := xE wv.heap.size;rw [<- Wv] at X5 hs5 ⊢;clear Wv;generalize wv.alloc (.cells #[.int .i64 z.k, .string z.tx, .int .i64 z.N, .int .i64 z.li, .int .i64 z.co, .slice z.ta z.tl z.tc, .slice z.na z.nl z.nc, .slice z.ka z.kl z.kc] 38) = W5 at X5 HZ ⊢
  have hnk : nb < kb := by omega
  refine (Ua pb tb cap d ts (Zf R4) [41] _ X5.o.at_ OK.o).mono ?_;rintro e wy ⟨rfl, Zb, Zd⟩;have X6 := Za (X5.o.step Zb Zd);have HZ6 := Za (HZ.o.stay Zb (by omega));clear Zb Zd X5 HZ
  have Wy : xQ (Zf R = Zf (Zj (fun a => Ze ts a [41]) (Zf R4))) := by
   show _ = _;rw [Yr.o, Xi.o, Xp.o];show Zf ((Ze ts (a + 1) [40]).go _) = Zf (Zj _ (Zf (Zj E (Zf (Ze ts (a + 1) [40])))))
   cases Ze ts (a + 1) [40] with
   | inr p => rfl
   | inl q =>
    show Zf ((E q.2).go _) = Zf (Zj _ (Zf (E q.2)))
    cases E q.2 with
    | inr p => rfl
    | inl q =>
     show Zf ((Ze ts q.2 [41]).go _) = Zf (Ze ts q.2 [41])
     cases Ze ts q.2 [41] with
     | inr p => rfl
     | inl q => rfl
  have Q8 : xQ (∀ D c, R = .inl (D, c) -> ∃ x b, R4 = .inl (x, b) /\ D = Zn 17 [] 0 (Yg ts a) (Yf ts a) [] [] [x]) := fun D c e => by
   rw [Yr.o] at e;rw [Xi.o, Xp.o];show ∃ x b, Zj E (Zf (Ze ts (a + 1) [40])) = _ /\ _
   cases h1 : Ze ts (a + 1) [40] with
   | inr p => rw [h1] at e; cases e
   | inl q =>
    rw [h1] at e;have e2 : (E q.2).go (fun x b => (Ze ts b [41]).go fun _ b => (.inl (Zn 17 [] 0 (Yg ts a) (Yf ts a) [] [] [x], b) : Pr Ty)) = .inl (D, c) := e;show ∃ x b, E q.2 = _ /\ _
    cases h2 : E q.2 with
    | inr p => rw [h2] at e2; cases e2
    | inl r =>
     rw [h2] at e2;have e3 : (Ze ts r.2 [41]).go (fun _ b => (.inl (Zn 17 [] 0 (Yg ts a) (Yf ts a) [] [] [r.1], b) : Pr Ty)) = .inl (D, c) := e2
     cases h3 : Ze ts r.2 [41] with
     | inr p => rw [h3] at e3; cases e3
     | inl q =>
      rw [h3] at e3;injection e3 with e3;injection e3 with e3 _;exact ⟨r.1, r.2, rfl, e3.symm⟩
  obtain ⟨S5, hS5⟩ := xE (Zf (Zj (fun a => Ze ts a [41]) (Zf R4)));rw [<- hS5] at X6 Wy;clear hS5;obtain ⟨⟨z0, z1, z2, z3, z4, z5, z6, z7⟩, _, Qh⟩ := Zm (X6.o.box (p := (kb, z.obj)) (by simp))
  have Gu : ¬ kb = nb := by omega
  obtain ⟨⟨n0, n1, n2, n3, n4, n5, n6, n7⟩, ⟨g0, g1, g2, g3, g4, g5, g6, g7⟩, Y0⟩ := Zm (X6.o.box (p := (nb, (Yc 2 li co).obj)) (by simp));obtain ⟨⟨r0, r1, r2, r3, r4, r5, r6, r7⟩, ⟨f0, f1, f2, f3, f4, f5, f6, f7⟩, Xu⟩ := Zm (X6.o.box (p := (w.heap.size, Zi.obj)) (by simp))
  have Vq : ¬ nb = w.heap.size := by omega
  have Wl : ¬ w.heap.size = nb := by omega
  go_wp2_with fail;obtain ⟨Wf, Zs⟩ := xE (((((((((((wy.setCell ⟨nb, 0, none⟩ (.int .i64 17)).setCell ⟨nb, 7, none⟩ (.slice (some ⟨wy.heap.size, 0, none⟩) 1 1)).setCell ⟨w.heap.size, 0, none⟩ (.int .i64 17)).setCell ⟨w.heap.size, 1, none⟩ (.string ⟨#[]⟩)).setCell ⟨w.heap.size, 2, none⟩ (.int .i64 0)).setCell ⟨w.heap.size, 3, none⟩ (.int .i64 li)).setCell ⟨w.heap.size, 4, none⟩ (.int .i64 co)).setCell ⟨w.heap.size, 5, none⟩ (.slice none 0 0)).setCell ⟨w.heap.size, 6, none⟩ (.slice none 0 0)).setCell ⟨w.heap.size, 7, none⟩ (.slice (some ⟨wy.heap.size, 0, none⟩) 1 1)).alloc (.cells #[.int .i64 z.k, .string z.tx, .int .i64 z.N, .int .i64 z.li, .int .i64 z.co, .slice z.ta z.tl z.tc, .slice z.na z.nl z.nc, .slice z.ka z.kl z.kc] 38))
  rw [<- Zs]
  obtain ⟨Zw, Y6, Ue⟩ : Left pb tb cap ts w d S5 w.heap.size nb wy Wf ⟨17, ⟨#[]⟩, 0, li, co, none, 0, 0, none, 0, 0, (some ⟨wy.heap.size, 0, none⟩), 1, 1⟩ 1 := by rw [Zs]; exact Jl (Im (rb := w.heap.size) X6.o (by simp) (by omega) (by omega) 0 (.int .i64 17) 7 (.slice (some ⟨wy.heap.size, 0, none⟩) 1 1) ⟨17, ⟨#[]⟩, 0, li, co, none, 0, 0, none, 0, 0, (some ⟨wy.heap.size, 0, none⟩), 1, 1⟩) (z.obj)
  have Yu : Wf.heap[wy.heap.size]? = some (z.obj) := by rw [Zs]; exact Ai (Im (rb := w.heap.size) X6.o (by simp) (by omega) (by omega) 0 (.int .i64 17) 7 (.slice (some ⟨wy.heap.size, 0, none⟩) 1 1) ⟨17, ⟨#[]⟩, 0, li, co, none, 0, 0, none, 0, 0, (some ⟨wy.heap.size, 0, none⟩), 1, 1⟩) (z.obj) rfl
  clear Zs;replace Zw := Za Zw;refine Me rfl rfl (Zw.o.box xM) rfl ⟨Zw.o.st, ?_, ⟨17, ⟨#[]⟩, 0, li, co, none, 0, 0, none, 0, 0, (some ⟨wy.heap.size, 0, none⟩), 1, 1⟩, rfl, fun D c e => ?_⟩
  ·rw [Wy.o]; exact Zw.o.at_
  ·obtain ⟨x, b, h1, h2⟩ := Q8.o D c e
   have hz : Yi (w.heap.size + 1) Wf z x := ((HZ6.o x b h1).keep (by omega) fun c h6 h7 => Y6 c (by omega) (by omega) h7).lower (by omega);have := (Nz (kb := wy.heap.size) hz Yu (by omega) ⟨17, ⟨#[]⟩, 0, li, co, none, 0, 0, none, 0, 0, (some ⟨wy.heap.size, 0, none⟩), 1, 1⟩ [] [] ⟨rfl, rfl⟩ ⟨rfl, xZ _, 0, .inl rfl⟩ ⟨rfl, xZ _, .inl rfl⟩).lower (Nat.le_succ _);rw [h2, <- Xf.o.1, <- Xf.o.2];exact this
 | false =>
 rw [hs, if_neg (by simp)] at X
 have Te : xQ (R = at6 ts K E (f + 1) a) := by
  rw [Xq.o];exact if_neg (by rw [show Zh ts a [112, 114, 105, 110, 116] = false from hs]; simp)
 clear hs Xq
 obtain ⟨W14, hW14⟩ := xE wt
 subst hW14
 have X14 := X
 clear X
 go_wp2_with fail
 refine (Wq pb tb cap d ts (.inl a) [40] _ X14.o.at_ OK.o).mono ?_
 rintro e wt ⟨rfl, Zb, Zd⟩
 have X := Za (X14.o.step Zb Zd)
 clear Zb Zd X14
 cases hs : Yw ts (.inl a) [40] with
 | true =>
  rw [hs, if_pos rfl] at X
  have Yr : xQ (R = (E (a + 1)).go fun x b => (Ze ts b [41]).go fun _ b => .inl (x, b)) := by
   rw [Te.o];exact if_pos hs
  clear hs Te;replace X : xQ (RX pb tb cap ts w wt d (.inl (a + 1)) [(nb, (Yc 2 li co).obj), (w.heap.size, Zi.obj)]) := X.o.perm (by simp);go_wp2_with fail;refine (HE.o _ _ X.o.at_).mono ?_;rintro e wv ⟨Zb, Zd, z, rfl, hv⟩;have X5 := Za ((X.o.step Zb Zd).alloc z.obj);have Vc := xB (X.o.box (p := (nb, (Yc 2 li co).obj)) (by simp));have HZ : xQ (Xo (nb + 1) (wv.alloc z.obj) z (E (a + 1))) := (Xo.lower hv Vc).below (Zq _ _)
  have hs5 := Zb.size;clear Zb Zd hv X;have e9 : Zj E (.inl (a + 1)) = E (a + 1) := rfl;rw [e9] at X5;clear e9;go_wp2_with fail;obtain ⟨kb, Wv⟩ := xE wv.heap.size;rw [<- Wv] at X5 hs5 ⊢;clear Wv;generalize wv.alloc (.cells #[.int .i64 z.k, .string z.tx, .int .i64 z.N, .int .i64 z.li, .int .i64 z.co, .slice z.ta z.tl z.tc, .slice z.na z.nl z.nc, .slice z.ka z.kl z.kc] 38) = W5 at X5 HZ ⊢
  have hnk : nb < kb := by omega
  refine (Ua pb tb cap d ts (Zf (E (a + 1))) [41] _ X5.o.at_ OK.o).mono ?_;rintro e wy ⟨rfl, Zb, Zd⟩;have X6 := Za (X5.o.step Zb Zd);have HZ6 := Za (HZ.o.stay Zb (by omega));clear Zb Zd X5 HZ
  have Wy : xQ (Zf R = Zf (Zj (fun a => Ze ts a [41]) (Zf (E (a + 1))))) := by
   show _ = _;rw [Yr.o]
   cases E (a + 1) with
   | inr p => rfl
   | inl q =>
    show Zf ((Ze ts q.2 [41]).go _) = Zf (Ze ts q.2 [41])
    cases Ze ts q.2 [41] with
    | inr p => rfl
    | inl q => rfl
  have Q8 : xQ (∀ D c, R = .inl (D, c) -> ∃ b, E (a + 1) = .inl (D, b)) := fun D c e => by
   rw [Yr.o] at e
   cases h2 : E (a + 1) with
   | inr p => rw [h2] at e; cases e
   | inl r =>
    rw [h2] at e;have e3 : (Ze ts r.2 [41]).go (fun _ b => (.inl (r.1, b) : Pr Ty)) = .inl (D, c) := e
    cases h3 : Ze ts r.2 [41] with
    | inr p => rw [h3] at e3; cases e3
    | inl q =>
     rw [h3] at e3;injection e3 with e3;injection e3 with e3 _;exact ⟨r.2, by rw [<- e3]⟩
  obtain ⟨S5, hS5⟩ := xE (Zf (Zj (fun a => Ze ts a [41]) (Zf (E (a + 1)))));rw [<- hS5] at X6 Wy;clear hS5;obtain ⟨⟨z0, z1, z2, z3, z4, z5, z6, z7⟩, _, Qh⟩ := Zm (X6.o.box (p := (kb, z.obj)) (by simp))
  have Gu : ¬ kb = w.heap.size := by omega
  obtain ⟨⟨n0, n1, n2, n3, n4, n5, n6, n7⟩, ⟨g0, g1, g2, g3, g4, g5, g6, g7⟩, Y0⟩ := Zm (X6.o.box (p := (nb, (Yc 2 li co).obj)) (by simp));obtain ⟨⟨r0, r1, r2, r3, r4, r5, r6, r7⟩, ⟨f0, f1, f2, f3, f4, f5, f6, f7⟩, Xu⟩ := Zm (X6.o.box (p := (w.heap.size, Zi.obj)) (by simp))
  have Vq : ¬ nb = w.heap.size := by omega
  have Wl : ¬ w.heap.size = nb := by omega
  go_wp2_with fail;obtain ⟨Wf, Zs⟩ := xE ((((((((wy.setCell ⟨w.heap.size, 0, none⟩ (.int .i64 z.k)).setCell ⟨w.heap.size, 1, none⟩ (.string z.tx)).setCell ⟨w.heap.size, 2, none⟩ (.int .i64 z.N)).setCell ⟨w.heap.size, 3, none⟩ (.int .i64 z.li)).setCell ⟨w.heap.size, 4, none⟩ (.int .i64 z.co)).setCell ⟨w.heap.size, 5, none⟩ (.slice z.ta z.tl z.tc)).setCell ⟨w.heap.size, 6, none⟩ (.slice z.na z.nl z.nc)).setCell ⟨w.heap.size, 7, none⟩ (.slice z.ka z.kl z.kc))
  rw [<- Zs]
  obtain ⟨Zw, Y6, Ue⟩ : Left pb tb cap ts w d S5 w.heap.size nb wy Wf z 0 := by rw [Zs]; exact Dt (rb := w.heap.size) X6.o (by simp) nb z
  clear Zs;replace Zw := Za Zw;refine Me rfl rfl (Zw.o.box xM) rfl ⟨Zw.o.st, ?_, z, rfl, fun D c e => ?_⟩
  ·rw [Wy.o]; exact Zw.o.at_
  ·obtain ⟨b, h1⟩ := Q8.o D c e
   exact ((HZ6.o D b h1).keep (by omega) fun c h6 h7 => Y6 c (by omega) (by omega) h7).lower (by omega)
 | false =>
 rw [hs, if_neg (by simp)] at X
 have Vs : xQ (R = at7 ts K E (f + 1) a) := by
  rw [Te.o];exact if_neg (by rw [show Zh ts a [40] = false from hs]; simp)
 clear hs Te
 obtain ⟨W15, hW15⟩ := xE wt
 subst hW15
 have X15 := X
 clear X
 go_wp2_with fail
 refine (Wq pb tb cap d ts (.inl a) [123] _ X15.o.at_ OK.o).mono ?_
 rintro e wt ⟨rfl, Zb, Zd⟩
 have X := Za (X15.o.step Zb Zd)
 clear Zb Zd X15
 cases hs : Yw ts (.inl a) [123] with
 | true =>
  rw [hs, if_pos rfl] at X
  have Yr : xQ (R = G0 ts E (f + 1) a) := by
   rw [Vs.o];exact if_pos hs
  clear hs Vs;replace X : xQ (RX pb tb cap ts w wt d (.inl (a + 1)) [(nb, (Yc 2 li co).obj), (w.heap.size, Zi.obj)]) := X.o.perm (by simp);obtain ⟨⟨n0, n1, n2, n3, n4, n5, n6, n7⟩, ⟨g0, g1, g2, g3, g4, g5, g6, g7⟩, Y0⟩ := Zm (X.o.box (p := (nb, (Yc 2 li co).obj)) (by simp))
  have Vq : ¬ nb = w.heap.size := by omega
  have Wl : ¬ w.heap.size = nb := by omega
  have HC := Za (HRec.o li co wt Xf.o.1 Xf.o.2 X.o.at_);rw [<- Yr.o] at HC;go_wp2_with fail;refine HC.o.mono ?_;rintro e wv ⟨Zb, Zd, z, rfl, hv⟩;have X5 := Za (X.o.step Zb Zd);have HZ5 := Za (hv.lower (xB (X.o.box (p := (nb, (Yc 2 li co).obj)) (by simp))));clear Zb Zd hv X n0 n1 n2 n3 n4 n5 n6 n7 g0 g1 g2 g3 g4 g5 g6 g7 Y0 HC;obtain ⟨⟨n0, n1, n2, n3, n4, n5, n6, n7⟩, ⟨g0, g1, g2, g3, g4, g5, g6, g7⟩, Y0⟩ := Zm (X5.o.box (p := (nb, (Yc 2 li co).obj)) (by simp))
  obtain ⟨⟨r0, r1, r2, r3, r4, r5, r6, r7⟩, ⟨f0, f1, f2, f3, f4, f5, f6, f7⟩, Xu⟩ := Zm (X5.o.box (p := (w.heap.size, Zi.obj)) (by simp))
  have Re : ¬ nb = w.heap.size := by omega
  have Rf : ¬ w.heap.size = nb := by omega
  go_wp2_with fail;obtain ⟨Wf, Zs⟩ := xE ((((((((wv.setCell ⟨w.heap.size, 0, none⟩ (.int .i64 z.k)).setCell ⟨w.heap.size, 1, none⟩ (.string z.tx)).setCell ⟨w.heap.size, 2, none⟩ (.int .i64 z.N)).setCell ⟨w.heap.size, 3, none⟩ (.int .i64 z.li)).setCell ⟨w.heap.size, 4, none⟩ (.int .i64 z.co)).setCell ⟨w.heap.size, 5, none⟩ (.slice z.ta z.tl z.tc)).setCell ⟨w.heap.size, 6, none⟩ (.slice z.na z.nl z.nc)).setCell ⟨w.heap.size, 7, none⟩ (.slice z.ka z.kl z.kc))
  rw [<- Zs]
  obtain ⟨Zw, Y6, Ue⟩ : Left pb tb cap ts w d (Zf R) w.heap.size nb wv Wf z 0 := by rw [Zs]; exact Dt (rb := w.heap.size) X5.o (by simp) nb z
  clear Zs;replace Zw := Za Zw;refine Me rfl rfl (Zw.o.box xM) rfl ⟨Zw.o.st, ?_, z, rfl, fun D c e => ?_⟩
  ·exact Zw.o.at_
  ·exact ((HZ5.o D c e).keep (by omega) fun c h6 h7 => Y6 c (by omega) (by omega) h7).lower (by omega)
 | false =>
 rw [hs, if_neg (by simp)] at X
 have Jv : xQ (R = De ts K (f + 1) a) := by
  rw [Vs.o];exact if_neg (by rw [show Zh ts a [123] = false from hs]; simp)
 clear hs Vs
 obtain ⟨W16, hW16⟩ := xE wt
 subst hW16
 have X16 := X
 clear X
 obtain ⟨⟨n0, n1, n2, n3, n4, n5, n6, n7⟩, ⟨g0, g1, g2, g3, g4, g5, g6, g7⟩, Y0⟩ := Zm (X16.o.box (p := (nb, (Yc 2 li co).obj)) (by simp))
 have Vq : ¬ nb = w.heap.size := by omega
 have Wl : ¬ w.heap.size = nb := by omega
 have X17 : xQ (RX pb tb cap ts w (W16.setCell ⟨nb, 0, none⟩ (.int .i64 4)) d (.inl a) [(nb, (Yc 4 li co).obj), (w.heap.size, Zi.obj)]) := RX.setB (X16.o.perm (bx' := [(nb, (Yc 2 li co).obj), (w.heap.size, Zi.obj)]) (by simp)) (by simp; omega) 0 (.int .i64 4)
 go_wp2_with fail
 refine (L3 pb tb cap d ts (.inl a) _ X17.o.at_ OK.o).mono ?_
 rintro e wn ⟨rfl, Zb, Zd⟩
 have X18 := Za (X17.o.step Zb Zd)
 clear Zb Zd X17 X16 n0 n1 n2 n3 n4 n5 n6 n7 g0 g1 g2 g3 g4 g5 g6 g7 Y0
 obtain ⟨RN, hRN⟩ := xE (Zr ts a)
 have e9 : Zj (Zr ts) (.inl a) = RN := hRN.symm
 rw [e9] at X18 ⊢
 have HRN := Za hRN
 obtain ⟨s, hs⟩ := xE (Wm RN)
 rw [<- hs]
 have Jy := Za hs
 clear hs e9 hRN
 obtain ⟨⟨n0, n1, n2, n3, n4, n5, n6, n7⟩, ⟨g0, g1, g2, g3, g4, g5, g6, g7⟩, Y0⟩ := Zm (X18.o.box (p := (nb, (Yc 4 li co).obj)) (by simp))
 have X19 : xQ (RX pb tb cap ts w (wn.setCell ⟨nb, 1, none⟩ (.string ⟨s.toArray⟩)) d (Zf RN) [(nb, NV.obj ⟨4, ⟨s.toArray⟩, 0, li, co, none, 0, 0, none, 0, 0, none, 0, 0⟩), (w.heap.size, Zi.obj)]) := X18.o.setB (by simp; omega) 1 (.string ⟨s.toArray⟩)
 go_wp2_with fail
 refine (Wq pb tb cap d ts (Zf RN) [91] _ X19.o.at_ OK.o).mono ?_
 rintro e wt ⟨rfl, Zb, Zd⟩
 have X := Za (X19.o.step Zb Zd)
 clear Zb Zd X18 X19 n0 n1 n2 n3 n4 n5 n6 n7 g0 g1 g2 g3 g4 g5 g6 g7 Y0
 cases hs : Yw ts (Zf RN) [91] with
 | false =>
  rw [hs, if_neg (by simp)] at X
  have Yr : xQ (R = RN.go fun s b => .inl (Zn 4 s 0 (Yg ts a) (Yf ts a) [] [] [], b)) := by
   rw [Jv.o, HRN.o];rw [HRN.o] at hs;unfold De
   cases h1 : Zr ts a with
   | inr p => rfl
   | inl q =>
    rw [h1] at hs;have h2 : Zh ts q.2 [91] = false := hs;show (if Zh ts q.2 [91] then _ else _) = _;rw [h2];rfl
  clear hs Jv;obtain ⟨⟨n0, n1, n2, n3, n4, n5, n6, n7⟩, ⟨g0, g1, g2, g3, g4, g5, g6, g7⟩, Y0⟩ := Zm (X.o.box (p := (nb, NV.obj ⟨4, ⟨s.toArray⟩, 0, li, co, none, 0, 0, none, 0, 0, none, 0, 0⟩)) (by simp));obtain ⟨⟨r0, r1, r2, r3, r4, r5, r6, r7⟩, ⟨f0, f1, f2, f3, f4, f5, f6, f7⟩, Xu⟩ := Zm (X.o.box (p := (w.heap.size, Zi.obj)) (by simp))
  have Re : ¬ nb = w.heap.size := by omega
  have Rf : ¬ w.heap.size = nb := by omega
  go_wp2_with fail;obtain ⟨Wf, Zs⟩ := xE ((((((((wt.setCell ⟨w.heap.size, 0, none⟩ (.int .i64 4)).setCell ⟨w.heap.size, 1, none⟩ (.string ⟨s.toArray⟩)).setCell ⟨w.heap.size, 2, none⟩ (.int .i64 0)).setCell ⟨w.heap.size, 3, none⟩ (.int .i64 li)).setCell ⟨w.heap.size, 4, none⟩ (.int .i64 co)).setCell ⟨w.heap.size, 5, none⟩ (.slice none 0 0)).setCell ⟨w.heap.size, 6, none⟩ (.slice none 0 0)).setCell ⟨w.heap.size, 7, none⟩ (.slice none 0 0))
  rw [<- Zs]
  obtain ⟨Zw, Y6, Ue⟩ : Left pb tb cap ts w d (Zf RN) w.heap.size nb wt Wf ⟨4, ⟨s.toArray⟩, 0, li, co, none, 0, 0, none, 0, 0, none, 0, 0⟩ 0 := by rw [Zs]; exact Dt (rb := w.heap.size) X.o (by simp) nb ⟨4, ⟨s.toArray⟩, 0, li, co, none, 0, 0, none, 0, 0, none, 0, 0⟩
  clear Zs;replace Zw := Za Zw;refine Me rfl rfl (Zw.o.box xM) rfl ⟨Zw.o.st, ?_, ⟨4, ⟨s.toArray⟩, 0, li, co, none, 0, 0, none, 0, 0, none, 0, 0⟩, rfl, fun D c e => ?_⟩
  ·have := Zw.o.at_
   rw [Yr.o]
   cases h1 : RN with
   | inr p => rw [h1] at this; exact this
   | inl q => rw [h1] at this; exact this
  ·rw [Yr.o] at e
   cases h1 : RN with
   | inr p => rw [h1] at e; cases e
   | inl q =>
    rw [h1] at e;injection e with e;injection e with e _
    have hq : s = q.1 := by rw [Jy.o, h1]; rfl
    rw [<- e, <- hq, <- Xf.o.1, <- Xf.o.2];exact ⟨1, [], [], [], rfl, ⟨rfl, rfl, rfl⟩, ⟨xZ _, xZ _, xZ _⟩, .inl rfl, .inl rfl, .inl rfl⟩
 | true =>
  rw [hs, if_pos rfl] at X
  obtain ⟨s', b, Lr⟩ : ∃ s' b, RN = .inl (s', b) := by
   cases RN with
   | inr p => cases hs
   | inl q => exact ⟨q.1, q.2, rfl⟩
  have hsn : s = s' := by rw [Jy.o, Lr]; rfl
  obtain ⟨RT, hRT⟩ := xE ((Yd ts K [44] (f + 1) (b + 1)).go fun l b => (Ze ts b [93]).go fun _ b => .inl (l, b))
  have Yr : xQ (R = RT.go fun l c => .inl (Zn 19 s 0 (Yg ts a) (Yf ts a) l [] [], c)) := by
   rw [Jv.o, hRT];rw [Lr] at hs;unfold De;rw [<- HRN.o, Lr, hsn];have h2 : Zh ts b [91] = true := hs;show (if Zh ts b [91] then _ else _) = _;rw [if_pos h2]
   cases Yd ts K [44] (f + 1) (b + 1) with
   | inr p => rfl
   | inl q =>
    show (Ze ts q.2 [93]).go _ = ((Ze ts q.2 [93]).go _).go _
    cases Ze ts q.2 [93] with
    | inr p => rfl
    | inl r => rfl
  have e9 : Ph (Zf RN) = .inl (b + 1) := by rw [Lr]; rfl
  rw [e9] at X
  have HTc : xQ (∀ w, Z2 w pb tb cap ts d (.inl (b + 1)) -> Calls prog 174 #[pP pb] w fun e w' => Zl pb w w' /\ Z2 w' pb tb cap ts d (Zf RT) /\ TysP w.heap.size w' RT e) := fun w h => by
   rw [hRT];exact sF pb tb cap d ts OK.o K huK f hf HK.o (.inl (b + 1)) w h
  clear hs Jv e9 hRT hsn Lr;obtain ⟨⟨n0, n1, n2, n3, n4, n5, n6, n7⟩, ⟨g0, g1, g2, g3, g4, g5, g6, g7⟩, Y0⟩ := Zm (X.o.box (p := (nb, NV.obj ⟨4, ⟨s.toArray⟩, 0, li, co, none, 0, 0, none, 0, 0, none, 0, 0⟩)) (by simp))
  have Re : ¬ nb = w.heap.size := by omega
  have Rf : ¬ w.heap.size = nb := by omega
  have X20 : xQ (RX pb tb cap ts w (wt.setCell ⟨nb, 0, none⟩ (.int .i64 19)) d (.inl (b + 1)) [(nb, NV.obj ⟨19, ⟨s.toArray⟩, 0, li, co, none, 0, 0, none, 0, 0, none, 0, 0⟩), (w.heap.size, Zi.obj)]) := X.o.setB (by simp; omega) 0 (.int .i64 19);go_wp2_with fail;refine (HTc.o _ X20.o.at_).mono ?_;rintro e wy ⟨Zb, Zd, av, cv, cs, acc, rfl, Fs, hal2, Pv⟩;have X21 := Za (X20.o.step Zb Zd);have hnw := xB (X20.o.box (p := (nb, NV.obj ⟨19, ⟨s.toArray⟩, 0, li, co, none, 0, 0, none, 0, 0, none, 0, 0⟩)) (by simp))
  have Vp := Za (Fs.lowerB (B' := nb + 1) hnw);have Hx := Za Pv;clear Zb Zd X X20 Fs Pv n0 n1 n2 n3 n4 n5 n6 n7 g0 g1 g2 g3 g4 g5 g6 g7 Y0;obtain ⟨⟨n0, n1, n2, n3, n4, n5, n6, n7⟩, ⟨g0, g1, g2, g3, g4, g5, g6, g7⟩, Y0⟩ := Zm (X21.o.box (p := (nb, NV.obj ⟨19, ⟨s.toArray⟩, 0, li, co, none, 0, 0, none, 0, 0, none, 0, 0⟩)) (by simp));obtain ⟨⟨r0, r1, r2, r3, r4, r5, r6, r7⟩, ⟨f0, f1, f2, f3, f4, f5, f6, f7⟩, Xu⟩ := Zm (X21.o.box (p := (w.heap.size, Zi.obj)) (by simp))
  have hne1c : ¬ nb = w.heap.size := by omega
  have hne2c : ¬ w.heap.size = nb := by omega
  go_wp2_with fail;obtain ⟨Wf, Zs⟩ := xE (((((((((wy.setCell ⟨nb, 5, none⟩ (.slice av acc.length cv)).setCell ⟨w.heap.size, 0, none⟩ (.int .i64 19)).setCell ⟨w.heap.size, 1, none⟩ (.string ⟨s.toArray⟩)).setCell ⟨w.heap.size, 2, none⟩ (.int .i64 0)).setCell ⟨w.heap.size, 3, none⟩ (.int .i64 li)).setCell ⟨w.heap.size, 4, none⟩ (.int .i64 co)).setCell ⟨w.heap.size, 5, none⟩ (.slice av acc.length cv)).setCell ⟨w.heap.size, 6, none⟩ (.slice none 0 0)).setCell ⟨w.heap.size, 7, none⟩ (.slice none 0 0))
  rw [<- Zs]
  obtain ⟨Zw, Y6, Ue⟩ : Left pb tb cap ts w d (Zf RT) w.heap.size nb wy Wf ⟨19, ⟨s.toArray⟩, 0, li, co, av, acc.length, cv, none, 0, 0, none, 0, 0⟩ 0 := by rw [Zs]; exact B7 (rb := w.heap.size) X21.o (by simp) (by omega) (by omega) 5 (.slice av acc.length cv) ⟨19, ⟨s.toArray⟩, 0, li, co, av, acc.length, cv, none, 0, 0, none, 0, 0⟩
  clear Zs;replace Zw := Za Zw;refine Me rfl rfl (Zw.o.box xM) rfl ⟨Zw.o.st, ?_, ⟨19, ⟨s.toArray⟩, 0, li, co, av, acc.length, cv, none, 0, 0, none, 0, 0⟩, rfl, fun D c e => ?_⟩
  ·have := Zw.o.at_
   rw [Yr.o]
   cases h1 : RT with
   | inr p => rw [h1] at this; exact this
   | inl q => rw [h1] at this; exact this
  ·rw [Yr.o] at e
   cases h1 : RT with
   | inr p => rw [h1] at e; cases e
   | inl q =>
    obtain ⟨l, b2⟩ := q;rw [h1] at e;injection e with e;injection e with e _;have Dj := Hx.o l b2 h1;have hr := Vp.o;rw [Dj] at hr;obtain ⟨a2, cap2, m, ea, Yz, hk⟩ := G3 (R0 hr);rw [List.length_map] at ea;injection ea with ea _ _;subst ea
    have Jd : acc.length = l.length := by rw [Dj, List.length_map]
    have Mq : Ut Wf (w.heap.size + 1) m av l := Ae (Ni hk (by omega) fun c h6 h7 => Y6 c (by omega) (by omega) h7) (by omega);rw [<- e, <- Xf.o.1, <- Xf.o.2];exact Yi.lower ⟨m + 1, l, [], [], rfl, ⟨Jd, rfl, rfl⟩, ⟨by omega, xZ _, xZ _⟩, Mq, .inl rfl, .inl rfl⟩ (Nat.le_succ _)
theorem fZ (pb tb cap d : Nat) (ts : List Tok) (ok : Yh ts) (p : Int × Nat × Nat) (w : World) (h : Z2 w pb tb cap ts d (.inr p)) :
  Calls prog 166 #[pP pb] w (Vh pb tb cap ts d w (.inr p)) := by
 have OK := Za ok
 have X0 := Za (Lc h Zi.obj)
 have hp := h.ltp
 clear h
 go_enter func166, ntmps166
 go_wp2_with fail
 refine (Am pb tb cap d ts (.inr p) 2 _ X0.o.at_).mono ?_
 rintro e w1 ⟨li, co, rfl, Nf, Zb, Zd⟩
 have X1 := Za ((X0.o.step Zb Zd).alloc (Yc 2 li co).obj)
 have Xx := Zb.size
 rw [xS] at Xx
 clear Zb Zd Nf X0
 obtain ⟨nb, Wb⟩ := xE w1.heap.size
 rw [<- Wb] at X1 Xx
 obtain ⟨a, ha⟩ := X1.o.at_
 have Na : (a : Int) < (ts.length : Int) := by have := ha.lt; omega
 obtain ⟨t, ht⟩ := xE (Zk ts a)
 have Uo : (p.1 == 0) = false := by have := ha.bad p rfl; simpa using this
 have HA := Za ha
 have HS : xQ (∀ W, Below (w1.alloc (Yc 2 li co).obj).heap.size (w1.alloc (Yc 2 li co).obj) W -> W.cell? ⟨pb, 0, none⟩ = some (.slice (some ⟨tb, 0, none⟩) ts.length cap) /\ W.cell? ⟨pb, 1, none⟩ = some (.int .i64 a) /\ W.cell? ⟨tb, a * 4, none⟩ = some (.int .i64 t.kind) /\ W.cell? ⟨tb, a * 4 + 1, none⟩ = some (.string ⟨t.text.toArray⟩) /\ W.cell? ⟨tb, a * 4 + 2, none⟩ = some (.int .i64 t.line) /\ W.cell? ⟨tb, a * 4 + 3, none⟩ = some (.int .i64 t.col)) := fun W hW => by
  have h1 := ha.below hW;rw [ht];obtain ⟨q0, q1, q2, q3⟩ := h1.toks a h1.lt;exact ⟨h1.cells.1.1, h1.cells.1.2.1, q0, q1, q2, q3⟩
 have Qf := HS.o (w1.alloc (Yc 2 li co).obj).drew (Below.refl _ _).drew
 have Y7 : xQ (∀ o, _) := fun o => HS.o (((w1.alloc (Yc 2 li co).obj).alloc o).drew) (Zq _ o).drew
 have P2 := Za Wb
 clear ha ht Wb
 go_wp2_with fail
 go_region_held (fun W => W.cell? ⟨pb, 0, none⟩ = some (.slice (some ⟨tb, 0, none⟩) ts.length cap) /\ W.cell? ⟨pb, 1, none⟩ = some (.int .i64 a) /\ W.cell? ⟨tb, a * 4, none⟩ = some (.int .i64 t.kind) /\ W.cell? ⟨tb, a * 4 + 1, none⟩ = some (.string ⟨t.text.toArray⟩) /\ W.cell? ⟨tb, a * 4 + 2, none⟩ = some (.int .i64 t.line) /\ W.cell? ⟨tb, a * 4 + 3, none⟩ = some (.int .i64 t.col)) (first | with_reducible assumption | with_reducible exact Y7.o _) (fail)
 obtain ⟨W2, B3⟩ := xE (((w1.alloc (.cells #[.int .i64 2, .string ⟨#[]⟩, .int .i64 0, .int .i64 li, .int .i64 co, .slice none 0 0, .slice none 0 0, .slice none 0 0] 38)).alloc (.cells #[.int .i64 t.kind, .string ⟨t.text.toArray⟩, .int .i64 t.line, .int .i64 t.col] 81)).drew)
 rw [<- B3]
 have X2 : xQ (RX pb tb cap ts w W2 d (.inr p) [(nb + 1, Zp t), (nb, (Yc 2 li co).obj), (w.heap.size, Zi.obj)]) := by
  have h1 := (X1.o.alloc (Zp t)).drew;rw [xS, <- P2.o] at h1;rw [B3];exact h1
 rw [<- P2.o]
 have hwn : w.heap.size < nb := Xx
 clear B3 HS Y7 Qf X1 P2 HA
 obtain ⟨⟨t0, t1, t2, t3⟩, _, Dn⟩ := Z6 (X2.o.box (p := (nb + 1, Zp t)) (by simp))
 have e0 : W2.cell? ⟨pb, 3, none⟩ = some (.int .i64 p.1) := by
  obtain ⟨a2, h2⟩ := X2.o.at_;exact h2.cells.1.2.2.2.1
 have hpl2 := X2.o.at_.ltp
 go_wp2_with fail
 clear e0 t0 t1 t2 t3
 refine (Wq pb tb cap d ts (.inr p) [116, 114, 117, 101] _ X2.o.at_ OK.o).mono ?_
 rintro e W10 ⟨rfl, Zb, Zd⟩
 have X10 : xQ (RX pb tb cap ts w W10 d (.inr p) [(nb + 1, Zp t), (nb, (Yc 2 li co).obj), (w.heap.size, Zi.obj)]) := X2.o.step Zb Zd
 have Xx : Yw ts (.inr p) [116, 114, 117, 101] = false := rfl
 rw [Xx]
 clear Zb Zd X2 Xx
 go_wp2_with fail
 refine (Wq pb tb cap d ts (.inr p) [102, 97, 108, 115, 101] _ X10.o.at_ OK.o).mono ?_
 rintro e W11 ⟨rfl, Zb, Zd⟩
 have X11 : xQ (RX pb tb cap ts w W11 d (.inr p) [(nb + 1, Zp t), (nb, (Yc 2 li co).obj), (w.heap.size, Zi.obj)]) := X10.o.step Zb Zd
 have Wc : Yw ts (.inr p) [102, 97, 108, 115, 101] = false := rfl
 rw [Wc]
 clear Zb Zd X10 Wc
 go_wp2_with fail
 refine (Wq pb tb cap d ts (.inr p) [110, 117, 108, 108] _ X11.o.at_ OK.o).mono ?_
 rintro e W12 ⟨rfl, Zb, Zd⟩
 have X12 : xQ (RX pb tb cap ts w W12 d (.inr p) [(nb + 1, Zp t), (nb, (Yc 2 li co).obj), (w.heap.size, Zi.obj)]) := X11.o.step Zb Zd
 have Lz : Yw ts (.inr p) [110, 117, 108, 108] = false := rfl
 rw [Lz]
 clear Zb Zd X11 Lz
 go_wp2_with fail
 refine (Wq pb tb cap d ts (.inr p) [114, 101, 97, 100] _ X12.o.at_ OK.o).mono ?_
 rintro e W13 ⟨rfl, Zb, Zd⟩
 have X13 : xQ (RX pb tb cap ts w W13 d (.inr p) [(nb + 1, Zp t), (nb, (Yc 2 li co).obj), (w.heap.size, Zi.obj)]) := X12.o.step Zb Zd
 have hs4 : Yw ts (.inr p) [114, 101, 97, 100] = false := rfl
 rw [hs4]
 clear Zb Zd X12 hs4
 go_wp2_with fail
 refine (Wq pb tb cap d ts (.inr p) [112, 114, 105, 110, 116] _ X13.o.at_ OK.o).mono ?_
 rintro e W14 ⟨rfl, Zb, Zd⟩
 have X14 : xQ (RX pb tb cap ts w W14 d (.inr p) [(nb + 1, Zp t), (nb, (Yc 2 li co).obj), (w.heap.size, Zi.obj)]) := X13.o.step Zb Zd
 have hs5 : Yw ts (.inr p) [112, 114, 105, 110, 116] = false := rfl
 rw [hs5]
 clear Zb Zd X13 hs5
 go_wp2_with fail
 refine (Wq pb tb cap d ts (.inr p) [40] _ X14.o.at_ OK.o).mono ?_
 rintro e W15 ⟨rfl, Zb, Zd⟩
 have X15 : xQ (RX pb tb cap ts w W15 d (.inr p) [(nb + 1, Zp t), (nb, (Yc 2 li co).obj), (w.heap.size, Zi.obj)]) := X14.o.step Zb Zd
 have hs6 : Yw ts (.inr p) [40] = false := rfl
 rw [hs6]
 clear Zb Zd X14 hs6
 go_wp2_with fail
 refine (Wq pb tb cap d ts (.inr p) [123] _ X15.o.at_ OK.o).mono ?_
 rintro e W16 ⟨rfl, Zb, Zd⟩
 have X16 : xQ (RX pb tb cap ts w W16 d (.inr p) [(nb + 1, Zp t), (nb, (Yc 2 li co).obj), (w.heap.size, Zi.obj)]) := X15.o.step Zb Zd
 have hs7 : Yw ts (.inr p) [123] = false := rfl
 rw [hs7]
 clear Zb Zd X15 hs7
 obtain ⟨⟨n0, n1, n2, n3, n4, n5, n6, n7⟩, ⟨g0, g1, g2, g3, g4, g5, g6, g7⟩, Y0⟩ := Zm (X16.o.box (p := (nb, (Yc 2 li co).obj)) (by simp))
 have Vq : ¬ nb = w.heap.size := by omega
 have Wl : ¬ w.heap.size = nb := by omega
 have X17 : xQ (RX pb tb cap ts w (W16.setCell ⟨nb, 0, none⟩ (.int .i64 4)) d (.inr p) [(nb, (Yc 4 li co).obj), (w.heap.size, Zi.obj)]) := RX.setB (X16.o.perm (bx' := [(nb, (Yc 2 li co).obj), (w.heap.size, Zi.obj)]) (by simp)) (by simp; omega) 0 (.int .i64 4)
 go_wp2_with fail
 refine (L3 pb tb cap d ts (.inr p) _ X17.o.at_ OK.o).mono ?_
 rintro e wn ⟨rfl, Zb, Zd⟩
 have X18 : xQ (RX pb tb cap ts w wn d (.inr p) [(nb, (Yc 4 li co).obj), (w.heap.size, Zi.obj)]) := X17.o.step Zb Zd
 clear Zb Zd X17 X16 n0 n1 n2 n3 n4 n5 n6 n7 g0 g1 g2 g3 g4 g5 g6 g7 Y0
 obtain ⟨s, hs⟩ := xE (Wm (Zj (Zr ts) (.inr p)))
 rw [<- hs]
 clear hs
 obtain ⟨⟨n0, n1, n2, n3, n4, n5, n6, n7⟩, ⟨g0, g1, g2, g3, g4, g5, g6, g7⟩, Y0⟩ := Zm (X18.o.box (p := (nb, (Yc 4 li co).obj)) (by simp))
 have X19 : xQ (RX pb tb cap ts w (wn.setCell ⟨nb, 1, none⟩ (.string ⟨s.toArray⟩)) d (.inr p) [(nb, NV.obj ⟨4, ⟨s.toArray⟩, 0, li, co, none, 0, 0, none, 0, 0, none, 0, 0⟩), (w.heap.size, Zi.obj)]) := X18.o.setB (by simp; omega) 1 (.string ⟨s.toArray⟩)
 go_wp2_with fail
 refine (Wq pb tb cap d ts (.inr p) [91] _ X19.o.at_ OK.o).mono ?_
 rintro e wt ⟨rfl, Zb, Zd⟩
 have X : xQ (RX pb tb cap ts w wt d (.inr p) [(nb, NV.obj ⟨4, ⟨s.toArray⟩, 0, li, co, none, 0, 0, none, 0, 0, none, 0, 0⟩), (w.heap.size, Zi.obj)]) := X19.o.step Zb Zd
 have hs9 : Yw ts (.inr p) [91] = false := rfl
 rw [hs9]
 clear Zb Zd X18 X19 n0 n1 n2 n3 n4 n5 n6 n7 g0 g1 g2 g3 g4 g5 g6 g7 Y0 hs9
 obtain ⟨⟨n0, n1, n2, n3, n4, n5, n6, n7⟩, ⟨g0, g1, g2, g3, g4, g5, g6, g7⟩, Y0⟩ := Zm (X.o.box (p := (nb, NV.obj ⟨4, ⟨s.toArray⟩, 0, li, co, none, 0, 0, none, 0, 0, none, 0, 0⟩)) (by simp))
 obtain ⟨⟨r0, r1, r2, r3, r4, r5, r6, r7⟩, ⟨f0, f1, f2, f3, f4, f5, f6, f7⟩, Xu⟩ := Zm (X.o.box (p := (w.heap.size, Zi.obj)) (by simp))
 have Re : ¬ nb = w.heap.size := by omega
 have Rf : ¬ w.heap.size = nb := by omega
 go_wp2_with fail
 obtain ⟨Wf, Zs⟩ := xE ((((((((wt.setCell ⟨w.heap.size, 0, none⟩ (.int .i64 4)).setCell ⟨w.heap.size, 1, none⟩ (.string ⟨s.toArray⟩)).setCell ⟨w.heap.size, 2, none⟩ (.int .i64 0)).setCell ⟨w.heap.size, 3, none⟩ (.int .i64 li)).setCell ⟨w.heap.size, 4, none⟩ (.int .i64 co)).setCell ⟨w.heap.size, 5, none⟩ (.slice none 0 0)).setCell ⟨w.heap.size, 6, none⟩ (.slice none 0 0)).setCell ⟨w.heap.size, 7, none⟩ (.slice none 0 0))
 rw [<- Zs]
 obtain ⟨Zw, Y6, Ue⟩ : Left pb tb cap ts w d (.inr p) w.heap.size nb wt Wf ⟨4, ⟨s.toArray⟩, 0, li, co, none, 0, 0, none, 0, 0, none, 0, 0⟩ 0 := by rw [Zs]; exact Dt (rb := w.heap.size) X.o (by simp) nb ⟨4, ⟨s.toArray⟩, 0, li, co, none, 0, 0, none, 0, 0, none, 0, 0⟩
 clear Zs
 replace Zw := Za Zw
 refine Me rfl rfl (Zw.o.box xM) rfl ⟨Zw.o.st, ?_, ⟨4, ⟨s.toArray⟩, 0, li, co, none, 0, 0, none, 0, 0, none, 0, 0⟩, rfl, fun D c e => ?_⟩
 ·exact Zw.o.at_
 ·cases e
theorem fY (pb tb cap d : Nat) (ts : List Tok) (ok : Yh ts) (K E : Nat -> Pr Ty) (f : Nat) (hf : ts.length <= f + 1) (huK : ∀ a x b, K a = .inl (x, b) -> a <= b)
  (hK : ∀ S w, Z2 w pb tb cap ts d S -> Calls prog 77 #[pP pb] w (Pq pb tb cap ts d w (Zj K S)))
  (hE : ∀ S w, Z2 w pb tb cap ts d S -> Calls prog 37 #[pP pb] w (Vh pb tb cap ts d w (Zj E S)))
  (hRec : ∀ a li co w, li = Yg ts a -> co = Yf ts a -> Z2 w pb tb cap ts d (.inl (a + 1)) -> Calls prog 173 #[pP pb, (Yc 2 li co).val] w (Vh pb tb cap ts d w (G0 ts E (f + 1) a)))
  (S : Ya) (w : World) (h : Z2 w pb tb cap ts d S) :
  Calls prog 166 #[pP pb] w (Vh pb tb cap ts d w (Zj (Qp ts K E (f + 1)) S)) := by
 cases S with
 | inl a => exact dA pb tb cap d ts ok K E f hf huK hK hE a (hRec a) w h
 | inr p => exact fZ pb tb cap d ts ok p w h
end Go.Proofs.YtfoejkhfdiodhaaGreatDoor
