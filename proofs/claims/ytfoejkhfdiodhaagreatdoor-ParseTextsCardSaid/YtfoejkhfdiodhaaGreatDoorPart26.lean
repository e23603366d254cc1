/- Part. -/
import Derived.Test.YtfoejkhfdiodhaaGreatDoorPart24
set_option maxRecDepth 100000
set_option maxHeartbeats 4000000
namespace Go.Proofs.YtfoejkhfdiodhaaGreatDoor
open Go.Proofs.Tryz
open Go.RowKit
attribute [local go_sem ↓] Go.wp_at_zero Go.wp_at_succ
def NdQ (lo : Nat) (w : World) (c : List Value) (x : Option Ty) : Prop := (∃ y : NV, c = [.int .i64 y.k, .string y.tx, .int .i64 y.N, .int .i64 y.li, .int .i64 y.co, .slice y.ta y.tl y.tc, .slice y.na y.nl y.nc, .slice y.ka y.kl y.kc]) /\ ∀ t, x = some t -> Fg lo w c t
theorem ndQ_of {lo : Nat} {w : World} {y : NV} {R : Pr Ty} (h : Xo lo w y R) : NdQ lo w [.int .i64 y.k, .string y.tx, .int .i64 y.N, .int .i64 y.li, .int .i64 y.co, .slice y.ta y.tl y.tc, .slice y.na y.nl y.nc, .slice y.ka y.kl y.kc] (Vf R) :=
 ⟨⟨y, rfl⟩, fun t e => by
  cases R with
  | inr p => cases e
  | inl q =>
   obtain ⟨x, b⟩ := q;injection e with e;rw [<- e]
   exact uZ (h x b rfl)⟩
theorem dW {B et : Nat} {o : Option Nat} {wx : World} {v : Value} {cs : List (List Value)} {l : List Ty} (h : Ym NdQ B et 8 o wx v cs (l.map some)) : Ym Fg B et 8 o wx v cs l := by
 refine ⟨by rw [h.len, List.length_map], h.each, by have := h.ow; rwa [List.length_map] at this, h.apart, h.olt, fun i h1 h2 => ?_⟩
 obtain ⟨wi, lo, m1, m2⟩ := h.made i h1 (by rw [List.length_map]; exact h2)
 exact ⟨wi, lo, m1.2 _ (by rw [List.getElem_map]), m2⟩
theorem RX.drewN {pb tb cap d : Nat} {ts : List Tok} {w0 w : World} {S : Ya} {bx : List (Nat × Obj)} (h : RX pb tb cap ts w0 w d S bx) (n : Nat) : RX pb tb cap ts w0 (w.drewN n) d S bx :=
 h.step (Zl.of h.at_.ltp (below_drewN (Below.refl _ _) n)) (h.at_.below (below_drewN (Below.refl _ _) n))
section
variable (ts : List Tok) (E : Nat -> Pr Ty) (f a : Nat)
def rcF : Pr Ty := (Yd ts (Tg ts E) [44] f (a + 1)).go fun l b => (Ze ts b [125]).go fun _ b => .inl (Zn 8 [] 0 (Yg ts a) (Yf ts a) [] (l.map (·.1)) (l.map (·.2)), b)
def D4 : Pr Ty := (E (a + 1)).go fun x b => (Ze ts b [119, 105, 116, 104]).go fun _ b => (Zr ts b).go fun s b => (Ze ts b [58]).go fun _ b => (E b).go fun y b => (Ze ts b [125]).go fun _ b => .inl (Zn 10 s 0 (Yg ts a) (Yf ts a) [] [] [x, y], b)
end
theorem zZ {ts : List Tok} {E : Nat -> Pr Ty} {a : Nat} {R R3 R7 : Pr Ty} {R5 : Pr (List UInt8)} {S4 S6 : Ya} (h0 : R = D4 ts E a) (h3 : R3 = Zj E (.inl (a + 1))) (h4 : S4 = Zf (Zj (fun a => Ze ts a [119, 105, 116, 104]) (Zf R3))) (h5 : R5 = Zj (Zr ts) S4) (h6 : S6 = Zf (Zj (fun a => Ze ts a [58]) (Zf R5))) (h7 : R7 = Zj E S6) {S8 : Ya} (h8 : S8 = Zf (Zj (fun a => Ze ts a [125]) (Zf R7))) : Zf R = S8 := by
 rw [h0, h8, h7, h6, h5, h4, h3]
 unfold D4
 refine B1 _ _ (fun S => Zf (Zj (fun a => Ze ts a [125]) (Zf (Zj E (Zf (Zj (fun a => Ze ts a [58]) (Zf (Zj (Zr ts) (Zf (Zj (fun a => Ze ts a [119, 105, 116, 104]) S)))))))))) (fun _ => rfl) fun x b _ => ?_
 refine B1 _ _ (fun S => Zf (Zj (fun a => Ze ts a [125]) (Zf (Zj E (Zf (Zj (fun a => Ze ts a [58]) (Zf (Zj (Zr ts) S)))))))) (fun _ => rfl) fun _ b _ => ?_
 refine B1 _ _ (fun S => Zf (Zj (fun a => Ze ts a [125]) (Zf (Zj E (Zf (Zj (fun a => Ze ts a [58]) S)))))) (fun _ => rfl) fun s b _ => ?_
 refine B1 _ _ (fun S => Zf (Zj (fun a => Ze ts a [125]) (Zf (Zj E S)))) (fun _ => rfl) fun _ b _ => ?_
 refine B1 _ _ (fun S => Zf (Zj (fun a => Ze ts a [125]) S)) (fun _ => rfl) fun y b _ => ?_
 exact Ig (Ze ts b [125]) fun _ => Zn 10 s 0 (Yg ts a) (Yf ts a) [] [] [x, y]
theorem yA {ts : List Tok} {E : Nat -> Pr Ty} {a : Nat} {R R3 R7 : Pr Ty} {R5 : Pr (List UInt8)} {S4 S6 : Ya} (h0 : R = D4 ts E a) (h3 : R3 = Zj E (.inl (a + 1))) (h4 : S4 = Zf (Zj (fun a => Ze ts a [119, 105, 116, 104]) (Zf R3))) (h5 : R5 = Zj (Zr ts) S4) (h6 : S6 = Zf (Zj (fun a => Ze ts a [58]) (Zf R5))) (h7 : R7 = Zj E S6) {D : Ty} {c : Nat} (e : R = .inl (D, c)) : ∃ x b3 s' b5 y b7, R3 = .inl (x, b3) /\ R5 = .inl (s', b5) /\ R7 = .inl (y, b7) /\ D = Zn 10 s' 0 (Yg ts a) (Yf ts a) [] [] [x, y] := by
 rw [h0] at e
 unfold D4 at e
 obtain ⟨x, b3, k3, e⟩ := Pa e
 obtain ⟨_, b4, k4, e⟩ := Pa e
 obtain ⟨s', b5, k5, e⟩ := Pa e
 obtain ⟨_, b6, k6, e⟩ := Pa e
 obtain ⟨y, b7, k7, e⟩ := Pa e
 obtain ⟨_, b8, _, e⟩ := Pa e
 injection e with e
 injection e with e _
 have g3 : R3 = .inl (x, b3) := by rw [h3]; exact k3
 have g4 : S4 = .inl b4 := by rw [h4, g3]; show Zf (Ze ts b3 [119, 105, 116, 104]) = _; rw [k4]; rfl
 have g5 : R5 = .inl (s', b5) := by rw [h5, g4]; exact k5
 have g6 : S6 = .inl b6 := by rw [h6, g5]; show Zf (Ze ts b5 [58]) = _; rw [k6]; rfl
 exact ⟨x, b3, s', b5, y, b7, g3, g5, by rw [h7, g6]; exact k7, e.symm⟩
theorem rrec_c (pb tb cap d : Nat) (ts : List Tok) (ok : Yh ts) (E : Nat -> Pr Ty) (f : Nat) (hf : ts.length <= f + 1) (hu : ∀ a x b, E a = .inl (x, b) -> a <= b)
  (hE : ∀ S w, Z2 w pb tb cap ts d S -> Calls prog 37 #[pP pb] w (Vh pb tb cap ts d w (Zj E S)))
  (a li co : Nat) (w : World) (B5 : li = Yg ts a) (Th : co = Yf ts a) (h : Z2 w pb tb cap ts d (.inl (a + 1))) :
  Calls prog 173 #[pP pb, (Yc 2 li co).val] w (Vh pb tb cap ts d w (G0 ts E (f + 1) a)) := by
 have OK := Za ok
 have HE := Za hE
 have HU := Za hu
 have Xf := Za (And.intro B5 Th)
 have hp := h.ltp
 obtain ⟨R, hR⟩ := xE (G0 ts E (f + 1) a)
 rw [<- hR]
 have HR := Za hR
 have H0 := Za h
 clear h hR hE hu B5 Th
 go_enter func173, ntmps173
 go_wp2_with fail
 obtain ⟨nb, Wb⟩ := xE w.heap.size
 obtain ⟨W0, hW0⟩ := xE ((w.alloc (.cells #[.int .i64 8, .string ⟨#[]⟩, .int .i64 0, .int .i64 li, .int .i64 co, .slice none 0 0, .slice none 0 0, .slice none 0 0] 38)).alloc (.cells #[.int .i64 0, .string ⟨#[]⟩, .int .i64 0, .int .i64 0, .int .i64 0, .slice none 0 0, .slice none 0 0, .slice none 0 0] 38))
 rw [<- hW0, <- Wb]
 have X0 : xQ (RX pb tb cap ts w W0 d (.inl (a + 1)) [(nb, (Yc 8 li co).obj), (nb + 1, Zi.obj)]) := by
  have h1 := (Lc H0.o (Yc 8 li co).obj).alloc Zi.obj;rw [xS, <- Wb] at h1;rw [hW0];exact h1.perm (by simp)
 obtain ⟨rb, hrb⟩ := xE (nb + 1)
 rw [<- hrb] at X0 ⊢
 have hwn : w.heap.size <= nb := by omega
 have hnr : nb < rb := by omega
 have HRB : xQ (rb = w.heap.size + 1) := by rw [hrb, Wb]; exact rfl
 clear Wb hrb hW0 H0
 refine (Wq pb tb cap d ts (.inl (a + 1)) [125] _ X0.o.at_ OK.o).mono ?_
 rintro e wt ⟨rfl, Zb, Zd⟩
 have X := Za (X0.o.step Zb Zd)
 clear Zb Zd X0
 cases hs : Yw ts (.inl (a + 1)) [125] with
 | true =>
  rw [hs, if_pos rfl] at X
  have Yr : xQ (R = .inl (Zn 8 [] 0 (Yg ts a) (Yf ts a) [] [] [], a + 2)) := by
   rw [HR.o];exact if_pos hs
  clear hs HR;obtain ⟨⟨n0, n1, n2, n3, n4, n5, n6, n7⟩, ⟨g0, g1, g2, g3, g4, g5, g6, g7⟩, Y0⟩ := Zm (X.o.box (p := (nb, (Yc 8 li co).obj)) (by simp));obtain ⟨⟨r0, r1, r2, r3, r4, r5, r6, r7⟩, ⟨f0, f1, f2, f3, f4, f5, f6, f7⟩, Xu⟩ := Zm (X.o.box (p := (rb, Zi.obj)) (by simp))
  have Vq : ¬ nb = rb := by omega
  have Wl : ¬ rb = nb := by omega
  go_wp2_with fail;obtain ⟨Wf, Zs⟩ := xE ((((((((wt.setCell ⟨rb, 0, none⟩ (.int .i64 8)).setCell ⟨rb, 1, none⟩ (.string ⟨#[]⟩)).setCell ⟨rb, 2, none⟩ (.int .i64 0)).setCell ⟨rb, 3, none⟩ (.int .i64 li)).setCell ⟨rb, 4, none⟩ (.int .i64 co)).setCell ⟨rb, 5, none⟩ (.slice none 0 0)).setCell ⟨rb, 6, none⟩ (.slice none 0 0)).setCell ⟨rb, 7, none⟩ (.slice none 0 0));rw [<- Zs]
  obtain ⟨Zw, Y6, Ue⟩ : Left pb tb cap ts w d (.inl (a + 2)) rb nb wt Wf ⟨8, ⟨#[]⟩, 0, li, co, none, 0, 0, none, 0, 0, none, 0, 0⟩ 0 := by rw [Zs]; exact Dt (rb := rb) X.o (by simp) nb ⟨8, ⟨#[]⟩, 0, li, co, none, 0, 0, none, 0, 0, none, 0, 0⟩
  clear Zs;replace Zw := Za Zw;refine Me rfl rfl (Zw.o.box xM) rfl ⟨Zw.o.st, ?_, ⟨8, ⟨#[]⟩, 0, li, co, none, 0, 0, none, 0, 0, none, 0, 0⟩, rfl, fun D c e => ?_⟩
  ·rw [Yr.o]; exact Zw.o.at_
  ·rw [Yr.o] at e
   injection e with e;injection e with e _;rw [<- e, <- Xf.o.1, <- Xf.o.2];exact ⟨1, [], [], [], rfl, ⟨rfl, rfl, rfl⟩, ⟨xZ _, xZ _, xZ _⟩, .inl rfl, .inl rfl, .inl rfl⟩
 | false =>
 rw [hs, if_neg (by simp)] at X
 have Zz : xQ (R = if (Zk ts (a + 1)).kind == 1 && ((Zk ts (a + 2)).kind == 5 && (Zk ts (a + 2)).text == [58]) then rcF ts E (f + 1) a else D4 ts E a) := by
  rw [HR.o];exact if_neg (by rw [show Zh ts (a + 1) [125] = false from hs]; simp)
 clear hs HR
 obtain ⟨a', ha⟩ := X.o.at_
 obtain rfl : a + 1 = a' := ha.live (a + 1) rfl
 have Na : ((a + 1 : Nat) : Int) < (ts.length : Int) := by have := ha.lt; omega
 have haL := ha.lt
 obtain ⟨t, ht⟩ := xE (Zk ts (a + 1))
 have HT := Za ht
 have HS : xQ (∀ W, Below wt.heap.size wt W -> W.cell? ⟨pb, 0, none⟩ = some (.slice (some ⟨tb, 0, none⟩) ts.length cap) /\ W.cell? ⟨pb, 1, none⟩ = some (.int .i64 ((a + 1 : Nat) : Int)) /\ W.cell? ⟨tb, (a + 1) * 4, none⟩ = some (.int .i64 t.kind) /\ W.cell? ⟨tb, (a + 1) * 4 + 1, none⟩ = some (.string ⟨t.text.toArray⟩) /\ W.cell? ⟨tb, (a + 1) * 4 + 2, none⟩ = some (.int .i64 t.line) /\ W.cell? ⟨tb, (a + 1) * 4 + 3, none⟩ = some (.int .i64 t.col)) := fun W hW => by
  have h1 := ha.below hW;rw [ht];obtain ⟨q0, q1, q2, q3⟩ := h1.toks (a + 1) h1.lt;exact ⟨h1.cells.1.1, h1.cells.1.2.1, q0, q1, q2, q3⟩
 obtain ⟨a1, ha1⟩ := xE (a + 1)
 rw [<- ha1] at HS Na haL
 have Qf := HS.o wt.drew (Below.refl _ _).drew
 have Y7 : xQ (∀ o, _) := fun o => HS.o ((wt.alloc o).drew) (Zq _ o).drew
 have HA1 := Za ha1
 clear ha ht ha1
 go_wp2_with fail
 go_region_held (fun W => W.cell? ⟨pb, 0, none⟩ = some (.slice (some ⟨tb, 0, none⟩) ts.length cap) /\ W.cell? ⟨pb, 1, none⟩ = some (.int .i64 a1) /\ W.cell? ⟨tb, a1 * 4, none⟩ = some (.int .i64 t.kind) /\ W.cell? ⟨tb, a1 * 4 + 1, none⟩ = some (.string ⟨t.text.toArray⟩) /\ W.cell? ⟨tb, a1 * 4 + 2, none⟩ = some (.int .i64 t.line) /\ W.cell? ⟨tb, a1 * 4 + 3, none⟩ = some (.int .i64 t.col)) (first | with_reducible assumption | with_reducible exact Y7.o _) (fail)
 obtain ⟨W2, B3⟩ := xE ((wt.alloc (.cells #[.int .i64 t.kind, .string ⟨t.text.toArray⟩, .int .i64 t.line, .int .i64 t.col] 81)).drew)
 rw [<- B3]
 obtain ⟨qb, hqb⟩ := xE wt.heap.size
 have X2 : xQ (RX pb tb cap ts w W2 d (.inl (a + 1)) [(qb, Zp t), (nb, (Yc 8 li co).obj), (rb, Zi.obj)]) := by
  rw [B3, hqb];exact (X.o.alloc (Zp t)).drew
 rw [<- hqb]
 have hrq : rb < qb := by have := xB (X.o.box (p := (rb, Zi.obj)) (by simp)); omega
 clear B3 HS Y7 Qf X hqb
 obtain ⟨⟨t0, t1, t2, t3⟩, _, Dn⟩ := Z6 (X2.o.box (p := (qb, Zp t)) (by simp))
 obtain ⟨a2, h2⟩ := X2.o.at_
 obtain rfl : a + 1 = a2 := h2.live (a + 1) rfl
 obtain ⟨⟨c0, c1, c2, c3, c4, c5⟩, _⟩ := h2.cells
 rw [<- HA1.o] at c1
 have c3' : W2.cell? ⟨pb, 3, none⟩ = some (.int .i64 0) := c3
 have Qx : xQ (∀ j, j < ts.length -> W2.cell? ⟨tb, j * 4, none⟩ = some (.int .i64 (Zk ts j).kind) /\ W2.cell? ⟨tb, j * 4 + 1, none⟩ = some (.string ⟨(Zk ts j).text.toArray⟩)) := fun j hj => by
  obtain ⟨q0, q1, _⟩ := h2.toks j hj;exact ⟨q0, q1⟩
 have hpl2 := h2.ltp
 have htl2 := Nat.lt_trans h2.tlt h2.ltp
 clear h2 c2 c3 c4 c5
 have Zv : xQ (RX pb tb cap ts w W2 d (.inl (a + 1)) [(nb, (Yc 8 li co).obj), (rb, Zi.obj)]) := X2.o.perm (by simp)
 cases hk : (t.kind == 1) with
 | false =>
  have Wv : (t.kind != 1) = true := by rw [bne, hk]; rfl
  have Yr : xQ (R = D4 ts E a) := by
   rw [Zz.o];rw [HT.o] at hk;exact if_neg (by rw [hk]; simp)
  clear hk Zz X2 Qx;go_wp2_with fail
  go_quiet (fail)
  have Tq : xQ (RX pb tb cap ts w (W2.drewN nq) d (.inl (a + 1)) [(nb, (Yc 8 li co).obj), (rb, Zi.obj)]) := Zv.o.drewN nq;generalize W2.drewN nq = W3 at Tq ⊢;clear Zv t0 t1 t2 t3 Dn c0 c1 c3' htl2;obtain ⟨⟨n0, n1, n2, n3, n4, n5, n6, n7⟩, ⟨g0, g1, g2, g3, g4, g5, g6, g7⟩, Y0⟩ := Zm (Tq.o.box (p := (nb, (Yc 8 li co).obj)) (by simp))
  have Vq : ¬ nb = rb := by omega
  have Wl : ¬ rb = nb := by omega
  have X3 : xQ (RX pb tb cap ts w (W3.setCell ⟨nb, 0, none⟩ (.int .i64 10)) d (.inl (a + 1)) [(nb, NV.obj ⟨10, ⟨#[]⟩, 0, li, co, none, 0, 0, none, 0, 0, none, 0, 0⟩), (rb, Zi.obj)]) := Tq.o.setB (by simp; omega) 0 (.int .i64 10);go_wp2_with fail;refine (HE.o _ _ X3.o.at_).mono ?_;rintro e wv ⟨Zb, Zd, z, rfl, hv⟩;have X4 := Za ((X3.o.step Zb Zd).alloc z.obj);have Vc := xB (X3.o.box (p := (rb, Zi.obj)) (by simp))
  have Y3 : xQ (Xo (rb + 1) (wv.alloc z.obj) z (Zj E (.inl (a + 1)))) := (Xo.lower hv Vc).below (Zq _ _);have Qj := Zb.size;clear Zb Zd hv X3 Tq n0 n1 n2 n3 n4 n5 n6 n7 g0 g1 g2 g3 g4 g5 g6 g7 Y0;obtain ⟨R3, Qq⟩ := xE (Zj E (.inl (a + 1)));rw [<- Qq] at X4 Y3;have Yt := Za Qq;clear Qq;go_wp2_with fail;obtain ⟨kb, Wv⟩ := xE wv.heap.size;rw [<- Wv] at X4 Qj ⊢;clear Wv;generalize wv.alloc (.cells #[.int .i64 z.k, .string z.tx, .int .i64 z.N, .int .i64 z.li, .int .i64 z.co, .slice z.ta z.tl z.tc, .slice z.na z.nl z.nc, .slice z.ka z.kl z.kc] 38) = W4 at X4 Y3  ⊢
  have hnkb : rb < kb := by omega
  clear Vc Qj;go_wp2_with fail;refine (Ua pb tb cap d ts (Zf R3) [119, 105, 116, 104] _ X4.o.at_ OK.o).mono ?_;rintro e w5 ⟨rfl, Zb, Zd⟩;have X5 := Za (X4.o.step Zb Zd);replace Y3 := Za (Y3.o.stay Zb (by omega));clear Zb Zd X4;obtain ⟨S4, Pd⟩ := xE (Zf (Zj (fun a => Ze ts a [119, 105, 116, 104]) (Zf R3)));rw [<- Pd] at X5;have Xp := Za Pd;clear Pd;go_wp2_with fail;refine (L3 pb tb cap d ts S4 _ X5.o.at_ OK.o).mono ?_
  rintro e w6 ⟨rfl, Zb, Zd⟩;have X6 := Za (X5.o.step Zb Zd);replace Y3 := Za (Y3.o.stay Zb (by omega));clear Zb Zd X5;obtain ⟨R5, M8⟩ := xE (Zj (Zr ts) S4);rw [<- M8] at X6 ⊢;have Xq := Za M8;obtain ⟨s, hs⟩ := xE (Wm R5);rw [<- hs];have Jy := Za hs;clear hs M8;obtain ⟨⟨n0, n1, n2, n3, n4, n5, n6, n7⟩, ⟨g0, g1, g2, g3, g4, g5, g6, g7⟩, Y0⟩ := Zm (X6.o.box (p := (nb, NV.obj ⟨10, ⟨#[]⟩, 0, li, co, none, 0, 0, none, 0, 0, none, 0, 0⟩)) (by simp))
  have X7 : xQ (RX pb tb cap ts w (w6.setCell ⟨nb, 1, none⟩ (.string ⟨s.toArray⟩)) d (Zf R5) [(nb, NV.obj ⟨10, ⟨s.toArray⟩, 0, li, co, none, 0, 0, none, 0, 0, none, 0, 0⟩), (kb, z.obj), (rb, Zi.obj)]) := RX.setB (X6.o.perm (bx' := [(nb, NV.obj ⟨10, ⟨#[]⟩, 0, li, co, none, 0, 0, none, 0, 0, none, 0, 0⟩), (kb, z.obj), (rb, Zi.obj)]) (by simp)) (by simp; omega) 1 (.string ⟨s.toArray⟩);replace Y3 := Za (Xo.stay Y3.o (Ld w6 nb 1 (.string ⟨s.toArray⟩)) (by omega))
  go_wp2_with fail;refine (Ua pb tb cap d ts (Zf R5) [58] _ X7.o.at_ OK.o).mono ?_;rintro e w7 ⟨rfl, Zb, Zd⟩;have X8 := Za (X7.o.step Zb Zd);replace Y3 := Za (Y3.o.stay Zb (by omega));clear Zb Zd X6 X7 n0 n1 n2 n3 n4 n5 n6 n7 g0 g1 g2 g3 g4 g5 g6 g7 Y0;obtain ⟨S6, Pe⟩ := xE (Zf (Zj (fun a => Ze ts a [58]) (Zf R5)));rw [<- Pe] at X8;have M0 := Za Pe;clear Pe;go_wp2_with fail;refine (HE.o _ _ X8.o.at_).mono ?_
  rintro e wv ⟨Zb, Zd, u, rfl, hv⟩;have X9 := Za ((X8.o.step Zb Zd).alloc u.obj);have Vc := xB (X8.o.box (p := (rb, Zi.obj)) (by simp));replace Y3 := Za ((Y3.o.stay Zb (by omega)).below (Zq _ u.obj));have Tf : xQ (Xo (rb + 1) (wv.alloc u.obj) u (Zj E S6)) := (Xo.lower hv Vc).below (Zq _ _);have Qj := Zb.size;clear Zb Zd hv X8;obtain ⟨R7, Pc⟩ := xE (Zj E S6);rw [<- Pc] at X9 Tf;have Vs := Za Pc;clear Pc
  go_wp2_with fail;obtain ⟨mb, Wv⟩ := xE wv.heap.size;rw [<- Wv] at X9 Qj ⊢;clear Wv;generalize wv.alloc (.cells #[.int .i64 u.k, .string u.tx, .int .i64 u.N, .int .i64 u.li, .int .i64 u.co, .slice u.ta u.tl u.tc, .slice u.na u.nl u.nc, .slice u.ka u.kl u.kc] 38) = W9 at X9 Tf Y3 ⊢
  have hnmb : rb < mb := by omega
  clear Vc Qj;go_wp2_with fail;refine (Ua pb tb cap d ts (Zf R7) [125] _ X9.o.at_ OK.o).mono ?_;rintro e w9 ⟨rfl, Zb, Zd⟩;have X10 := Za (X9.o.step Zb Zd);replace Y3 := Za (Y3.o.stay Zb (by omega));replace Tf := Za (Tf.o.stay Zb (by omega));clear Zb Zd X9;obtain ⟨S8, hS8⟩ := xE (Zf (Zj (fun a => Ze ts a [125]) (Zf R7)));rw [<- hS8] at X10;have HS8 := Za hS8;clear hS8;have Wy := Za (zZ Yr.o Yt.o Xp.o Xq.o M0.o Vs.o HS8.o)
  have Q8 := Za (fun D c e => yA (D := D) (c := c) Yr.o Yt.o Xp.o Xq.o M0.o Vs.o e);obtain ⟨⟨z0, z1, z2, z3, z4, z5, z6, z7⟩, _, Qh⟩ := Zm (X10.o.box (p := (kb, z.obj)) (by simp));obtain ⟨⟨u0, u1, u2, u3, u4, u5, u6, u7⟩, _, Ly⟩ := Zm (X10.o.box (p := (mb, u.obj)) (by simp))
  have Gu : ¬ kb = nb := by omega
  have hne8 : ¬ mb = nb := by omega
  have Dl : ¬ kb = rb := by omega
  have H4 : ¬ mb = rb := by omega
  obtain ⟨⟨n0, n1, n2, n3, n4, n5, n6, n7⟩, ⟨g0, g1, g2, g3, g4, g5, g6, g7⟩, Y0⟩ := Zm (X10.o.box (p := (nb, NV.obj ⟨10, ⟨s.toArray⟩, 0, li, co, none, 0, 0, none, 0, 0, none, 0, 0⟩)) (by simp));obtain ⟨⟨r0, r1, r2, r3, r4, r5, r6, r7⟩, ⟨f0, f1, f2, f3, f4, f5, f6, f7⟩, Xu⟩ := Zm (X10.o.box (p := (rb, Zi.obj)) (by simp))
  have Re : ¬ nb = rb := by omega
  have Rf : ¬ rb = nb := by omega
  go_wp2_with fail;obtain ⟨Wf, Zs⟩ := xE ((((((((((w9.setCell ⟨nb, 7, none⟩ (.slice (some ⟨w9.heap.size, 0, none⟩) 2 2)).setCell ⟨rb, 0, none⟩ (.int .i64 10)).setCell ⟨rb, 1, none⟩ (.string ⟨s.toArray⟩)).setCell ⟨rb, 2, none⟩ (.int .i64 0)).setCell ⟨rb, 3, none⟩ (.int .i64 li)).setCell ⟨rb, 4, none⟩ (.int .i64 co)).setCell ⟨rb, 5, none⟩ (.slice none 0 0)).setCell ⟨rb, 6, none⟩ (.slice none 0 0)).setCell ⟨rb, 7, none⟩ (.slice (some ⟨w9.heap.size, 0, none⟩) 2 2)).alloc (.cells #[.int .i64 z.k, .string z.tx, .int .i64 z.N, .int .i64 z.li, .int .i64 z.co, .slice z.ta z.tl z.tc, .slice z.na z.nl z.nc, .slice z.ka z.kl z.kc, .int .i64 u.k, .string u.tx, .int .i64 u.N, .int .i64 u.li, .int .i64 u.co, .slice u.ta u.tl u.tc, .slice u.na u.nl u.nc, .slice u.ka u.kl u.kc] 38))
  rw [<- Zs]
  obtain ⟨Zw, Y6, Ue⟩ : Left pb tb cap ts w d S8 rb nb w9 Wf ⟨10, ⟨s.toArray⟩, 0, li, co, none, 0, 0, none, 0, 0, (some ⟨w9.heap.size, 0, none⟩), 2, 2⟩ 1 := by rw [Zs]; exact Jl (B7 (rb := rb) X10.o (by simp) (by omega) (by omega) 7 (.slice (some ⟨w9.heap.size, 0, none⟩) 2 2) ⟨10, ⟨s.toArray⟩, 0, li, co, none, 0, 0, none, 0, 0, (some ⟨w9.heap.size, 0, none⟩), 2, 2⟩) (Mh z u)
  have Yu : Wf.heap[w9.heap.size]? = some (Mh z u) := by rw [Zs]; exact Ai (B7 (rb := rb) X10.o (by simp) (by omega) (by omega) 7 (.slice (some ⟨w9.heap.size, 0, none⟩) 2 2) ⟨10, ⟨s.toArray⟩, 0, li, co, none, 0, 0, none, 0, 0, (some ⟨w9.heap.size, 0, none⟩), 2, 2⟩) (Mh z u) rfl
  clear Zs;replace Zw := Za Zw;refine Me rfl rfl (Zw.o.box xM) rfl ⟨Zw.o.st, ?_, ⟨10, ⟨s.toArray⟩, 0, li, co, none, 0, 0, none, 0, 0, (some ⟨w9.heap.size, 0, none⟩), 2, 2⟩, rfl, fun D c e => ?_⟩
  ·rw [Wy.o]; exact Zw.o.at_
  ·obtain ⟨x, b3, s', b5, y, b7, h3, h5, h7, hD⟩ := Q8.o D c e
   have hss : s = s' := by rw [Jy.o, h5]; rfl
   have hz : Yi (rb + 1) Wf z x := (Y3.o x b3 h3).keep (by omega) fun c h6 h7 => Y6 c (by omega) (by omega) h7
   have hu : Yi (rb + 1) Wf u y := (Tf.o y b7 h7).keep (by omega) fun c h6 h7 => Y6 c (by omega) (by omega) h7
   have := (Jn (kb := w9.heap.size) hz hu Yu (by omega) ⟨10, ⟨s.toArray⟩, 0, li, co, none, 0, 0, none, 0, 0, (some ⟨w9.heap.size, 0, none⟩), 2, 2⟩ [] [] ⟨rfl, rfl⟩ ⟨rfl, xZ _, 0, .inl rfl⟩ ⟨rfl, xZ _, .inl rfl⟩).lower (show w.heap.size <= rb + 1 by omega);rw [hD, <- hss, <- Xf.o.1, <- Xf.o.2];exact this
 | true =>
  have Wv : (t.kind != 1) = false := by rw [bne, hk]; rfl
  have hn2 : a1 + 1 < ts.length := OK.o.ends a1 haL (by rw [HA1.o, <- HT.o]; intro h0; rw [h0] at hk; simp at hk)
  have hn2' : (a1 : Int) + 1 < (ts.length : Int) := by omega
  have ha9 : a1 < 8193 := by have := OK.o.len; omega
  obtain ⟨q0, q1⟩ := Qx.o (a1 + 1) hn2;obtain ⟨k2, hk2e⟩ := xE ((Zk ts (a1 + 1)).kind)
  obtain ⟨S2, hS2e⟩ : ∃ S2 : ByteArray, S2 = ⟨(Zk ts (a1 + 1)).text.toArray⟩ := ⟨_, rfl⟩
  rw [<- hk2e] at q0;rw [<- hS2e] at q1;have HK2 := Za hk2e;have P3 := Za hS2e
  have e12 : a1 + 1 = a + 2 := by rw [HA1.o]
  have HE12 := Za e12;clear hk2e hS2e e12 Qx
  cases Hf : (k2 == 5) with
  | false =>
   have hk5b : (k2 != 5) = true := by rw [bne, Hf]; rfl
   have Yr : xQ (R = D4 ts E a) := by
    rw [Zz.o];rw [HK2.o, HE12.o] at Hf;exact if_neg (by rw [Hf]; simp)
   clear Hf hk Zz X2;go_wp2_with fail
   go_quiet (fail)
   have Tq : xQ (RX pb tb cap ts w (W2.drewN nq) d (.inl (a + 1)) [(nb, (Yc 8 li co).obj), (rb, Zi.obj)]) := Zv.o.drewN nq;generalize W2.drewN nq = W3 at Tq ⊢;clear Zv t0 t1 t2 t3 Dn c0 c1 c3' htl2 q0 q1;obtain ⟨⟨n0, n1, n2, n3, n4, n5, n6, n7⟩, ⟨g0, g1, g2, g3, g4, g5, g6, g7⟩, Y0⟩ := Zm (Tq.o.box (p := (nb, (Yc 8 li co).obj)) (by simp))
   have Vq : ¬ nb = rb := by omega
   have Wl : ¬ rb = nb := by omega
   have X3 : xQ (RX pb tb cap ts w (W3.setCell ⟨nb, 0, none⟩ (.int .i64 10)) d (.inl (a + 1)) [(nb, NV.obj ⟨10, ⟨#[]⟩, 0, li, co, none, 0, 0, none, 0, 0, none, 0, 0⟩), (rb, Zi.obj)]) := Tq.o.setB (by simp; omega) 0 (.int .i64 10);go_wp2_with fail;refine (HE.o _ _ X3.o.at_).mono ?_;rintro e wv ⟨Zb, Zd, z, rfl, hv⟩;have X4 := Za ((X3.o.step Zb Zd).alloc z.obj);have Vc := xB (X3.o.box (p := (rb, Zi.obj)) (by simp))
   have Y3 : xQ (Xo (rb + 1) (wv.alloc z.obj) z (Zj E (.inl (a + 1)))) := (Xo.lower hv Vc).below (Zq _ _);have Qj := Zb.size;clear Zb Zd hv X3 Tq n0 n1 n2 n3 n4 n5 n6 n7 g0 g1 g2 g3 g4 g5 g6 g7 Y0;obtain ⟨R3, Qq⟩ := xE (Zj E (.inl (a + 1)));rw [<- Qq] at X4 Y3;have Yt := Za Qq;clear Qq;go_wp2_with fail;obtain ⟨kb, Wv⟩ := xE wv.heap.size;rw [<- Wv] at X4 Qj ⊢;clear Wv;generalize wv.alloc (.cells #[.int .i64 z.k, .string z.tx, .int .i64 z.N, .int .i64 z.li, .int .i64 z.co, .slice z.ta z.tl z.tc, .slice z.na z.nl z.nc, .slice z.ka z.kl z.kc] 38) = W4 at X4 Y3  ⊢
   have hnkb : rb < kb := by omega
   clear Vc Qj;go_wp2_with fail;refine (Ua pb tb cap d ts (Zf R3) [119, 105, 116, 104] _ X4.o.at_ OK.o).mono ?_;rintro e w5 ⟨rfl, Zb, Zd⟩;have X5 := Za (X4.o.step Zb Zd);replace Y3 := Za (Y3.o.stay Zb (by omega));clear Zb Zd X4;obtain ⟨S4, Pd⟩ := xE (Zf (Zj (fun a => Ze ts a [119, 105, 116, 104]) (Zf R3)));rw [<- Pd] at X5;have Xp := Za Pd;clear Pd;go_wp2_with fail;refine (L3 pb tb cap d ts S4 _ X5.o.at_ OK.o).mono ?_
   rintro e w6 ⟨rfl, Zb, Zd⟩;have X6 := Za (X5.o.step Zb Zd);replace Y3 := Za (Y3.o.stay Zb (by omega));clear Zb Zd X5;obtain ⟨R5, M8⟩ := xE (Zj (Zr ts) S4);rw [<- M8] at X6 ⊢;have Xq := Za M8;obtain ⟨s, hs⟩ := xE (Wm R5);rw [<- hs];have Jy := Za hs;clear hs M8;obtain ⟨⟨n0, n1, n2, n3, n4, n5, n6, n7⟩, ⟨g0, g1, g2, g3, g4, g5, g6, g7⟩, Y0⟩ := Zm (X6.o.box (p := (nb, NV.obj ⟨10, ⟨#[]⟩, 0, li, co, none, 0, 0, none, 0, 0, none, 0, 0⟩)) (by simp))
   have X7 : xQ (RX pb tb cap ts w (w6.setCell ⟨nb, 1, none⟩ (.string ⟨s.toArray⟩)) d (Zf R5) [(nb, NV.obj ⟨10, ⟨s.toArray⟩, 0, li, co, none, 0, 0, none, 0, 0, none, 0, 0⟩), (kb, z.obj), (rb, Zi.obj)]) := RX.setB (X6.o.perm (bx' := [(nb, NV.obj ⟨10, ⟨#[]⟩, 0, li, co, none, 0, 0, none, 0, 0, none, 0, 0⟩), (kb, z.obj), (rb, Zi.obj)]) (by simp)) (by simp; omega) 1 (.string ⟨s.toArray⟩);replace Y3 := Za (Xo.stay Y3.o (Ld w6 nb 1 (.string ⟨s.toArray⟩)) (by omega))
   go_wp2_with fail;refine (Ua pb tb cap d ts (Zf R5) [58] _ X7.o.at_ OK.o).mono ?_;rintro e w7 ⟨rfl, Zb, Zd⟩;have X8 := Za (X7.o.step Zb Zd);replace Y3 := Za (Y3.o.stay Zb (by omega));clear Zb Zd X6 X7 n0 n1 n2 n3 n4 n5 n6 n7 g0 g1 g2 g3 g4 g5 g6 g7 Y0;obtain ⟨S6, Pe⟩ := xE (Zf (Zj (fun a => Ze ts a [58]) (Zf R5)));rw [<- Pe] at X8;have M0 := Za Pe;clear Pe;go_wp2_with fail;refine (HE.o _ _ X8.o.at_).mono ?_
   rintro e wv ⟨Zb, Zd, u, rfl, hv⟩;have X9 := Za ((X8.o.step Zb Zd).alloc u.obj);have Vc := xB (X8.o.box (p := (rb, Zi.obj)) (by simp));replace Y3 := Za ((Y3.o.stay Zb (by omega)).below (Zq _ u.obj));have Tf : xQ (Xo (rb + 1) (wv.alloc u.obj) u (Zj E S6)) := (Xo.lower hv Vc).below (Zq _ _);have Qj := Zb.size;clear Zb Zd hv X8;obtain ⟨R7, Pc⟩ := xE (Zj E S6);rw [<- Pc] at X9 Tf;have Vs := Za Pc;clear Pc
   go_wp2_with fail;obtain ⟨mb, Wv⟩ := xE wv.heap.size;rw [<- Wv] at X9 Qj ⊢;clear Wv;generalize wv.alloc (.cells #[.int .i64 u.k, .string u.tx, .int .i64 u.N, .int .i64 u.li, .int .i64 u.co, .slice u.ta u.tl u.tc, .slice u.na u.nl u.nc, .slice u.ka u.kl u.kc] 38) = W9 at X9 Tf Y3 ⊢
   have hnmb : rb < mb := by omega
   clear Vc Qj;go_wp2_with fail;refine (Ua pb tb cap d ts (Zf R7) [125] _ X9.o.at_ OK.o).mono ?_;rintro e w9 ⟨rfl, Zb, Zd⟩;have X10 := Za (X9.o.step Zb Zd);replace Y3 := Za (Y3.o.stay Zb (by omega));replace Tf := Za (Tf.o.stay Zb (by omega));clear Zb Zd X9;obtain ⟨S8, hS8⟩ := xE (Zf (Zj (fun a => Ze ts a [125]) (Zf R7)));rw [<- hS8] at X10;have HS8 := Za hS8;clear hS8;have Wy := Za (zZ Yr.o Yt.o Xp.o Xq.o M0.o Vs.o HS8.o)
   have Q8 := Za (fun D c e => yA (D := D) (c := c) Yr.o Yt.o Xp.o Xq.o M0.o Vs.o e);obtain ⟨⟨z0, z1, z2, z3, z4, z5, z6, z7⟩, _, Qh⟩ := Zm (X10.o.box (p := (kb, z.obj)) (by simp));obtain ⟨⟨u0, u1, u2, u3, u4, u5, u6, u7⟩, _, Ly⟩ := Zm (X10.o.box (p := (mb, u.obj)) (by simp))
   have Gu : ¬ kb = nb := by omega
   have hne8 : ¬ mb = nb := by omega
   have Dl : ¬ kb = rb := by omega
   have H4 : ¬ mb = rb := by omega
   obtain ⟨⟨n0, n1, n2, n3, n4, n5, n6, n7⟩, ⟨g0, g1, g2, g3, g4, g5, g6, g7⟩, Y0⟩ := Zm (X10.o.box (p := (nb, NV.obj ⟨10, ⟨s.toArray⟩, 0, li, co, none, 0, 0, none, 0, 0, none, 0, 0⟩)) (by simp));obtain ⟨⟨r0, r1, r2, r3, r4, r5, r6, r7⟩, ⟨f0, f1, f2, f3, f4, f5, f6, f7⟩, Xu⟩ := Zm (X10.o.box (p := (rb, Zi.obj)) (by simp))
   have Re : ¬ nb = rb := by omega
   have Rf : ¬ rb = nb := by omega
   go_wp2_with fail;obtain ⟨Wf, Zs⟩ := xE ((((((((((w9.setCell ⟨nb, 7, none⟩ (.slice (some ⟨w9.heap.size, 0, none⟩) 2 2)).setCell ⟨rb, 0, none⟩ (.int .i64 10)).setCell ⟨rb, 1, none⟩ (.string ⟨s.toArray⟩)).setCell ⟨rb, 2, none⟩ (.int .i64 0)).setCell ⟨rb, 3, none⟩ (.int .i64 li)).setCell ⟨rb, 4, none⟩ (.int .i64 co)).setCell ⟨rb, 5, none⟩ (.slice none 0 0)).setCell ⟨rb, 6, none⟩ (.slice none 0 0)).setCell ⟨rb, 7, none⟩ (.slice (some ⟨w9.heap.size, 0, none⟩) 2 2)).alloc (.cells #[.int .i64 z.k, .string z.tx, .int .i64 z.N, .int .i64 z.li, .int .i64 z.co, .slice z.ta z.tl z.tc, .slice z.na z.nl z.nc, .slice z.ka z.kl z.kc, .int .i64 u.k, .string u.tx, .int .i64 u.N, .int .i64 u.li, .int .i64 u.co, .slice u.ta u.tl u.tc, .slice u.na u.nl u.nc, .slice u.ka u.kl u.kc] 38))
   rw [<- Zs]
   obtain ⟨Zw, Y6, Ue⟩ : Left pb tb cap ts w d S8 rb nb w9 Wf ⟨10, ⟨s.toArray⟩, 0, li, co, none, 0, 0, none, 0, 0, (some ⟨w9.heap.size, 0, none⟩), 2, 2⟩ 1 := by rw [Zs]; exact Jl (B7 (rb := rb) X10.o (by simp) (by omega) (by omega) 7 (.slice (some ⟨w9.heap.size, 0, none⟩) 2 2) ⟨10, ⟨s.toArray⟩, 0, li, co, none, 0, 0, none, 0, 0, (some ⟨w9.heap.size, 0, none⟩), 2, 2⟩) (Mh z u)
   have Yu : Wf.heap[w9.heap.size]? = some (Mh z u) := by rw [Zs]; exact Ai (B7 (rb := rb) X10.o (by simp) (by omega) (by omega) 7 (.slice (some ⟨w9.heap.size, 0, none⟩) 2 2) ⟨10, ⟨s.toArray⟩, 0, li, co, none, 0, 0, none, 0, 0, (some ⟨w9.heap.size, 0, none⟩), 2, 2⟩) (Mh z u) rfl
   clear Zs;replace Zw := Za Zw;refine Me rfl rfl (Zw.o.box xM) rfl ⟨Zw.o.st, ?_, ⟨10, ⟨s.toArray⟩, 0, li, co, none, 0, 0, none, 0, 0, (some ⟨w9.heap.size, 0, none⟩), 2, 2⟩, rfl, fun D c e => ?_⟩
   ·rw [Wy.o]; exact Zw.o.at_
   ·obtain ⟨x, b3, s', b5, y, b7, h3, h5, h7, hD⟩ := Q8.o D c e
    have hss : s = s' := by rw [Jy.o, h5]; rfl
    have hz : Yi (rb + 1) Wf z x := (Y3.o x b3 h3).keep (by omega) fun c h6 h7 => Y6 c (by omega) (by omega) h7
    have hu : Yi (rb + 1) Wf u y := (Tf.o y b7 h7).keep (by omega) fun c h6 h7 => Y6 c (by omega) (by omega) h7
    have := (Jn (kb := w9.heap.size) hz hu Yu (by omega) ⟨10, ⟨s.toArray⟩, 0, li, co, none, 0, 0, none, 0, 0, (some ⟨w9.heap.size, 0, none⟩), 2, 2⟩ [] [] ⟨rfl, rfl⟩ ⟨rfl, xZ _, 0, .inl rfl⟩ ⟨rfl, xZ _, .inl rfl⟩).lower (show w.heap.size <= rb + 1 by omega);rw [hD, <- hss, <- Xf.o.1, <- Xf.o.2];exact this
  | true =>
   have hk5b : (k2 != 5) = false := by rw [bne, Hf]; rfl
   have HQ : xQ (((Zk ts (a + 2)).text == [58]) = (S2.toList == (⟨#[58]⟩ : ByteArray).toList)) := by
    show _ = _;rw [P3.o, HE12.o]
    cases hq : ((⟨(Zk ts (a + 2)).text.toArray⟩ : ByteArray).toList == (⟨#[58]⟩ : ByteArray).toList) with
    | true =>
     have := congrArg (fun s : ByteArray => s.data.toList) (Ge.1 hq);simp at this;rw [this];rfl
    | false =>
     cases h9 : ((Zk ts (a + 2)).text == [58]) with
     | false => rfl
     | true =>
      have h8 : (Zk ts (a + 2)).text = [58] := by simpa using h9
      rw [h8] at hq;simp at hq
   have e58 : (⟨#[58]⟩ : ByteArray).toList = [58] := by kernel_rfl
   rw [e58] at HQ;clear e58
   cases hq : (S2.toList == [58]) with
   | false =>
    have Yr : xQ (R = D4 ts E a) := by
     rw [Zz.o];exact if_neg (by rw [HQ.o, hq]; simp)
    clear Hf hk Zz X2 HQ;go_wp2_with fail
    go_quiet (fail)
    have Tq : xQ (RX pb tb cap ts w (W2.drewN nq) d (.inl (a + 1)) [(nb, (Yc 8 li co).obj), (rb, Zi.obj)]) := Zv.o.drewN nq;generalize W2.drewN nq = W3 at Tq ⊢;clear Zv t0 t1 t2 t3 Dn c0 c1 c3' htl2 q0 q1;obtain ⟨⟨n0, n1, n2, n3, n4, n5, n6, n7⟩, ⟨g0, g1, g2, g3, g4, g5, g6, g7⟩, Y0⟩ := Zm (Tq.o.box (p := (nb, (Yc 8 li co).obj)) (by simp))
    have Vq : ¬ nb = rb := by omega
    have Wl : ¬ rb = nb := by omega
    have X3 : xQ (RX pb tb cap ts w (W3.setCell ⟨nb, 0, none⟩ (.int .i64 10)) d (.inl (a + 1)) [(nb, NV.obj ⟨10, ⟨#[]⟩, 0, li, co, none, 0, 0, none, 0, 0, none, 0, 0⟩), (rb, Zi.obj)]) := Tq.o.setB (by simp; omega) 0 (.int .i64 10);go_wp2_with fail;refine (HE.o _ _ X3.o.at_).mono ?_;rintro e wv ⟨Zb, Zd, z, rfl, hv⟩;have X4 := Za ((X3.o.step Zb Zd).alloc z.obj);have Vc := xB (X3.o.box (p := (rb, Zi.obj)) (by simp))
    have Y3 : xQ (Xo (rb + 1) (wv.alloc z.obj) z (Zj E (.inl (a + 1)))) := (Xo.lower hv Vc).below (Zq _ _);have Qj := Zb.size;clear Zb Zd hv X3 Tq n0 n1 n2 n3 n4 n5 n6 n7 g0 g1 g2 g3 g4 g5 g6 g7 Y0;obtain ⟨R3, Qq⟩ := xE (Zj E (.inl (a + 1)));rw [<- Qq] at X4 Y3;have Yt := Za Qq;clear Qq;go_wp2_with fail;obtain ⟨kb, Wv⟩ := xE wv.heap.size;rw [<- Wv] at X4 Qj ⊢;clear Wv;generalize wv.alloc (.cells #[.int .i64 z.k, .string z.tx, .int .i64 z.N, .int .i64 z.li, .int .i64 z.co, .slice z.ta z.tl z.tc, .slice z.na z.nl z.nc, .slice z.ka z.kl z.kc] 38) = W4 at X4 Y3  ⊢
    have hnkb : rb < kb := by omega
    clear Vc Qj;go_wp2_with fail;refine (Ua pb tb cap d ts (Zf R3) [119, 105, 116, 104] _ X4.o.at_ OK.o).mono ?_;rintro e w5 ⟨rfl, Zb, Zd⟩;have X5 := Za (X4.o.step Zb Zd);replace Y3 := Za (Y3.o.stay Zb (by omega));clear Zb Zd X4;obtain ⟨S4, Pd⟩ := xE (Zf (Zj (fun a => Ze ts a [119, 105, 116, 104]) (Zf R3)));rw [<- Pd] at X5;have Xp := Za Pd;clear Pd;go_wp2_with fail;refine (L3 pb tb cap d ts S4 _ X5.o.at_ OK.o).mono ?_
    rintro e w6 ⟨rfl, Zb, Zd⟩;have X6 := Za (X5.o.step Zb Zd);replace Y3 := Za (Y3.o.stay Zb (by omega));clear Zb Zd X5;obtain ⟨R5, M8⟩ := xE (Zj (Zr ts) S4);rw [<- M8] at X6 ⊢;have Xq := Za M8;obtain ⟨s, hs⟩ := xE (Wm R5);rw [<- hs];have Jy := Za hs;clear hs M8;obtain ⟨⟨n0, n1, n2, n3, n4, n5, n6, n7⟩, ⟨g0, g1, g2, g3, g4, g5, g6, g7⟩, Y0⟩ := Zm (X6.o.box (p := (nb, NV.obj ⟨10, ⟨#[]⟩, 0, li, co, none, 0, 0, none, 0, 0, none, 0, 0⟩)) (by simp))
    have X7 : xQ (RX pb tb cap ts w (w6.setCell ⟨nb, 1, none⟩ (.string ⟨s.toArray⟩)) d (Zf R5) [(nb, NV.obj ⟨10, ⟨s.toArray⟩, 0, li, co, none, 0, 0, none, 0, 0, none, 0, 0⟩), (kb, z.obj), (rb, Zi.obj)]) := RX.setB (X6.o.perm (bx' := [(nb, NV.obj ⟨10, ⟨#[]⟩, 0, li, co, none, 0, 0, none, 0, 0, none, 0, 0⟩), (kb, z.obj), (rb, Zi.obj)]) (by simp)) (by simp; omega) 1 (.string ⟨s.toArray⟩);replace Y3 := Za (Xo.stay Y3.o (Ld w6 nb 1 (.string ⟨s.toArray⟩)) (by omega))
    go_wp2_with fail;refine (Ua pb tb cap d ts (Zf R5) [58] _ X7.o.at_ OK.o).mono ?_;rintro e w7 ⟨rfl, Zb, Zd⟩;have X8 := Za (X7.o.step Zb Zd);replace Y3 := Za (Y3.o.stay Zb (by omega));clear Zb Zd X6 X7 n0 n1 n2 n3 n4 n5 n6 n7 g0 g1 g2 g3 g4 g5 g6 g7 Y0;obtain ⟨S6, Pe⟩ := xE (Zf (Zj (fun a => Ze ts a [58]) (Zf R5)));rw [<- Pe] at X8;have M0 := Za Pe;clear Pe;go_wp2_with fail;refine (HE.o _ _ X8.o.at_).mono ?_
    rintro e wv ⟨Zb, Zd, u, rfl, hv⟩;have X9 := Za ((X8.o.step Zb Zd).alloc u.obj);have Vc := xB (X8.o.box (p := (rb, Zi.obj)) (by simp));replace Y3 := Za ((Y3.o.stay Zb (by omega)).below (Zq _ u.obj));have Tf : xQ (Xo (rb + 1) (wv.alloc u.obj) u (Zj E S6)) := (Xo.lower hv Vc).below (Zq _ _);have Qj := Zb.size;clear Zb Zd hv X8;obtain ⟨R7, Pc⟩ := xE (Zj E S6);rw [<- Pc] at X9 Tf;have Vs := Za Pc;clear Pc
    go_wp2_with fail;obtain ⟨mb, Wv⟩ := xE wv.heap.size;rw [<- Wv] at X9 Qj ⊢;clear Wv;generalize wv.alloc (.cells #[.int .i64 u.k, .string u.tx, .int .i64 u.N, .int .i64 u.li, .int .i64 u.co, .slice u.ta u.tl u.tc, .slice u.na u.nl u.nc, .slice u.ka u.kl u.kc] 38) = W9 at X9 Tf Y3 ⊢
    have hnmb : rb < mb := by omega
    clear Vc Qj;go_wp2_with fail;refine (Ua pb tb cap d ts (Zf R7) [125] _ X9.o.at_ OK.o).mono ?_;rintro e w9 ⟨rfl, Zb, Zd⟩;have X10 := Za (X9.o.step Zb Zd);replace Y3 := Za (Y3.o.stay Zb (by omega));replace Tf := Za (Tf.o.stay Zb (by omega));clear Zb Zd X9;obtain ⟨S8, hS8⟩ := xE (Zf (Zj (fun a => Ze ts a [125]) (Zf R7)));rw [<- hS8] at X10;have HS8 := Za hS8;clear hS8;have Wy := Za (zZ Yr.o Yt.o Xp.o Xq.o M0.o Vs.o HS8.o)
    have Q8 := Za (fun D c e => yA (D := D) (c := c) Yr.o Yt.o Xp.o Xq.o M0.o Vs.o e);obtain ⟨⟨z0, z1, z2, z3, z4, z5, z6, z7⟩, _, Qh⟩ := Zm (X10.o.box (p := (kb, z.obj)) (by simp));obtain ⟨⟨u0, u1, u2, u3, u4, u5, u6, u7⟩, _, Ly⟩ := Zm (X10.o.box (p := (mb, u.obj)) (by simp))
    have Gu : ¬ kb = nb := by omega
    have hne8 : ¬ mb = nb := by omega
    have Dl : ¬ kb = rb := by omega
    have H4 : ¬ mb = rb := by omega
    obtain ⟨⟨n0, n1, n2, n3, n4, n5, n6, n7⟩, ⟨g0, g1, g2, g3, g4, g5, g6, g7⟩, Y0⟩ := Zm (X10.o.box (p := (nb, NV.obj ⟨10, ⟨s.toArray⟩, 0, li, co, none, 0, 0, none, 0, 0, none, 0, 0⟩)) (by simp));obtain ⟨⟨r0, r1, r2, r3, r4, r5, r6, r7⟩, ⟨f0, f1, f2, f3, f4, f5, f6, f7⟩, Xu⟩ := Zm (X10.o.box (p := (rb, Zi.obj)) (by simp))
    have Re : ¬ nb = rb := by omega
    have Rf : ¬ rb = nb := by omega
    go_wp2_with fail;obtain ⟨Wf, Zs⟩ := xE ((((((((((w9.setCell ⟨nb, 7, none⟩ (.slice (some ⟨w9.heap.size, 0, none⟩) 2 2)).setCell ⟨rb, 0, none⟩ (.int .i64 10)).setCell ⟨rb, 1, none⟩ (.string ⟨s.toArray⟩)).setCell ⟨rb, 2, none⟩ (.int .i64 0)).setCell ⟨rb, 3, none⟩ (.int .i64 li)).setCell ⟨rb, 4, none⟩ (.int .i64 co)).setCell ⟨rb, 5, none⟩ (.slice none 0 0)).setCell ⟨rb, 6, none⟩ (.slice none 0 0)).setCell ⟨rb, 7, none⟩ (.slice (some ⟨w9.heap.size, 0, none⟩) 2 2)).alloc (.cells #[.int .i64 z.k, .string z.tx, .int .i64 z.N, .int .i64 z.li, .int .i64 z.co, .slice z.ta z.tl z.tc, .slice z.na z.nl z.nc, .slice z.ka z.kl z.kc, .int .i64 u.k, .string u.tx, .int .i64 u.N, .int .i64 u.li, .int .i64 u.co, .slice u.ta u.tl u.tc, .slice u.na u.nl u.nc, .slice u.ka u.kl u.kc] 38))
    rw [<- Zs]
    obtain ⟨Zw, Y6, Ue⟩ : Left pb tb cap ts w d S8 rb nb w9 Wf ⟨10, ⟨s.toArray⟩, 0, li, co, none, 0, 0, none, 0, 0, (some ⟨w9.heap.size, 0, none⟩), 2, 2⟩ 1 := by rw [Zs]; exact Jl (B7 (rb := rb) X10.o (by simp) (by omega) (by omega) 7 (.slice (some ⟨w9.heap.size, 0, none⟩) 2 2) ⟨10, ⟨s.toArray⟩, 0, li, co, none, 0, 0, none, 0, 0, (some ⟨w9.heap.size, 0, none⟩), 2, 2⟩) (Mh z u)
    have Yu : Wf.heap[w9.heap.size]? = some (Mh z u) := by rw [Zs]; exact Ai (B7 (rb := rb) X10.o (by simp) (by omega) (by omega) 7 (.slice (some ⟨w9.heap.size, 0, none⟩) 2 2) ⟨10, ⟨s.toArray⟩, 0, li, co, none, 0, 0, none, 0, 0, (some ⟨w9.heap.size, 0, none⟩), 2, 2⟩) (Mh z u) rfl
    clear Zs;replace Zw := Za Zw;refine Me rfl rfl (Zw.o.box xM) rfl ⟨Zw.o.st, ?_, ⟨10, ⟨s.toArray⟩, 0, li, co, none, 0, 0, none, 0, 0, (some ⟨w9.heap.size, 0, none⟩), 2, 2⟩, rfl, fun D c e => ?_⟩
    ·rw [Wy.o]; exact Zw.o.at_
    ·obtain ⟨x, b3, s', b5, y, b7, h3, h5, h7, hD⟩ := Q8.o D c e
     have hss : s = s' := by rw [Jy.o, h5]; rfl
     have hz : Yi (rb + 1) Wf z x := (Y3.o x b3 h3).keep (by omega) fun c h6 h7 => Y6 c (by omega) (by omega) h7
     have hu : Yi (rb + 1) Wf u y := (Tf.o y b7 h7).keep (by omega) fun c h6 h7 => Y6 c (by omega) (by omega) h7
     have := (Jn (kb := w9.heap.size) hz hu Yu (by omega) ⟨10, ⟨s.toArray⟩, 0, li, co, none, 0, 0, none, 0, 0, (some ⟨w9.heap.size, 0, none⟩), 2, 2⟩ [] [] ⟨rfl, rfl⟩ ⟨rfl, xZ _, 0, .inl rfl⟩ ⟨rfl, xZ _, .inl rfl⟩).lower (show w.heap.size <= rb + 1 by omega);rw [hD, <- hss, <- Xf.o.1, <- Xf.o.2];exact this
   | true =>
    have Yr : xQ (R = rcF ts E (f + 1) a) := by
     rw [Zz.o];rw [HT.o] at hk;rw [HK2.o, HE12.o] at Hf;exact if_pos (by rw [hk, Hf, HQ.o, hq]; rfl)
    clear Hf hk Zz X2 HQ;go_wp2_with fail
    go_quiet (fail)
    have Tq : xQ (RX pb tb cap ts w (W2.drewN nq) d (.inl (a + 1)) [(nb, (Yc 8 li co).obj), (rb, Zi.obj)]) := Zv.o.drewN nq;generalize W2.drewN nq = W3 at Tq ⊢;clear Zv t0 t1 t2 t3 Dn c0 c1 c3' htl2 q0 q1;obtain ⟨Rm, Q0⟩ := xE (Yd ts (Tg ts E) [44] (f + 1) (a + 1))
    have HF0 : xQ (Hu ts E Rm [] (f + 1) (a + 1)) := by rw [Q0]; exact vC
    have HRb : xQ (R = Rm.go fun l b => (Ze ts b [125]).go fun _ b => .inl (Zn 8 [] 0 (Yg ts a) (Yf ts a) [] (l.map (·.1)) (l.map (·.2)), b)) := by rw [Yr.o, Q0]; exact rfl
    have HRm := Za Q0;have X5 := Tq;clear Q0 Yr Tq;obtain ⟨i0, hi, Wp, Xy, Wr⟩ := info_parts vR;obtain ⟨s0, si, sz0, sz1, sz2⟩ := info_parts Ri;go_wp2_with fail
    go_loopg [] (ts.length) (fun gk wr => ∃ (c m : Nat) (acc : List (List UInt8 × Ty)) (na ka : Option Addr) (nc kc : Nat) (cn ck : List (List Value)) (ns : List (List UInt8)) (ks : List (Option Ty)), xQ (ns = acc.map (·.1) /\ ks = acc.map (fun p => some p.2)) /\ xQ (RX pb tb cap ts w wr d (.inl c) [(nb, NV.obj ⟨8, ⟨#[]⟩, 0, li, co, none, 0, 0, na, ns.length, nc, ka, ks.length, kc⟩), (rb, Zi.obj)]) /\ xQ (Ym Qc (rb + 1) 9 1 (Value.slice ka ks.length kc).ownBlock wr (.slice na ns.length nc) cn ns) /\ xQ (Ym NdQ (rb + 1) 38 8 (Value.slice na ns.length nc).ownBlock wr (.slice ka ks.length kc) ck ks) /\ xQ (Hu ts E Rm acc m c) /\ xQ (ts.length <= c + m) /\ xQ (acc.length <= c) /\ xQ (ts.length - c <= gk))
    case atStart =>
     exact ⟨a + 1, f + 1, [], none, none, 0, 0, [], [], [], [], ⟨rfl, rfl⟩, X5, Lb _ _ _ _ _, Lb _ _ _ _ _, HF0, (by show _ <= _; omega), xZ _, (by show _ <= _; omega)⟩
    case round =>
     clear X5 HF0;obtain ⟨c', m, acc, na, ka, nc, kc, cn, ck, ns, ks, Tp, X, HN, HV, HF, HM, HA, HG⟩ := hrel
     have Yz : c' < ts.length := by
      obtain ⟨a', ha⟩ := X.o.at_;have e1 := ha.live c' rfl;have := ha.lt;omega
     obtain ⟨m, rfl⟩ : ∃ q, m = q + 1 := ⟨m - 1, by have := HM.o; omega⟩
     have hlen : ts.length <= 8193 := OK.o.len
     have Y0 : ns.length <= 8193 := by have := HA.o; rw [Tp.o.1, List.length_map]; omega
     have Qh : ks.length <= 8193 := by have := HA.o; rw [Tp.o.2, List.length_map]; omega
     have Ww : rb < wr.heap.size := xB (X.o.box (p := (rb, Zi.obj)) (by simp))
     have Vn : pb < rb + 1 := by omega
     obtain ⟨nmv, P9⟩ := xE (Wm (Zr ts c'));obtain ⟨R3, Qq⟩ := xE (Kf ts E c');have Mz := Za P9;have Yt := Za Qq;clear P9 Qq
     have V7 : xQ (Calls prog 32 #[pP pb] wr fun r w' => r = .returned (.string ⟨nmv.toArray⟩) /\ Zl pb wr w' /\ Z2 w' pb tb cap ts d (Zf (Zr ts c'))) := by
      rw [Mz.o];exact L3 pb tb cap d ts (.inl c') wr X.o.at_ OK.o
     go_wp2_with fail;refine V7.o.mono ?_;rintro e w1 ⟨rfl, Zb, Zd⟩;have X1 := Za (X.o.step Zb Zd);have T0 := Za (HN.o.stay Zb Vn);have HV1 := Za (HV.o.stay Zb Vn);have htb1 : rb < w1.heap.size := xT Ww Zb.size;clear Zb Zd X HN HV V7;go_wp2_with fail;refine (Ua pb tb cap d ts _ [58] _ X1.o.at_ OK.o).mono ?_;rintro e w2 ⟨rfl, Zb, Zd⟩;have X2 := Za (X1.o.step Zb Zd);have Xz := Za (T0.o.stay Zb Vn);have M2 := Za (HV1.o.stay Zb Vn)
     have hrb2 : rb < w2.heap.size := xT htb1 Zb.size;clear Zb Zd X1 T0 HV1;have Tt := Za (HE.o _ _ X2.o.at_);rw [show Zj E (Zf (Zj (fun a => Ze ts a [58]) (Zf (Zr ts c')))) = R3 from Yt.o.symm] at Tt;go_wp2_with fail;refine Tt.o.mono ?_;rintro e w3 ⟨Zb, Zd, z, rfl, hv⟩
     have hnO : ∀ q, (Value.slice na ns.length nc).ownBlock = some q -> rb + 1 <= q /\ q < w3.heap.size := fun q hq => (Xz.o.stay Zb Vn).own q hq
     have hkO : ∀ q, (Value.slice ka ks.length kc).ownBlock = some q -> rb + 1 <= q /\ q < w3.heap.size := fun q hq => (M2.o.stay Zb Vn).own q hq
     have HNO := Za hnO;have HKO := Za hkO;have Jj := Zb.trans ((Zl.refl pb w3).alloc (xT X2.o.at_.ltp Zb.size) z.obj);have X3 := Za ((X2.o.step Zb Zd).alloc z.obj);have Pp := Za (Xz.o.stay Jj Vn);have Bv := Za (M2.o.stay Jj Vn);have Tz := Za ((Wz.new (rep := NdQ) (B := rb + 1) (ndQ_of hv) hrb2 (G := fun q => (Value.slice ka ks.length kc).ownBlock = some q ∨ (Value.slice na ns.length nc).ownBlock = some q) fun q hq => M2.o.all q hq).stay ((Zl.refl pb w3).alloc (xT X2.o.at_.ltp Zb.size) z.obj) Vn)
     have htb3 : rb < w3.heap.size := xT hrb2 Zb.size;clear Zb Zd hv Tt X2 Xz M2 hnO hkO Jj
     have hwl : w3.heap.size < (w3.alloc z.obj).heap.size := by simp
     obtain ⟨⟨t0, t1, t2, t3, t4, t5, t6, t7⟩, ⟨f0, f1, f2, f3, f4, f5, f6, f7⟩, Vd⟩ := Zm (X3.o.box (p := (nb, NV.obj ⟨8, ⟨#[]⟩, 0, li, co, none, 0, 0, na, ns.length, nc, ka, ks.length, kc⟩)) (by simp))
     have Tu : xQ (∀ j u, ([.string ⟨nmv.toArray⟩] : List Value)[j]? = some u -> ((w3.alloc z.obj).alloc (.cells #[.string ⟨nmv.toArray⟩] 9)).cell? ((⟨w3.heap.size + 1, 0, none⟩ : Addr).add j) = some u) := fun j u h => by
      have := Pt (w3.alloc z.obj) [.string ⟨nmv.toArray⟩] 9 j u h;rw [xS] at this;exact this
     go_wp2_with (at_builtin; refine wpList_append_own_at _ rfl (.tmp 91) (.tmp 93) 35 rfl (rb + 1) 9 s0 _ 1 16 underlying35 si sz0 sz1 sz2 rfl (by decide) _ _ _ rfl (Pp.o.ow.alloc _) ⟨_, 0, none⟩ 1 1 [.string ⟨nmv.toArray⟩] rfl rfl Tu.o (by simp [Value.oneCell']) (by unfold maxLen; omega) (by omega) (by simp; omega) ?_)
     intro vn' w4 Z1 Zy _ Ys;have Ma : pb < (w3.alloc z.obj).heap.size := X3.o.at_.ltp;have Lg := Za (Pp.o.put (x := nmv) (rep := Qc) Z1 Zy (Ys.imp_right fun e => ⟨_, e, by simp⟩) ((Zl.refl pb _).alloc Ma _) Vn rfl ((Wz.new (rep := Qc) (lo := w3.heap.size + 1) (wx := w3.alloc z.obj) rfl (by omega) fun q hq => by have := Pp.o.all q hq; simpa using this).stay ((Zl.refl pb _).alloc Ma _) Vn));have P4 := Za ((Bv.o.stay ((Zl.refl pb _).alloc Ma (.cells #[.string ⟨nmv.toArray⟩] 9)) Vn).beside (o' := vn'.ownBlock) Zy (Ys.imp_right fun e => ⟨_, e, by simp, (Z1.lt _ e).2⟩) (by simp; omega))
     have HMd4 := Za ((Tz.o.stay ((Zl.refl pb _).alloc Ma (.cells #[.string ⟨nmv.toArray⟩] 9)) Vn).grown (G' := fun q => (Value.slice ka ks.length kc).ownBlock = some q ∨ vn'.ownBlock = some q) Zy (fun q hq => .inr hq) fun q hq => by
      rcases hq with hq | hq
      ·exact .inl (.inl hq)
      ·rcases Ys with e | e
       ·exact .inl (.inr (e ▸ hq))
       ·rw [e] at hq; injection hq with hq; exact .inr (by rw [<- hq]; simp))
     have X4 := Za ((X3.o.alloc (.cells #[.string ⟨nmv.toArray⟩] 9)).drop.grown Zy (fun q hq => by have := HNO.o q hq; omega) fun p hp q hq => by
      have := HNO.o q hq;simp only [List.mem_cons, List.not_mem_nil, or_false] at hp;rcases hp with rfl | rfl | rfl
      ·show q ≠ w3.heap.size; omega
      ·show q ≠ nb; omega
      ·show q ≠ rb; omega)
     obtain ⟨na4, nc4, rfl⟩ := U9 Z1;clear Z1 Zy Ys Tu t0 t1 t2 t3 t4 t5 t6 t7 f0 f1 f2 f3 f4 f5 f6 f7 Vd hwl Ma Pp Bv Tz X3 HNO HKO;generalize w3.heap.size = kb at X4 htb3 ⊢;obtain ⟨⟨t0, t1, t2, t3, t4, t5, t6, t7⟩, ⟨f0, f1, f2, f3, f4, f5, f6, f7⟩, Vd⟩ := Zm (X4.o.box (p := (nb, NV.obj ⟨8, ⟨#[]⟩, 0, li, co, none, 0, 0, na, ns.length, nc, ka, ks.length, kc⟩)) (by simp));obtain ⟨⟨b0, b1, b2, b3, b4, b5, b6, b7⟩, _, Z8⟩ := Zm (X4.o.box (p := (kb, z.obj)) (by simp))
     have Z3 : ¬ kb = nb := by omega
     have hne' : ¬ nb = kb := by omega
     have X5 : xQ (RX pb tb cap ts w (w4.setCell ⟨nb, 6, none⟩ (.slice na4 (ns.length + 1) nc4)) d (Zf R3) [(nb, NV.obj ⟨8, ⟨#[]⟩, 0, li, co, none, 0, 0, na4, (ns.length + 1), nc4, ka, ks.length, kc⟩), (kb, z.obj), (rb, Zi.obj)]) := by
      exact RX.setB (X4.o.perm (bx' := [(nb, NV.obj ⟨8, ⟨#[]⟩, 0, li, co, none, 0, 0, na, ns.length, nc, ka, ks.length, kc⟩), (kb, z.obj), (rb, Zi.obj)]) (by simp)) (by simp; omega) 6 (.slice na4 (ns.length + 1) nc4)
     have N7 := Za (Lg.o.stay (Ld w4 nb 6 (.slice na4 (ns.length + 1) nc4)) (by omega));have M3 := Za (P4.o.stay (Ld w4 nb 6 (.slice na4 (ns.length + 1) nc4)) (by omega));have HMd5 := Za (HMd4.o.stay (Ld w4 nb 6 (.slice na4 (ns.length + 1) nc4)) (by omega));clear Lg P4 HMd4 X4
     have Tu : xQ (∀ j u, ([.int .i64 z.k, .string z.tx, .int .i64 z.N, .int .i64 z.li, .int .i64 z.co, .slice z.ta z.tl z.tc, .slice z.na z.nl z.nc, .slice z.ka z.kl z.kc] : List Value)[j]? = some u -> ((w4.setCell ⟨nb, 6, none⟩ (.slice na4 (ns.length + 1) nc4)).alloc (.cells #[.int .i64 z.k, .string z.tx, .int .i64 z.N, .int .i64 z.li, .int .i64 z.co, .slice z.ta z.tl z.tc, .slice z.na z.nl z.nc, .slice z.ka z.kl z.kc] 38)).cell? ((⟨w4.heap.size, 0, none⟩ : Addr).add j) = some u) := fun j u h => by
      have := Pt (w4.setCell ⟨nb, 6, none⟩ (.slice na4 (ns.length + 1) nc4)) [.int .i64 z.k, .string z.tx, .int .i64 z.N, .int .i64 z.li, .int .i64 z.co, .slice z.ta z.tl z.tc, .slice z.na z.nl z.nc, .slice z.ka z.kl z.kc] 38 j u h;rw [Ye] at this;exact this
     go_wp2_with (at_builtin; refine wpList_append_own_at _ rfl (.tmp 97) (.tmp 99) 36 rfl (rb + 1) 38 i0 _ 8 120 underlying36 hi Wp Xy Wr rfl (by decide) _ _ _ rfl (M3.o.ow.alloc _) ⟨_, 0, none⟩ 1 1 [.int .i64 z.k, .string z.tx, .int .i64 z.N, .int .i64 z.li, .int .i64 z.co, .slice z.ta z.tl z.tc, .slice z.na z.nl z.nc, .slice z.ka z.kl z.kc] rfl rfl Tu.o (by simp [Value.oneCell']) (by unfold maxLen; omega) (by omega) (by simp; omega) ?_)
     intro vk' w6 Z1 Zy _ Ys;have Ma : pb < (w4.setCell ⟨nb, 6, none⟩ (.slice na4 (ns.length + 1) nc4)).heap.size := X5.o.at_.ltp;have Lk := Za (M3.o.put (x := Vf R3) (rep := NdQ) Z1 Zy (Ys.imp_right fun e => ⟨_, e, by simp⟩) ((Zl.refl pb _).alloc Ma _) Vn rfl (HMd5.o.stay ((Zl.refl pb _).alloc Ma _) Vn));have Lh := Za ((N7.o.stay ((Zl.refl pb _).alloc Ma (.cells #[.int .i64 z.k, .string z.tx, .int .i64 z.N, .int .i64 z.li, .int .i64 z.co, .slice z.ta z.tl z.tc, .slice z.na z.nl z.nc, .slice z.ka z.kl z.kc] 38)) Vn).beside (o' := vk'.ownBlock) Zy (Ys.imp_right fun e => ⟨_, e, by simp, (Z1.lt _ e).2⟩) (by simp; omega))
     have X6 : xQ (RX pb tb cap ts w w6 d (Zf R3) [(nb, NV.obj ⟨8, ⟨#[]⟩, 0, li, co, none, 0, 0, na4, (ns.length + 1), nc4, ka, ks.length, kc⟩), (rb, Zi.obj)]) := by
      refine RX.grown ((X5.o.alloc (.cells #[.int .i64 z.k, .string z.tx, .int .i64 z.N, .int .i64 z.li, .int .i64 z.co, .slice z.ta z.tl z.tc, .slice z.na z.nl z.nc, .slice z.ka z.kl z.kc] 38)).drop.perm (bx' := [(nb, NV.obj ⟨8, ⟨#[]⟩, 0, li, co, none, 0, 0, na4, (ns.length + 1), nc4, ka, ks.length, kc⟩), (rb, Zi.obj)]) (by simp)) Zy (fun q hq => by have := M3.o.own q hq; omega) fun p hp q hq => ?_
      have := M3.o.own q hq;simp only [List.mem_cons, List.not_mem_nil, or_false] at hp;rcases hp with rfl | rfl
      ·show q ≠ nb; omega
      ·show q ≠ rb; omega
     obtain ⟨ka6, kc6, rfl⟩ := U9 Z1;clear Z1 Zy Ys Tu t0 t1 t2 t3 t4 t5 t6 t7 f0 f1 f2 f3 f4 f5 f6 f7 Vd Ma b0 b1 b2 b3 b4 b5 b6 b7 Z8 N7 M3 HMd5 X5;obtain ⟨⟨t0, t1, t2, t3, t4, t5, t6, t7⟩, ⟨f0, f1, f2, f3, f4, f5, f6, f7⟩, Vd⟩ := Zm (X6.o.box (p := (nb, NV.obj ⟨8, ⟨#[]⟩, 0, li, co, none, 0, 0, na4, (ns.length + 1), nc4, ka, ks.length, kc⟩)) (by simp))
     have X7 : xQ (RX pb tb cap ts w (w6.setCell ⟨nb, 7, none⟩ (.slice ka6 (ks.length + 1) kc6)) d (Zf R3) [(nb, NV.obj ⟨8, ⟨#[]⟩, 0, li, co, none, 0, 0, na4, (ns.length + 1), nc4, ka6, (ks.length + 1), kc6⟩), (rb, Zi.obj)]) := by
      exact RX.setB X6.o (by simp; omega) 7 (.slice ka6 (ks.length + 1) kc6)
     have Kw := Za (Lh.o.stay (Ld w6 nb 7 (.slice ka6 (ks.length + 1) kc6)) (by omega));have J0 := Za (Lk.o.stay (Ld w6 nb 7 (.slice ka6 (ks.length + 1) kc6)) (by omega));clear Lh Lk X6;go_wp2_with fail;refine (Wq pb tb cap d ts (Zf R3) [44] _ X7.o.at_ OK.o).mono ?_;rintro e w8 ⟨rfl, Zb, Zd⟩;have X8 := Za (X7.o.step Zb Zd);have Kx := Za (Kw.o.stay Zb Vn);have Ll := Za (J0.o.stay Zb Vn);clear Zb Zd X7 Kw J0 t0 t1 t2 t3 t4 t5 t6 t7 f0 f1 f2 f3 f4 f5 f6 f7 Vd
     have Wh : (ns ++ [nmv]).length = ns.length + 1 := by simp
     have V0 : (ks ++ [Vf R3]).length = ks.length + 1 := by simp
     cases hs : Yw ts (Zf R3) [44] with
     | true =>
      rw [hs, if_pos rfl] at X8;rw [Yt.o] at hs;obtain ⟨t, b, Lr, Jf⟩ := vB HF.o hs;have HNx := Za Jf;have hup := vD HU.o Lr
      have hS : Ph (Zf R3) = .inl (b + 1) := by rw [Yt.o, Lr]; rfl
      have Lu : Vf R3 = some t := by rw [Yt.o, Lr]; rfl
      rw [hS, <- Wh, <- V0] at X8;rw [<- Wh, <- V0] at Kx Ll
      have HNS2 : xQ (ns ++ [nmv] = (acc ++ [(Wm (Zr ts c'), t)]).map (·.1) /\ ks ++ [Vf R3] = (acc ++ [(Wm (Zr ts c'), t)]).map (fun p => some p.2)) := ⟨by rw [Tp.o.1, Mz.o]; simp, by rw [Tp.o.2, Lu]; simp⟩
      clear hs Lr Jf hS Lu Wh V0;go_wp2_with fail
      go_roundg (ts.length - (b + 1))
      case measure => have := HG.o; omega
      case rel => exact ⟨b + 1, m, _, na4, ka6, nc4, kc6, _, _, _, _, HNS2, X8, Kx, Ll, HNx, (by have := HM.o; show _ <= _; omega), (by have := HA.o; show _ <= _; simp; omega), xR⟩
     | false =>
      rw [hs, if_neg (by simp)] at X8;rw [Yt.o] at hs;have Tv := Za (vA HF.o hs);clear hs;go_wp2_with fail;refine (Ua pb tb cap d ts (Zf R3) [125] _ X8.o.at_ OK.o).mono ?_;rintro e w9 ⟨rfl, Zb, Zd⟩;have X9 := Za (X8.o.step Zb Zd);have HN9 := Za (Kx.o.stay Zb Vn);have HV9 := Za (Ll.o.stay Zb Vn);clear Zb Zd X8 Kx Ll;have Tx := Za Wh;have L9 := Za V0;clear Wh V0;obtain ⟨S9, hS9⟩ := xE (Zf (Zj (fun a => Ze ts a [125]) (Zf R3)))
      rw [<- hS9] at X9
      have Wy : xQ (Zf R = S9) := by
       show _ = _;rw [hS9, HRb.o, Yt.o];rcases Tv.o with ⟨t, b, e1, e2⟩ | ⟨e, e1, e2⟩
       ·rw [e1, e2]
        show Zf ((Ze ts b [125]).go _) = Zf (Ze ts b [125])
        cases Ze ts b [125] <;> rfl
       ·rw [e1, e2]
        rfl
      clear hS9;obtain ⟨⟨n0, n1, n2, n3, n4, n5, n6, n7⟩, ⟨g0, g1, g2, g3, g4, g5, g6, g7⟩, Y0⟩ := Zm (X9.o.box (p := (nb, NV.obj ⟨8, ⟨#[]⟩, 0, li, co, none, 0, 0, na4, (ns.length + 1), nc4, ka6, (ks.length + 1), kc6⟩)) (by simp));obtain ⟨⟨r0, r1, r2, r3, r4, r5, r6, r7⟩, ⟨f0, f1, f2, f3, f4, f5, f6, f7⟩, Xu⟩ := Zm (X9.o.box (p := (rb, Zi.obj)) (by simp))
      have Vq : ¬ nb = rb := by omega
      have Wl : ¬ rb = nb := by omega
      go_wp2_with fail;obtain ⟨Wf, Zs⟩ := xE ((((((((w9.setCell ⟨rb, 0, none⟩ (.int .i64 8)).setCell ⟨rb, 1, none⟩ (.string ⟨#[]⟩)).setCell ⟨rb, 2, none⟩ (.int .i64 0)).setCell ⟨rb, 3, none⟩ (.int .i64 li)).setCell ⟨rb, 4, none⟩ (.int .i64 co)).setCell ⟨rb, 5, none⟩ (.slice none 0 0)).setCell ⟨rb, 6, none⟩ (.slice na4 (ns.length + 1) nc4)).setCell ⟨rb, 7, none⟩ (.slice ka6 (ks.length + 1) kc6));rw [<- Zs]
      obtain ⟨Zw, Y6, Ue⟩ : Left pb tb cap ts w d S9 rb nb w9 Wf ⟨8, ⟨#[]⟩, 0, li, co, none, 0, 0, na4, (ns.length + 1), nc4, ka6, (ks.length + 1), kc6⟩ 0 := by rw [Zs]; exact Dt (rb := rb) X9.o (by simp) nb ⟨8, ⟨#[]⟩, 0, li, co, none, 0, 0, na4, (ns.length + 1), nc4, ka6, (ks.length + 1), kc6⟩
      clear Zs;replace Zw := Za Zw;refine Me rfl rfl (Zw.o.box xM) rfl ⟨Zw.o.st, ?_, ⟨8, ⟨#[]⟩, 0, li, co, none, 0, 0, na4, (ns.length + 1), nc4, ka6, (ks.length + 1), kc6⟩, rfl, fun D c e => ?_⟩
      ·rw [Wy.o]; exact Zw.o.at_
      ·rw [HRb.o] at e
       rcases Tv.o with ⟨t, b, e1, e2⟩ | ⟨e9, e1, e2⟩
       ·rw [e2] at e
        obtain ⟨_, b', hw, e⟩ := Pa (R := Ze ts b [125]) e;injection e with e;injection e with e _
        have Lu : Vf R3 = some t := by rw [Yt.o, e1]; rfl
        have en : ns ++ [nmv] = (acc ++ [(Wm (Zr ts c'), t)]).map (·.1) := by rw [Tp.o.1, Mz.o]; simp
        have ek : ks ++ [Vf R3] = ((acc ++ [(Wm (Zr ts c'), t)]).map (·.2)).map some := by rw [Tp.o.2, Lu]; simp
        have hN := HN9.o;have hV := HV9.o;rw [<- Tx.o, <- L9.o] at hN hV;rw [en] at hN;rw [ek] at hV;obtain ⟨an, cn', ean, _, hnames⟩ := R9 hN;obtain ⟨ak, ck', m', eak, _, hnodes⟩ := qN (dW hV)
        have hlk : ((acc ++ [(Wm (Zr ts c'), t)]).map (·.2)).length <= 8193 := by have := HA.o; simp; omega
        injection ean with ean _ _;injection eak with eak _ _;subst ean eak
        have hnm2 : Ba Wf (rb + 1) na4 ((acc ++ [(Wm (Zr ts c'), t)]).map (·.1)) := Fx hnames (by omega) fun c h6 h7 => Y6 c (by omega) (by omega) h7
        have hnd2 : Ss Wf (rb + 1) m' ka6 ((acc ++ [(Wm (Zr ts c'), t)]).map (·.2)) := tH hnodes (by omega) fun c h6 h7 => Y6 c (by omega) (by omega) h7
        rw [<- e, <- Xf.o.1, <- Xf.o.2]
        have hl1' : ns.length + 1 = ((acc ++ [(Wm (Zr ts c'), t)]).map (·.1)).length := by rw [<- en]; exact Tx.o.symm
        have hl2' : ks.length + 1 = ((acc ++ [(Wm (Zr ts c'), t)]).map (·.2)).length := by
         have := congrArg List.length ek;rw [L9.o, List.length_map] at this;exact this
        refine Yi.lower (lo := rb + 1) ⟨m' + 1, [], _, _, rfl, ⟨rfl, hl1', hl2'⟩, ⟨xZ _, ?_, by omega⟩, .inl rfl, hnm2, hnd2⟩ (by omega);rw [<- hl1'];omega
       ·rw [e2] at e
        cases e
end Go.Proofs.YtfoejkhfdiodhaaGreatDoor
