/- Part. -/
import Derived.Test.YtfoejkhfdiodhaaGreatDoorPart26
set_option maxRecDepth 100000
set_option maxHeartbeats 4000000
namespace Go.Proofs.YtfoejkhfdiodhaaGreatDoor
open Go.Proofs.Tryz
open Go.RowKit
attribute [local go_sem ↓] Go.wp_at_zero Go.wp_at_succ
def unT (ts : List Tok) (U P : Nat -> Pr Ty) (a : Nat) : Pr Ty :=
 if Zh ts a [45] then (U (a + 1)).go fun x b => .inl (Zn 16 [] 0 (Yg ts a) (Yf ts a) [] [] [x], b)
 else if Zh ts a [110, 111, 116] then (U (a + 1)).go fun x b => .inl (Zn 15 [] 0 (Yg ts a) (Yf ts a) [] [] [x], b)
 else P a
theorem sK (pb tb cap d : Nat) (ts : List Tok) (ok : Yh ts) (U P : Nat -> Pr Ty) (hd : d <= 1000)
  (hU : d < 100 -> ∀ S w, Z2 w pb tb cap ts (d + 1) S -> Calls prog 144 #[pP pb] w (Vh pb tb cap ts (d + 1) w (Zj U S)))
  (hP : d < 100 -> ∀ S w, Z2 w pb tb cap ts (d + 1) S -> Calls prog 156 #[pP pb] w (Vh pb tb cap ts (d + 1) w (Zj P S)))
  (S : Ya) (w : World) (h : Z2 w pb tb cap ts d S) :
  Calls prog 144 #[pP pb] w (Vh pb tb cap ts d w (Zj (fun a => if 100 <= d then Wa ts 6 a else unT ts U P a) S)) := by
 obtain ⟨R, hR⟩ : ∃ R : Pr Ty, R = Zj (fun a => if 100 <= d then Wa ts 6 a else unT ts U P a) S := ⟨_, rfl⟩
 rw [<- hR]
 have HR := Za hR
 have HU := Za hU
 have HP := Za hP
 have OK := Za ok
 have X0 := Za (Lc h Zi.obj)
 have Tv := Za (fun wx hx => yC pb tb cap d ts S hd wx hx)
 clear h hU hP ok hR
 cases Vv : Lq d S with
 | false =>
  have HS : xQ (Zf R = P5 ts d S /\ ∀ x b, R ≠ .inl (x, b)) := by
   show _ /\ _;rw [HR.o]
   cases S with
   | inr p =>
    refine ⟨?_, fun x b e => by cases e⟩;show Sum.inr p = P5 ts d (.inr p);unfold P5
    split <;> rfl
   | inl a =>
    have Pb : 100 <= d := by simp [Lq] at Vv; exact Vv
    refine ⟨?_, fun x b e => ?_⟩
    ·show Zf (if 100 <= d then _ else _) = P5 ts d (.inl a)
     unfold P5;rw [if_pos Pb, if_pos Pb];rfl
    ·have : (if 100 <= d then (Wa ts 6 a : Pr Ty) else _) = .inl (x, b) := e
     rw [if_pos Pb] at this;cases this
  rw [Vv] at Tv;clear Vv;go_enter func144, ntmps144;go_wp2_with fail;refine (Tv.o _ X0.o.at_).mono ?_;rintro e w1 ⟨rfl, Zb, Zd⟩;have X1 := Za (X0.o.step Zb Zd);clear Zb Zd;obtain ⟨⟨r0, r1, r2, r3, r4, r5, r6, r7⟩, ⟨f0, f1, f2, f3, f4, f5, f6, f7⟩, Yn⟩ := Zm (X1.o.box (p := (w.heap.size, Zi.obj)) (by simp));go_wp2_with fail;have XF := RX.put8 X1.o (by simp) Zi;refine r38 rfl rfl (XF.box (p := (w.heap.size, Zi.obj)) (by simp)) rfl ⟨XF.st, ?_, Zi, rfl, fun x b e => absurd e (HS.o.2 x b)⟩
  rw [HS.o.1];exact XF.at_
 | true =>
  obtain ⟨a, rfl⟩ : ∃ a, S = .inl a := by cases S with
   | inl a => exact ⟨a, rfl⟩
   | inr p => cases Vv
  have Pb : ¬ 100 <= d := by simp [Lq] at Vv; omega
  replace HU := Za (HU.o (by omega));replace HP := Za (HP.o (by omega))
  have HRl : xQ (R = unT ts U P a) := by rw [HR.o]; exact if_neg Pb
  have e1 : P5 ts d (.inl a) = .inl a := if_neg Pb;rw [Vv, e1] at Tv;clear Vv e1 HR;go_enter func144, ntmps144;go_wp2_with fail;refine (Tv.o _ X0.o.at_).mono ?_;rintro e w1 ⟨rfl, Zb, Zd⟩;have X1 := Za (X0.o.step Zb Zd);clear Zb Zd X0;go_wp2_with fail;refine (Am pb tb cap (d + 1) ts (.inl a) 16 _ X1.o.at_).mono ?_;rintro e w2 ⟨li, co, rfl, Nf, Zb, Zd⟩;have X2 := Za ((X1.o.step Zb Zd).alloc (Yc 16 li co).obj)
  have hp := X1.o.hp;have Wc := Zb.size;have hw1 := xB (X1.o.box (p := (w.heap.size, Zi.obj)) (by simp));obtain ⟨hl, hc⟩ := Nf a rfl;have Xf := Za (And.intro hl hc);clear Zb Zd Nf X1 hl hc;go_wp2_with fail;obtain ⟨mb, Nw⟩ := xE w2.heap.size;rw [<- Nw] at X2 Wc ⊢;clear Nw;generalize w2.alloc (.cells #[.int .i64 16, .string ⟨#[]⟩, .int .i64 0, .int .i64 li, .int .i64 co, .slice none 0 0, .slice none 0 0, .slice none 0 0] 38) = W2 at X2 ⊢
  have hwm : w.heap.size < mb := by omega
  refine (Wq pb tb cap (d + 1) ts (.inl a) [45] W2 X2.o.at_ OK.o).mono ?_;rintro e w3 ⟨rfl, Zb, Zd⟩;have X3 := Za (X2.o.step Zb Zd);clear Zb Zd X2
  cases hs : Yw ts (.inl a) [45] with
  | true =>
    rw [hs, if_pos rfl] at X3
    have Yr : xQ (R = (U (a + 1)).go fun x b => .inl (Zn 16 [] 0 (Yg ts a) (Yf ts a) [] [] [x], b)) := by
     rw [HRl.o];exact if_pos hs
    have HC := Za (HU.o _ _ X3.o.at_);clear hs HRl;go_wp2_with fail;refine HC.o.mono ?_;clear HC;rintro e w4 ⟨Zb, Zd, z, rfl, hv⟩;have X4 := Za (X3.o.step Zb Zd);have HZ4 : xQ (Xo (mb + 1) w4 z (U (a + 1))) := hv.lower (xB (X3.o.box (p := (mb, (Yc 16 li co).obj)) (by simp)));clear Zb Zd hv X3;obtain ⟨⟨m0, m1, m2, m3, m4, m5, m6, m7⟩, ⟨g0, g1, g2, g3, g4, g5, g6, g7⟩, Gs⟩ := Zm (X4.o.box (p := (mb, (Yc 16 li co).obj)) (by simp))
    obtain ⟨⟨r0, r1, r2, r3, r4, r5, r6, r7⟩, ⟨f0, f1, f2, f3, f4, f5, f6, f7⟩, hr4⟩ := Zm (X4.o.box (p := (w.heap.size, Zi.obj)) (by simp));obtain ⟨Tr, hd2⟩ := X4.o.at_.deep;have Xc := X4.o.at_.ltp
    have Vq : ¬ mb = w.heap.size := by omega
    have Wl : ¬ pb = mb := by omega
    have Hi : ¬ pb = w.heap.size := by omega
    have Fr : ¬ mb = pb := by omega
    have Gt : ¬ w.heap.size = pb := by omega
    have H4 : ¬ w.heap.size = mb := by omega
    have hdk : ((d + 1 : Nat) : Int) - 1 = (d : Int) := Eu d;go_wp2_with fail;obtain ⟨Wf, Zs⟩ := xE ((((((((((((w4.setCell ⟨mb, 7, none⟩ (.slice (some ⟨w4.heap.size + 1, 0, none⟩) 1 1)).setCell ⟨pb, 2, none⟩ (.int .i64 d)).setCell ⟨w.heap.size, 0, none⟩ (.int .i64 16)).setCell ⟨w.heap.size, 1, none⟩ (.string ⟨#[]⟩)).setCell ⟨w.heap.size, 2, none⟩ (.int .i64 0)).setCell ⟨w.heap.size, 3, none⟩ (.int .i64 li)).setCell ⟨w.heap.size, 4, none⟩ (.int .i64 co)).setCell ⟨w.heap.size, 5, none⟩ (.slice none 0 0)).setCell ⟨w.heap.size, 6, none⟩ (.slice none 0 0)).setCell ⟨w.heap.size, 7, none⟩ (.slice (some ⟨w4.heap.size + 1, 0, none⟩) 1 1)).alloc (.cells #[.int .i64 z.k, .string z.tx, .int .i64 z.N, .int .i64 z.li, .int .i64 z.co, .slice z.ta z.tl z.tc, .slice z.na z.nl z.nc, .slice z.ka z.kl z.kc] 38)).alloc (.cells #[.int .i64 z.k, .string z.tx, .int .i64 z.N, .int .i64 z.li, .int .i64 z.co, .slice z.ta z.tl z.tc, .slice z.na z.nl z.nc, .slice z.ka z.kl z.kc] 38))
    rw [<- Zs]
    have Uk : (put8 ((w4.setCell ⟨mb, 7, none⟩ (.slice (some ⟨w4.heap.size + 1, 0, none⟩) 1 1)).setCell ⟨pb, 2, none⟩ (.int .i64 d)) w.heap.size ⟨16, ⟨#[]⟩, 0, li, co, none, 0, 0, none, 0, 0, some ⟨w4.heap.size + 1, 0, none⟩, 1, 1⟩).heap.size = w4.heap.size := by rw [Q3, Ye, Ye]
    have Zw : xQ (RX pb tb cap ts w Wf d (Zf (U (a + 1))) [(w.heap.size, NV.obj ⟨16, ⟨#[]⟩, 0, li, co, none, 0, 0, none, 0, 0, some ⟨w4.heap.size + 1, 0, none⟩, 1, 1⟩)]) := by
     have h1 := (X4.o.perm (bx' := [(w.heap.size, Zi.obj)]) (by simp))
     have h2 := (h1.far (c := mb) (by omega) (by simp; omega) 7 (.slice (some ⟨w4.heap.size + 1, 0, none⟩) 1 1)).deep d;rw [Zs];exact (((h2.put8 (by simp) ⟨16, ⟨#[]⟩, 0, li, co, none, 0, 0, none, 0, 0, some ⟨w4.heap.size + 1, 0, none⟩, 1, 1⟩).alloc z.obj).drop.alloc z.obj).drop
    have Y6 : ∀ c, c ≠ w.heap.size -> c ≠ mb -> c ≠ pb -> c < w4.heap.size -> Wf.heap[c]? = w4.heap[c]? := fun c h1 h2 h4 h3 => by
     rw [Zs];exact (xA (by rw [xS, Uk]; omega)).trans ((xA (by rw [Uk]; exact h3)).trans ((U0 (x := ⟨16, ⟨#[]⟩, 0, li, co, none, 0, 0, none, 0, 0, some ⟨w4.heap.size + 1, 0, none⟩, 1, 1⟩) h1).trans ((xH h4).trans (xH h2))))
    have Yu : Wf.heap[w4.heap.size + 1]? = some z.obj := by
     have := Ti (put8 ((w4.setCell ⟨mb, 7, none⟩ (.slice (some ⟨w4.heap.size + 1, 0, none⟩) 1 1)).setCell ⟨pb, 2, none⟩ (.int .i64 d)) w.heap.size ⟨16, ⟨#[]⟩, 0, li, co, none, 0, 0, none, 0, 0, some ⟨w4.heap.size + 1, 0, none⟩, 1, 1⟩) z.obj z.obj;rw [Uk] at this;rw [Zs];exact this
    have Ue : w4.heap.size + 2 = Wf.heap.size := by rw [Zs, xS, xS]; simp only [Ye]
    clear Zs;refine r38 rfl rfl (Zw.o.box (p := (w.heap.size, NV.obj ⟨16, ⟨#[]⟩, 0, li, co, none, 0, 0, none, 0, 0, some ⟨w4.heap.size + 1, 0, none⟩, 1, 1⟩)) (by simp)) rfl ⟨Zw.o.st, ?_, ⟨16, ⟨#[]⟩, 0, li, co, none, 0, 0, none, 0, 0, some ⟨w4.heap.size + 1, 0, none⟩, 1, 1⟩, rfl, fun D c e => ?_⟩
    ·have := Zw.o.at_
     rw [Yr.o]
     cases Ws : U (a + 1) with
     | inr q => rw [Ws] at this; exact this
     | inl q => rw [Ws] at this; exact this
    ·rw [Yr.o] at e
     cases Ws : U (a + 1) with
     | inr q => rw [Ws] at e; cases e
     | inl q =>
      obtain ⟨D2, b2⟩ := q;rw [Ws] at e;injection e with e;injection e with e _;have hz : Yi (w.heap.size + 1) Wf z D2 := ((HZ4.o D2 b2 Ws).keep (by omega) fun c h6 h7 => Y6 c (by omega) (by omega) (by omega) h7).lower (by omega);have := (Nz (kb := w4.heap.size + 1) hz Yu (by omega) ⟨16, ⟨#[]⟩, 0, li, co, none, 0, 0, none, 0, 0, some ⟨w4.heap.size + 1, 0, none⟩, 1, 1⟩ [] [] ⟨rfl, rfl⟩ ⟨rfl, xZ _, 0, .inl rfl⟩ ⟨rfl, xZ _, .inl rfl⟩).lower (Nat.le_succ _)
      rw [<- e, <- Xf.o.1, <- Xf.o.2];exact this
  | false =>
   rw [hs, if_neg (by simp)] at X3
   have F9 : xQ (R = if Zh ts a [110, 111, 116] then (U (a + 1)).go fun x b => .inl (Zn 15 [] 0 (Yg ts a) (Yf ts a) [] [] [x], b) else P a) := by
    rw [HRl.o];exact if_neg (by rw [show Zh ts a [45] = false from hs]; simp)
   clear hs HRl;go_wp2_with fail;refine (Wq pb tb cap (d + 1) ts (.inl a) [110, 111, 116] w3 X3.o.at_ OK.o).mono ?_;rintro e w5 ⟨rfl, Zb, Zd⟩;have X5 := Za (X3.o.step Zb Zd);clear Zb Zd X3
   cases hs : Yw ts (.inl a) [110, 111, 116] with
   | true =>
    rw [hs, if_pos rfl] at X5
    have Yr : xQ (R = (U (a + 1)).go fun x b => .inl (Zn 15 [] 0 (Yg ts a) (Yf ts a) [] [] [x], b)) := by
     rw [F9.o];exact if_pos hs
    obtain ⟨⟨m0, m1, m2, m3, m4, m5, m6, m7⟩, ⟨g0, g1, g2, g3, g4, g5, g6, g7⟩, Gs⟩ := Zm (X5.o.box (p := (mb, (Yc 16 li co).obj)) (by simp));have X3 : xQ (RX pb tb cap ts w (w5.setCell ⟨mb, 0, none⟩ (.int .i64 15)) (d + 1) (Ph (.inl a)) [(mb, (Yc 15 li co).obj), (w.heap.size, Zi.obj)]) := X5.o.setB (by simp; omega) 0 (.int .i64 15);have HC := Za (HU.o _ _ X3.o.at_);clear hs F9 X5;go_wp2_with fail
    refine HC.o.mono ?_;clear HC m0 m1 m2 m3 m4 m5 m6 m7 g0 g1 g2 g3 g4 g5 g6 g7 Gs;rintro e w4 ⟨Zb, Zd, z, rfl, hv⟩;have X4 := Za (X3.o.step Zb Zd);have HZ4 : xQ (Xo (mb + 1) w4 z (U (a + 1))) := hv.lower (xB (X3.o.box (p := (mb, (Yc 15 li co).obj)) (by simp)));clear Zb Zd hv X3;obtain ⟨⟨m0, m1, m2, m3, m4, m5, m6, m7⟩, ⟨g0, g1, g2, g3, g4, g5, g6, g7⟩, Gs⟩ := Zm (X4.o.box (p := (mb, (Yc 15 li co).obj)) (by simp))
    obtain ⟨⟨r0, r1, r2, r3, r4, r5, r6, r7⟩, ⟨f0, f1, f2, f3, f4, f5, f6, f7⟩, hr4⟩ := Zm (X4.o.box (p := (w.heap.size, Zi.obj)) (by simp));obtain ⟨Tr, hd2⟩ := X4.o.at_.deep;have Xc := X4.o.at_.ltp
    have Vq : ¬ mb = w.heap.size := by omega
    have Wl : ¬ pb = mb := by omega
    have Hi : ¬ pb = w.heap.size := by omega
    have Fr : ¬ mb = pb := by omega
    have Gt : ¬ w.heap.size = pb := by omega
    have H4 : ¬ w.heap.size = mb := by omega
    have hdk : ((d + 1 : Nat) : Int) - 1 = (d : Int) := Eu d;go_wp2_with fail;obtain ⟨Wf, Zs⟩ := xE ((((((((((((w4.setCell ⟨mb, 7, none⟩ (.slice (some ⟨w4.heap.size + 1, 0, none⟩) 1 1)).setCell ⟨pb, 2, none⟩ (.int .i64 d)).setCell ⟨w.heap.size, 0, none⟩ (.int .i64 15)).setCell ⟨w.heap.size, 1, none⟩ (.string ⟨#[]⟩)).setCell ⟨w.heap.size, 2, none⟩ (.int .i64 0)).setCell ⟨w.heap.size, 3, none⟩ (.int .i64 li)).setCell ⟨w.heap.size, 4, none⟩ (.int .i64 co)).setCell ⟨w.heap.size, 5, none⟩ (.slice none 0 0)).setCell ⟨w.heap.size, 6, none⟩ (.slice none 0 0)).setCell ⟨w.heap.size, 7, none⟩ (.slice (some ⟨w4.heap.size + 1, 0, none⟩) 1 1)).alloc (.cells #[.int .i64 z.k, .string z.tx, .int .i64 z.N, .int .i64 z.li, .int .i64 z.co, .slice z.ta z.tl z.tc, .slice z.na z.nl z.nc, .slice z.ka z.kl z.kc] 38)).alloc (.cells #[.int .i64 z.k, .string z.tx, .int .i64 z.N, .int .i64 z.li, .int .i64 z.co, .slice z.ta z.tl z.tc, .slice z.na z.nl z.nc, .slice z.ka z.kl z.kc] 38))
    rw [<- Zs]
    have Uk : (put8 ((w4.setCell ⟨mb, 7, none⟩ (.slice (some ⟨w4.heap.size + 1, 0, none⟩) 1 1)).setCell ⟨pb, 2, none⟩ (.int .i64 d)) w.heap.size ⟨15, ⟨#[]⟩, 0, li, co, none, 0, 0, none, 0, 0, some ⟨w4.heap.size + 1, 0, none⟩, 1, 1⟩).heap.size = w4.heap.size := by rw [Q3, Ye, Ye]
    have Zw : xQ (RX pb tb cap ts w Wf d (Zf (U (a + 1))) [(w.heap.size, NV.obj ⟨15, ⟨#[]⟩, 0, li, co, none, 0, 0, none, 0, 0, some ⟨w4.heap.size + 1, 0, none⟩, 1, 1⟩)]) := by
     have h1 := (X4.o.perm (bx' := [(w.heap.size, Zi.obj)]) (by simp))
     have h2 := (h1.far (c := mb) (by omega) (by simp; omega) 7 (.slice (some ⟨w4.heap.size + 1, 0, none⟩) 1 1)).deep d;rw [Zs];exact (((h2.put8 (by simp) ⟨15, ⟨#[]⟩, 0, li, co, none, 0, 0, none, 0, 0, some ⟨w4.heap.size + 1, 0, none⟩, 1, 1⟩).alloc z.obj).drop.alloc z.obj).drop
    have Y6 : ∀ c, c ≠ w.heap.size -> c ≠ mb -> c ≠ pb -> c < w4.heap.size -> Wf.heap[c]? = w4.heap[c]? := fun c h1 h2 h4 h3 => by
     rw [Zs];exact (xA (by rw [xS, Uk]; omega)).trans ((xA (by rw [Uk]; exact h3)).trans ((U0 (x := ⟨15, ⟨#[]⟩, 0, li, co, none, 0, 0, none, 0, 0, some ⟨w4.heap.size + 1, 0, none⟩, 1, 1⟩) h1).trans ((xH h4).trans (xH h2))))
    have Yu : Wf.heap[w4.heap.size + 1]? = some z.obj := by
     have := Ti (put8 ((w4.setCell ⟨mb, 7, none⟩ (.slice (some ⟨w4.heap.size + 1, 0, none⟩) 1 1)).setCell ⟨pb, 2, none⟩ (.int .i64 d)) w.heap.size ⟨15, ⟨#[]⟩, 0, li, co, none, 0, 0, none, 0, 0, some ⟨w4.heap.size + 1, 0, none⟩, 1, 1⟩) z.obj z.obj;rw [Uk] at this;rw [Zs];exact this
    have Ue : w4.heap.size + 2 = Wf.heap.size := by rw [Zs, xS, xS]; simp only [Ye]
    clear Zs;refine r38 rfl rfl (Zw.o.box (p := (w.heap.size, NV.obj ⟨15, ⟨#[]⟩, 0, li, co, none, 0, 0, none, 0, 0, some ⟨w4.heap.size + 1, 0, none⟩, 1, 1⟩)) (by simp)) rfl ⟨Zw.o.st, ?_, ⟨15, ⟨#[]⟩, 0, li, co, none, 0, 0, none, 0, 0, some ⟨w4.heap.size + 1, 0, none⟩, 1, 1⟩, rfl, fun D c e => ?_⟩
    ·have := Zw.o.at_
     rw [Yr.o]
     cases Ws : U (a + 1) with
     | inr q => rw [Ws] at this; exact this
     | inl q => rw [Ws] at this; exact this
    ·rw [Yr.o] at e
     cases Ws : U (a + 1) with
     | inr q => rw [Ws] at e; cases e
     | inl q =>
      obtain ⟨D2, b2⟩ := q;rw [Ws] at e;injection e with e;injection e with e _;have hz : Yi (w.heap.size + 1) Wf z D2 := ((HZ4.o D2 b2 Ws).keep (by omega) fun c h6 h7 => Y6 c (by omega) (by omega) (by omega) h7).lower (by omega);have := (Nz (kb := w4.heap.size + 1) hz Yu (by omega) ⟨15, ⟨#[]⟩, 0, li, co, none, 0, 0, none, 0, 0, some ⟨w4.heap.size + 1, 0, none⟩, 1, 1⟩ [] [] ⟨rfl, rfl⟩ ⟨rfl, xZ _, 0, .inl rfl⟩ ⟨rfl, xZ _, .inl rfl⟩).lower (Nat.le_succ _)
      rw [<- e, <- Xf.o.1, <- Xf.o.2];exact this
   | false =>
    rw [hs, if_neg (by simp)] at X5
    have Yr : xQ (R = P a) := by
     rw [F9.o];exact if_neg (by rw [show Zh ts a [110, 111, 116] = false from hs]; simp)
    clear hs F9;go_wp2_with fail;refine (HP.o _ _ X5.o.at_).mono ?_;rintro e w6 ⟨Zb, Zd, z, rfl, hv⟩;have e0 : Zj P (.inl a) = R := Yr.o.symm;rw [e0] at Zd hv;have X6 := Za (X5.o.step Zb Zd);have HZ6 : xQ (Xo (mb + 1) w6 z R) := hv.lower (xB (X5.o.box (p := (mb, (Yc 16 li co).obj)) (by simp)));clear Zb Zd hv X5 e0;obtain ⟨⟨m0, m1, m2, m3, m4, m5, m6, m7⟩, ⟨g0, g1, g2, g3, g4, g5, g6, g7⟩, Gs⟩ := Zm (X6.o.box (p := (mb, (Yc 16 li co).obj)) (by simp))
    obtain ⟨⟨r0, r1, r2, r3, r4, r5, r6, r7⟩, ⟨f0, f1, f2, f3, f4, f5, f6, f7⟩, hr4⟩ := Zm (X6.o.box (p := (w.heap.size, Zi.obj)) (by simp));obtain ⟨Tr, hd2⟩ := X6.o.at_.deep;have Xc := X6.o.at_.ltp
    have Vq : ¬ mb = w.heap.size := by omega
    have Wl : ¬ pb = mb := by omega
    have Hi : ¬ pb = w.heap.size := by omega
    have Fr : ¬ mb = pb := by omega
    have Gt : ¬ w.heap.size = pb := by omega
    have H4 : ¬ w.heap.size = mb := by omega
    have hdk : ((d + 1 : Nat) : Int) - 1 = (d : Int) := Eu d;go_wp2_with fail;obtain ⟨Wf, Zs⟩ := xE (((((((((((((((((w6.setCell ⟨mb, 0, none⟩ (.int .i64 z.k)).setCell ⟨mb, 1, none⟩ (.string z.tx)).setCell ⟨mb, 2, none⟩ (.int .i64 z.N)).setCell ⟨mb, 3, none⟩ (.int .i64 z.li)).setCell ⟨mb, 4, none⟩ (.int .i64 z.co)).setCell ⟨mb, 5, none⟩ (.slice z.ta z.tl z.tc)).setCell ⟨mb, 6, none⟩ (.slice z.na z.nl z.nc)).setCell ⟨mb, 7, none⟩ (.slice z.ka z.kl z.kc)).setCell ⟨pb, 2, none⟩ (.int .i64 d)).setCell ⟨w.heap.size, 0, none⟩ (.int .i64 z.k)).setCell ⟨w.heap.size, 1, none⟩ (.string z.tx)).setCell ⟨w.heap.size, 2, none⟩ (.int .i64 z.N)).setCell ⟨w.heap.size, 3, none⟩ (.int .i64 z.li)).setCell ⟨w.heap.size, 4, none⟩ (.int .i64 z.co)).setCell ⟨w.heap.size, 5, none⟩ (.slice z.ta z.tl z.tc)).setCell ⟨w.heap.size, 6, none⟩ (.slice z.na z.nl z.nc)).setCell ⟨w.heap.size, 7, none⟩ (.slice z.ka z.kl z.kc))
    rw [<- Zs]
    have Zw : xQ (RX pb tb cap ts w Wf d (Zf R) [(w.heap.size, z.obj)]) := by
     have h1 := (RX.put8 (X6.o.perm (bx' := [(mb, (Yc 16 li co).obj), (w.heap.size, Zi.obj)]) (by simp)) (by simp; omega) z).deep d;rw [Zs];exact (h1.perm (bx' := [(w.heap.size, Zi.obj)]) (by simp)).put8 (by simp) z
    have Y6 : ∀ c, c ≠ w.heap.size -> c ≠ mb -> c ≠ pb -> Wf.heap[c]? = w6.heap[c]? := fun c h1 h2 h4 => by
     rw [Zs];exact (U0 (x := z) h1).trans ((xH h4).trans (U0 (x := z) h2))
    have Ue : w6.heap.size = Wf.heap.size := by rw [Zs]; simp only [Ye]
    clear Zs;refine r38 rfl rfl (Zw.o.box (p := (w.heap.size, z.obj)) (by simp)) rfl ⟨Zw.o.st, Zw.o.at_, z, rfl, fun D c e => ?_⟩;exact ((HZ6.o D c e).keep (by omega) fun c h6 h7 => Y6 c (by omega) (by omega) (by omega)).lower (by omega)
def Gj (ts : List Tok) (E : Nat -> Pr Ty) (R : Pr Ty) (lo nb : Nat) (S : Ya) (wr : World) (y : NV) (gk : Nat) : Prop :=
 (∃ b m x, S = .inl b /\ R = Uf ts E (m + 1) x b /\ ts.length <= b + m + 1 /\ Xj lo nb wr y x /\ ts.length - b <= gk) ∨ ∃ e, S = .inr e /\ R = .inr e
section
variable {ts : List Tok} {E : Nat -> Pr Ty} {R : Pr Ty} {lo nb gk : Nat} {S : Ya} {wr : World} {y : NV}
theorem Gj.done (h : Gj ts E R lo nb S wr y gk) (h1 : Yw ts S [40] = false) (h2 : Yw ts S [46] = false) : Zf R = S /\ ∀ D b, R = .inl (D, b) -> Xj lo nb wr y D := by
 rcases h with ⟨b, m, x, rfl, hr, _, hx, _⟩ | ⟨e, rfl, hr⟩
 ·have : R = .inl (x, b) := by
   have g1 : Zh ts b [40] = false := h1;have g2 : Zh ts b [46] = false := h2;rw [hr, Uf];simp [g1, g2]
  rw [this];refine ⟨rfl, fun D c e => ?_⟩;injection e with e;injection e with e _;rw [<- e];exact hx
 ·rw [hr]
  exact ⟨rfl, fun D b e => by cases e⟩
theorem Gj.call (h : Gj ts E R lo nb S wr y gk) (hs : Yw ts S [40] = true) (hu : ∀ a x b, E a = .inl (x, b) -> a <= b) : ∃ b x, S = .inl b /\ Xj lo nb wr y x /\ ts.length - b <= gk /\
  ((∃ D2 b2 b3, E (b + 1) = .inl (D2, b2) /\ Zf (Zj (fun a => Ze ts a [41]) (Zf (E (b + 1)))) = .inl b3 /\ b + 1 < b3 /\ (b3 < ts.length -> ∃ m, R = Uf ts E (m + 1) (Zn 7 [] 0 (Yg ts b) (Yf ts b) [] [] [x, D2]) b3 /\ ts.length <= b3 + m + 1)) ∨ ∃ e, Zf (Zj (fun a => Ze ts a [41]) (Zf (E (b + 1)))) = .inr e /\ R = .inr e) := by
 rcases h with ⟨b, m, x, rfl, hr, h3, hx, h5⟩ | ⟨e, rfl, hr⟩
 ·have g1 : Zh ts b [40] = true := hs
  rw [Uf, if_pos g1] at hr;refine ⟨b, x, rfl, hx, h5, ?_⟩
  cases hk : E (b + 1) with
  | inr e => exact .inr ⟨e, rfl, by rw [hr, hk]; rfl⟩
  | inl q =>
   obtain ⟨D2, b2⟩ := q;have Z0 := hu _ _ _ hk;rw [hk] at hr
   have Hj : R = (Ze ts b2 [41]).go fun _ b => Uf ts E m (Zn 7 [] 0 (Yg ts _) (Yf ts _) [] [] [x, D2]) b := hr
   show (∃ D2' b2' b3, _ /\ Zf (Ze ts b2 [41]) = .inl b3 /\ _) ∨ ∃ e, Zf (Ze ts b2 [41]) = .inr e /\ _
   cases hw : Ze ts b2 [41] with
   | inr e => exact .inr ⟨e, rfl, by rw [Hj, hw]; rfl⟩
   | inl q =>
    obtain ⟨u, b3⟩ := q;have Q1 := Ck hw;refine .inl ⟨D2, b2, b3, rfl, rfl, by omega, fun hl => ?_⟩
    obtain ⟨m, rfl⟩ : ∃ q, m = q + 1 := ⟨m - 1, by omega⟩
    exact ⟨m, by rw [Hj, hw]; rfl, by omega⟩
 ·cases hs
theorem Gj.sel (h : Gj ts E R lo nb S wr y gk) (h1 : Yw ts S [40] = false) (hs : Yw ts S [46] = true) : ∃ b x, S = .inl b /\ Xj lo nb wr y x /\ ts.length - b <= gk /\
  ((∃ s b3, Zr ts (b + 1) = .inl (s, b3) /\ b + 1 < b3 /\ (b3 < ts.length -> ∃ m, R = Uf ts E (m + 1) (Zn 9 s 0 (Yg ts b) (Yf ts b) [] [] [x]) b3 /\ ts.length <= b3 + m + 1)) ∨ ∃ e, Zr ts (b + 1) = .inr e /\ R = .inr e) := by
 rcases h with ⟨b, m, x, rfl, hr, h3, hx, h5⟩ | ⟨e, rfl, hr⟩
 ·have g1 : Zh ts b [40] = false := h1
  have g2 : Zh ts b [46] = true := hs;rw [Uf] at hr;simp only [g1, g2] at hr;refine ⟨b, x, rfl, hx, h5, ?_⟩
  have Hj : R = (Zr ts (b + 1)).go fun s c => Uf ts E m (Zn 9 s 0 (Yg ts b) (Yf ts b) [] [] [x]) c := hr
  cases hw : Zr ts (b + 1) with
  | inr e => exact .inr ⟨e, rfl, by rw [Hj, hw]; rfl⟩
  | inl q =>
   obtain ⟨s, b3⟩ := q;have Q1 := Gw hw;refine .inl ⟨s, b3, rfl, by omega, fun hl => ?_⟩
   obtain ⟨m, rfl⟩ : ∃ q, m = q + 1 := ⟨m - 1, by omega⟩
   exact ⟨m, by rw [Hj, hw]; rfl, by omega⟩
 ·cases hs
end
theorem dY (pb tb cap d : Nat) (ts : List Tok) (ok : Yh ts) (A E : Nat -> Pr Ty) (hu : ∀ a x b, E a = .inl (x, b) -> a <= b) (f : Nat) (hf : ts.length <= f + 1)
  (hA : ∀ S w, Z2 w pb tb cap ts d S -> Calls prog 166 #[pP pb] w (Vh pb tb cap ts d w (Zj A S)))
  (hE : ∀ S w, Z2 w pb tb cap ts d S -> Calls prog 37 #[pP pb] w (Vh pb tb cap ts d w (Zj E S)))
  (S : Ya) (w : World) (h : Z2 w pb tb cap ts d S) :
  Calls prog 156 #[pP pb] w (Vh pb tb cap ts d w (Zj (fun a => (A a).go fun x b => Uf ts E (f + 1) x b) S)) := by
 have HA := Za hA
 have HE := Za hE
 have HU := Za hu
 have OK := Za ok
 have X0 := Za (Lc h Zi.obj)
 obtain ⟨R, hR⟩ := xE (Zj (fun a => (A a).go fun x b => Uf ts E (f + 1) x b) S)
 obtain ⟨R1, Xb⟩ := xE (Zj A S)
 have Qn : xQ (R = R1.go fun x b => Uf ts E (f + 1) x b) := by
  rw [hR, Xb]
  cases S <;> rfl
 have V7 := Za (HA.o S _ X0.o.at_)
 rw [<- Xb] at V7
 rw [<- hR]
 clear hR Xb hA hE hu ok h
 go_enter func156, ntmps156
 go_wp2_with fail
 refine V7.o.mono ?_
 rintro e w1 ⟨Zb, Zd, x0, rfl, hv⟩
 have X1 := Za ((X0.o.step Zb Zd).alloc x0.obj)
 rw [xS] at hv
 have Xx := Zb.size
 rw [xS] at Xx
 obtain ⟨nb, Wb⟩ := xE w1.heap.size
 have N5 : xQ (Gj ts E R (w.heap.size + 1) nb (Zf R1) (w1.alloc x0.obj) x0 ts.length) := by
  have e2 := Qn.o
  cases hs : R1 with
  | inr p => exact .inr ⟨p, rfl, by rw [e2, hs]; rfl⟩
  | inl q =>
   obtain ⟨D, b⟩ := q;refine .inl ⟨b, f, D, rfl, by rw [e2, hs]; rfl, by omega, ?_, by omega⟩;rw [Wb];exact I2 (hv D b hs) _
 rw [<- Wb] at X1 Xx
 clear Zb Zd hv Qn X0 V7
 go_wp2_with fail
 rw [<- Wb]
 clear Wb
 go_loopg [4] (ts.length) (fun gk _ wr => ∃ (S : Ya) (y : NV), xQ (RX pb tb cap ts w wr d S [(nb, y.obj), (w.heap.size, Zi.obj)]) /\ xQ (Gj ts E R (w.heap.size + 1) nb S wr y gk))
 case atStart => exact ⟨_, x0, X1, N5⟩
 case round =>
  clear X1 N5;obtain ⟨S', y, X, HI⟩ := hrel;go_wp2_with fail;refine (Am pb tb cap d ts S' 7 _ X.o.at_).mono ?_;rintro e w2 ⟨li, co, rfl, Nf, Zb, Zd⟩;have X2 := Za ((X.o.step Zb Zd).alloc (Yc 7 li co).obj);have Y0 := xB (X.o.box (p := (nb, y.obj)) (by simp));have hp := X.o.hp;have Wc := Zb.size
  have HF2 : xQ (∀ b, w.heap.size + 1 <= b -> b < wr.heap.size -> (w2.alloc (Yc 7 li co).obj).heap[b]? = wr.heap[b]?) := fun b h1 h2 => (xA (xT h2 Zb.size)).trans (Zb.keep b (by omega) h2)
  have HbT : xQ (∀ b, S' = .inl b -> b < ts.length) := fun b e => by
   obtain ⟨a, ha⟩ := Zd;have := ha.live b e;have := ha.lt;omega
  have Pz := Za Nf
  have P3 : xQ (w2.heap.size < (w2.alloc (Yc 7 li co).obj).heap.size) := by show _ < _; rw [xS]; omega
  clear Zb Zd Nf X;go_wp2_with fail;obtain ⟨mb, Nw⟩ := xE w2.heap.size;rw [<- Nw] at X2 Wc P3 ⊢;clear Nw;generalize w2.alloc (.cells #[.int .i64 7, .string ⟨#[]⟩, .int .i64 0, .int .i64 li, .int .i64 co, .slice none 0 0, .slice none 0 0, .slice none 0 0] 38) = W2 at X2 HF2 P3 ⊢
  have hnm : nb < mb := by omega
  refine (Wq pb tb cap d ts S' [40] W2 X2.o.at_ OK.o).mono ?_;rintro e w3 ⟨rfl, Zb, Zd⟩;have X3 := Za (X2.o.step Zb Zd)
  have Tw : xQ (∀ b, w.heap.size + 1 <= b -> b < wr.heap.size -> w3.heap[b]? = wr.heap[b]?) := fun b h1 h2 => (Zb.keep b (by omega) (by have := P3.o; omega)).trans (HF2.o b h1 h2)
  have Wt : xQ (mb < w3.heap.size) := xT P3.o Zb.size;clear Zb Zd X2 HF2
  cases hs : Yw ts S' [40] with
  | true =>
   rw [hs, if_pos rfl] at X3;obtain ⟨b, x, Qg, hx, Ts, hor⟩ := HI.o.call hs HU.o;have HX := Za hx;have HOr := Za hor;obtain ⟨hl, hc⟩ := Pz.o b Qg;have Xf := Za (And.intro hl hc);have HGK := Za Ts;have hbT := HbT.o b Qg;have HC := Za (HE.o _ _ X3.o.at_)
   have e4 : Zj E (Ph S') = E (b + 1) := by rw [Qg]; rfl
   rw [e4] at HC;clear hs hx hor hl hc Qg Ts e4 Pz HI;go_wp2_with fail;refine HC.o.mono ?_;rintro e w4 ⟨Zb, Zd, z, rfl, hv⟩;have X4 := Za ((X3.o.step Zb Zd).alloc z.obj)
   have Ml : xQ (∀ b, w.heap.size + 1 <= b -> b < wr.heap.size -> (w4.alloc z.obj).heap[b]? = wr.heap[b]?) := fun b h1 h2 => (xA (by have := Wt.o; have := Zb.size; omega)).trans ((Zb.keep b (by omega) (by have := Wt.o; omega)).trans (Tw.o b h1 h2))
   have HZ4 : xQ (Xo (mb + 1) (w4.alloc z.obj) z (E (b + 1))) := (hv.lower Wt.o).below (Zq _ _);have hs4 := Zb.size
   have Xp : xQ (w4.heap.size < (w4.alloc z.obj).heap.size) := by show _ < _; rw [xS]; omega
   clear Zb Zd hv HC X3 Tw;go_wp2_with fail;obtain ⟨bb, hbb⟩ := xE w4.heap.size;rw [<- hbb] at X4 hs4 Xp ⊢;clear hbb;generalize w4.alloc (.cells #[.int .i64 z.k, .string z.tx, .int .i64 z.N, .int .i64 z.li, .int .i64 z.co, .slice z.ta z.tl z.tc, .slice z.na z.nl z.nc, .slice z.ka z.kl z.kc] 38) = W4 at X4 Ml HZ4 Xp ⊢
   have hmbb : mb < bb := by have := Wt.o; omega
   refine (Ua pb tb cap d ts (Zf (E (b + 1))) [41] W4 X4.o.at_ OK.o).mono ?_;rintro e w5 ⟨rfl, Zb, Zd⟩;obtain ⟨S5, hS5⟩ := xE (Zf (Zj (fun a => Ze ts a [41]) (Zf (E (b + 1)))));rw [<- hS5] at Zd HOr;have X5 := Za (X4.o.step Zb Zd)
   have HF5 : xQ (∀ b, w.heap.size + 1 <= b -> b < wr.heap.size -> w5.heap[b]? = wr.heap[b]?) := fun b h1 h2 => (Zb.keep b (by omega) (by have := Xp.o; omega)).trans (Ml.o b h1 h2)
   have HZ5 := Za (HZ4.o.stay Zb (by omega))
   have HLv : xQ (∀ c, S5 = .inl c -> c < ts.length) := fun c e => by
    obtain ⟨a, ha⟩ := Zd;have := ha.live c e;have := ha.lt;omega
   have hs5 := Zb.size;have HS5 : xQ (bb < w5.heap.size) := xT Xp.o Zb.size;clear Zb Zd X4 Ml HZ4 hS5;obtain ⟨⟨n0, n1, n2, n3, n4, n5, n6, n7⟩, ⟨f0, f1, f2, f3, f4, f5, f6, f7⟩, hnl5⟩ := Zm (X5.o.box (p := (nb, y.obj)) (by simp));obtain ⟨⟨m0, m1, m2, m3, m4, m5, m6, m7⟩, ⟨g0, g1, g2, g3, g4, g5, g6, g7⟩, hml5⟩ := Zm (X5.o.box (p := (mb, (Yc 7 li co).obj)) (by simp));obtain ⟨⟨z0, z1, z2, z3, z4, z5, z6, z7⟩, _, hbl5⟩ := Zm (X5.o.box (p := (bb, z.obj)) (by simp))
   have Vq : ¬ mb = nb := by omega
   have Wl : ¬ nb = mb := by omega
   have Hi : ¬ bb = mb := by omega
   have Fr : ¬ bb = nb := by omega
   go_wp2_with fail;obtain ⟨Wf, Zs⟩ := xE ((((((((((w5.setCell ⟨mb, 7, none⟩ (.slice (some ⟨w5.heap.size, 0, none⟩) 2 2)).setCell ⟨nb, 0, none⟩ (.int .i64 7)).setCell ⟨nb, 1, none⟩ (.string ⟨#[]⟩)).setCell ⟨nb, 2, none⟩ (.int .i64 0)).setCell ⟨nb, 3, none⟩ (.int .i64 li)).setCell ⟨nb, 4, none⟩ (.int .i64 co)).setCell ⟨nb, 5, none⟩ (.slice none 0 0)).setCell ⟨nb, 6, none⟩ (.slice none 0 0)).setCell ⟨nb, 7, none⟩ (.slice (some ⟨w5.heap.size, 0, none⟩) 2 2)).alloc (.cells #[.int .i64 y.k, .string y.tx, .int .i64 y.N, .int .i64 y.li, .int .i64 y.co, .slice y.ta y.tl y.tc, .slice y.na y.nl y.nc, .slice y.ka y.kl y.kc, .int .i64 z.k, .string z.tx, .int .i64 z.N, .int .i64 z.li, .int .i64 z.co, .slice z.ta z.tl z.tc, .slice z.na z.nl z.nc, .slice z.ka z.kl z.kc] 38))
   rw [<- Zs]
   have Uk : (put8 (w5.setCell ⟨mb, 7, none⟩ (.slice (some ⟨w5.heap.size, 0, none⟩) 2 2)) nb ⟨7, ⟨#[]⟩, 0, li, co, none, 0, 0, none, 0, 0, some ⟨w5.heap.size, 0, none⟩, 2, 2⟩).heap.size = w5.heap.size := by rw [Q3, Ye]
   have Zw : xQ (RX pb tb cap ts w Wf d S5 [(nb, NV.obj ⟨7, ⟨#[]⟩, 0, li, co, none, 0, 0, none, 0, 0, some ⟨w5.heap.size, 0, none⟩, 2, 2⟩), (w.heap.size, Zi.obj)]) := by
    have h1 := (X5.o.perm (bx' := [(nb, y.obj), (w.heap.size, Zi.obj)]) (by simp))
    have h2 := h1.far (c := mb) (by omega) (by simp; omega) 7 (.slice (some ⟨w5.heap.size, 0, none⟩) 2 2);rw [Zs];exact ((h2.put8 (by simp; omega) ⟨7, ⟨#[]⟩, 0, li, co, none, 0, 0, none, 0, 0, some ⟨w5.heap.size, 0, none⟩, 2, 2⟩).alloc (Mh y z)).drop
   have Y6 : ∀ c, c ≠ nb -> c ≠ mb -> c < w5.heap.size -> Wf.heap[c]? = w5.heap[c]? := fun c h1 h2 h3 => by
    rw [Zs];exact (xA (by rw [Uk]; exact h3)).trans ((U0 (x := ⟨7, ⟨#[]⟩, 0, li, co, none, 0, 0, none, 0, 0, some ⟨w5.heap.size, 0, none⟩, 2, 2⟩) h1).trans (xH h2))
   have Yu : Wf.heap[w5.heap.size]? = some (Mh y z) := by
    have := xL (put8 (w5.setCell ⟨mb, 7, none⟩ (.slice (some ⟨w5.heap.size, 0, none⟩) 2 2)) nb ⟨7, ⟨#[]⟩, 0, li, co, none, 0, 0, none, 0, 0, some ⟨w5.heap.size, 0, none⟩, 2, 2⟩) (Mh y z);rw [Uk] at this;rw [Zs];exact this
   have Ue : w5.heap.size + 1 = Wf.heap.size := by rw [Zs, xS]; simp only [Ye]
   have HLF : xQ (∃ g', g' < gk /\ Gj ts E R (w.heap.size + 1) nb S5 Wf ⟨7, ⟨#[]⟩, 0, li, co, none, 0, 0, none, 0, 0, some ⟨w5.heap.size, 0, none⟩, 2, 2⟩ g') := by
    have Ts := HGK.o;have h55 := HS5.o;rcases HOr.o with ⟨D2, b2, b3, h1, h2, h3, h4⟩ | ⟨er, h1, h2⟩
    ·have Q1 := HLv.o b3 h2
     obtain ⟨m, h5, h6⟩ := h4 Q1;refine ⟨ts.length - b3, by omega, .inl ⟨b3, m, _, h2, h5, by omega, fun o => ?_, xR⟩⟩
     have hy : Xj (w.heap.size + 1) nb Wf y x := HX.o.keep Y0 (by omega) fun c h6 h7 h8 => (Y6 c h8 (by omega) (by omega)).trans (HF5.o c h6 h7)
     have hz : Xj (w.heap.size + 1) nb Wf z D2 := I1 (lo' := mb + 1) ((HZ5.o D2 b2 h1).keep (by omega) fun c h6 h7 => Y6 c (by omega) (by omega) h7) (by omega) (by omega);have := Jn (kb := w5.heap.size) (hy o) (hz o) ((Gh o (by omega)).trans Yu) (by omega) ⟨7, ⟨#[]⟩, 0, li, co, none, 0, 0, none, 0, 0, some ⟨w5.heap.size, 0, none⟩, 2, 2⟩ [] [] ⟨rfl, rfl⟩ ⟨rfl, xZ _, 0, .inl rfl⟩ ⟨rfl, xZ _, .inl rfl⟩
     rw [<- Xf.o.1, <- Xf.o.2];exact this
    ·exact ⟨0, by omega, .inr ⟨er, h1, h2⟩⟩
   clear Zs Yu Y6 Ue Uk;obtain ⟨g', Pg, hL⟩ := HLF.o
   go_roundg g'
   case measure => exact Pg
   case rel => exact ⟨_, _, Zw, hL⟩
  | false =>
   rw [hs, if_neg (by simp)] at X3;have HS40 := Za hs;clear hs;go_wp2_with fail;refine (Wq pb tb cap d ts S' [46] w3 X3.o.at_ OK.o).mono ?_;rintro e w4 ⟨rfl, Zb, Zd⟩;have X4 := Za (X3.o.step Zb Zd)
   have Ml : xQ (∀ b, w.heap.size + 1 <= b -> b < wr.heap.size -> w4.heap[b]? = wr.heap[b]?) := fun b h1 h2 => (Zb.keep b (by omega) (by have := Wt.o; omega)).trans (Tw.o b h1 h2)
   have Xp : xQ (mb < w4.heap.size) := xT Wt.o Zb.size;clear Zb Zd X3 Tw
   cases hs : Yw ts S' [46] with
   | false =>
    rw [hs, if_neg (by simp)] at X4;have HD := Za (HI.o.done HS40.o hs);clear hs HS40;obtain ⟨⟨n0, n1, n2, n3, n4, n5, n6, n7⟩, _, Rg⟩ := Zm (X4.o.box (p := (nb, y.obj)) (by simp));obtain ⟨⟨r0, r1, r2, r3, r4, r5, r6, r7⟩, ⟨f0, f1, f2, f3, f4, f5, f6, f7⟩, hr4⟩ := Zm (X4.o.box (p := (w.heap.size, Zi.obj)) (by simp))
    have H4 : ¬ nb = w.heap.size := by omega
    go_wp2_with fail;have XF := RX.put8 (X4.o.perm (bx' := [(w.heap.size, Zi.obj)]) (by simp)) (by simp) y;refine r38 rfl rfl (XF.box (p := (w.heap.size, y.obj)) (by simp)) rfl ⟨XF.st, ?_, y, rfl, fun D c e => ?_⟩
    ·rw [HD.o.1]
     exact XF.at_
    ·have h1 : Xj (w.heap.size + 1) nb w4 y D := (HD.o.2 D c e).keep Y0 (by have := Xp.o; omega) fun c h6 h7 h8 => Ml.o c h6 h7
     exact ((h1.now Rg).put8 (xU _) y).lower (Nat.le_succ _)
   | true =>
    rw [hs, if_pos rfl] at X4;obtain ⟨b, x, Qg, hx, Ts, hor⟩ := HI.o.sel HS40.o hs;have HX := Za hx;have HOr := Za hor;obtain ⟨hl, hc⟩ := Pz.o b Qg;have Xf := Za (And.intro hl hc);have HGK := Za Ts;have hbT := HbT.o b Qg
    have e4 : Ph S' = .inl (b + 1) := by rw [Qg]; rfl
    rw [e4] at X4;obtain ⟨⟨m0, m1, m2, m3, m4, m5, m6, m7⟩, ⟨g0, g1, g2, g3, g4, g5, g6, g7⟩, Gs⟩ := Zm (X4.o.box (p := (mb, (Yc 7 li co).obj)) (by simp));have X4' : xQ (RX pb tb cap ts w (w4.setCell ⟨mb, 0, none⟩ (.int .i64 9)) d (.inl (b + 1)) [(mb, (Yc 9 li co).obj), (nb, y.obj), (w.heap.size, Zi.obj)]) := X4.o.setB (by simp; omega) 0 (.int .i64 9);clear hs hx hor hl hc Qg Ts e4 Pz HI HS40 X4;go_wp2_with fail
    refine (L3 pb tb cap d ts (.inl (b + 1)) _ X4'.o.at_ OK.o).mono ?_;rintro e w5 ⟨rfl, Zb, Zd⟩;have e5 : Zj (Zr ts) (.inl (b + 1)) = Zr ts (b + 1) := rfl;rw [e5] at Zd ⊢;obtain ⟨s, hs⟩ := xE (Wm (Zr ts (b + 1)));rw [<- hs];have Jy := Za hs;have X5 := Za (X4'.o.step Zb Zd);have h45 := Zb.size;rw [Ye] at h45
    have HF5 : xQ (∀ b, w.heap.size + 1 <= b -> b < wr.heap.size -> w5.heap[b]? = wr.heap[b]?) := fun b h1 h2 => (Zb.keep b (by omega) (by rw [Ye]; have := Xp.o; omega)).trans ((xH (by show b ≠ mb; omega)).trans (Ml.o b h1 h2))
    have HLv : xQ (∀ c, Zf (Zr ts (b + 1)) = .inl c -> c < ts.length) := fun c e => by
     obtain ⟨a, ha⟩ := Zd;have := ha.live c e;have := ha.lt;omega
    clear Zb Zd X4' Ml e5 hs m0 m1 m2 m3 m4 m5 m6 m7 g0 g1 g2 g3 g4 g5 g6 g7 Gs;obtain ⟨⟨n0, n1, n2, n3, n4, n5, n6, n7⟩, ⟨f0, f1, f2, f3, f4, f5, f6, f7⟩, hnl5⟩ := Zm (X5.o.box (p := (nb, y.obj)) (by simp));obtain ⟨⟨m0, m1, m2, m3, m4, m5, m6, m7⟩, ⟨g0, g1, g2, g3, g4, g5, g6, g7⟩, hml5⟩ := Zm (X5.o.box (p := (mb, (Yc 9 li co).obj)) (by simp))
    have Vq : ¬ mb = nb := by omega
    have Wl : ¬ nb = mb := by omega
    go_wp2_with fail;obtain ⟨Wf, Zs⟩ := xE (((((((((((w5.setCell ⟨mb, 1, none⟩ (.string ⟨s.toArray⟩)).setCell ⟨mb, 7, none⟩ (.slice (some ⟨w5.heap.size, 0, none⟩) 1 1)).setCell ⟨nb, 0, none⟩ (.int .i64 9)).setCell ⟨nb, 1, none⟩ (.string ⟨s.toArray⟩)).setCell ⟨nb, 2, none⟩ (.int .i64 0)).setCell ⟨nb, 3, none⟩ (.int .i64 li)).setCell ⟨nb, 4, none⟩ (.int .i64 co)).setCell ⟨nb, 5, none⟩ (.slice none 0 0)).setCell ⟨nb, 6, none⟩ (.slice none 0 0)).setCell ⟨nb, 7, none⟩ (.slice (some ⟨w5.heap.size, 0, none⟩) 1 1)).alloc (.cells #[.int .i64 y.k, .string y.tx, .int .i64 y.N, .int .i64 y.li, .int .i64 y.co, .slice y.ta y.tl y.tc, .slice y.na y.nl y.nc, .slice y.ka y.kl y.kc] 38))
    rw [<- Zs]
    have Uk : (put8 ((w5.setCell ⟨mb, 1, none⟩ (.string ⟨s.toArray⟩)).setCell ⟨mb, 7, none⟩ (.slice (some ⟨w5.heap.size, 0, none⟩) 1 1)) nb ⟨9, ⟨s.toArray⟩, 0, li, co, none, 0, 0, none, 0, 0, some ⟨w5.heap.size, 0, none⟩, 1, 1⟩).heap.size = w5.heap.size := by rw [Q3, Ye, Ye]
    have Zw : xQ (RX pb tb cap ts w Wf d (Zf (Zr ts (b + 1))) [(nb, NV.obj ⟨9, ⟨s.toArray⟩, 0, li, co, none, 0, 0, none, 0, 0, some ⟨w5.heap.size, 0, none⟩, 1, 1⟩), (w.heap.size, Zi.obj)]) := by
     have h1 := (X5.o.perm (bx' := [(nb, y.obj), (w.heap.size, Zi.obj)]) (by simp))
     have h2 := (h1.far (c := mb) (by omega) (by simp; omega) 1 (.string ⟨s.toArray⟩)).far (c := mb) (by omega) (by simp; omega) 7 (.slice (some ⟨w5.heap.size, 0, none⟩) 1 1);rw [Zs];exact ((h2.put8 (by simp; omega) ⟨9, ⟨s.toArray⟩, 0, li, co, none, 0, 0, none, 0, 0, some ⟨w5.heap.size, 0, none⟩, 1, 1⟩).alloc y.obj).drop
    have Y6 : ∀ c, c ≠ nb -> c ≠ mb -> c < w5.heap.size -> Wf.heap[c]? = w5.heap[c]? := fun c h1 h2 h3 => by
     rw [Zs];exact (xA (by rw [Uk]; exact h3)).trans ((U0 (x := ⟨9, ⟨s.toArray⟩, 0, li, co, none, 0, 0, none, 0, 0, some ⟨w5.heap.size, 0, none⟩, 1, 1⟩) h1).trans ((xH h2).trans (xH h2)))
    have Yu : Wf.heap[w5.heap.size]? = some y.obj := by
     have := xL (put8 ((w5.setCell ⟨mb, 1, none⟩ (.string ⟨s.toArray⟩)).setCell ⟨mb, 7, none⟩ (.slice (some ⟨w5.heap.size, 0, none⟩) 1 1)) nb ⟨9, ⟨s.toArray⟩, 0, li, co, none, 0, 0, none, 0, 0, some ⟨w5.heap.size, 0, none⟩, 1, 1⟩) y.obj;rw [Uk] at this;rw [Zs];exact this
    have Ue : w5.heap.size + 1 = Wf.heap.size := by rw [Zs, xS]; simp only [Ye]
    have HLF : xQ (∃ g', g' < gk /\ Gj ts E R (w.heap.size + 1) nb (Zf (Zr ts (b + 1))) Wf ⟨9, ⟨s.toArray⟩, 0, li, co, none, 0, 0, none, 0, 0, some ⟨w5.heap.size, 0, none⟩, 1, 1⟩ g') := by
     have Ts := HGK.o;have h44 := Xp.o;rcases HOr.o with ⟨s', b3, h1, h3, h4⟩ | ⟨er, h1, h2⟩
     ·have Jj : Zf (Zr ts (b + 1)) = .inl b3 := by rw [h1]; rfl
      have Q1 := HLv.o b3 Jj;obtain ⟨m, h5, h6⟩ := h4 Q1
      have hss : s = s' := by rw [Jy.o, h1]; rfl
      refine ⟨ts.length - b3, by omega, .inl ⟨b3, m, _, Jj, h5, by omega, fun o => ?_, xR⟩⟩
      have hy : Xj (w.heap.size + 1) nb Wf y x := HX.o.keep Y0 (by omega) fun c h6 h7 h8 => (Y6 c h8 (by omega) (by omega)).trans (HF5.o c h6 h7)
      have := Nz (kb := w5.heap.size) (hy o) ((Gh o (by omega)).trans Yu) (by omega) ⟨9, ⟨s.toArray⟩, 0, li, co, none, 0, 0, none, 0, 0, some ⟨w5.heap.size, 0, none⟩, 1, 1⟩ [] [] ⟨rfl, rfl⟩ ⟨rfl, xZ _, 0, .inl rfl⟩ ⟨rfl, xZ _, .inl rfl⟩;rw [<- hss, <- Xf.o.1, <- Xf.o.2];exact this
     ·exact ⟨0, by omega, .inr ⟨er, by rw [h1]; rfl, h2⟩⟩
    clear Zs Yu Y6 Ue Uk;obtain ⟨g', Pg, hL⟩ := HLF.o
    go_roundg g'
    case measure => exact Pg
    case rel => exact ⟨_, _, Zw, hL⟩
end Go.Proofs.YtfoejkhfdiodhaaGreatDoor
namespace Go.Proofs.YtfoejkhfdiodhaaGreatDoor
open Go.Proofs.Tryz
open Go.RowKit
theorem yD (pb tb cap : Nat) (ts : List Tok) (ok : Yh ts) (f : Nat) (hf : ts.length <= f + 1) : ∀ (n d : Nat), d + n = 101 -> d <= 100 -> ∀ (S : Ya) (w : World), Z2 w pb tb cap ts d S ->
  Calls prog 77 #[pP pb] w (Pq pb tb cap ts d w (Zj (Xl ts (f + 1) n d) S))
 | 0, d, h1, h2, _, _, _ => absurd h1 (by omega)
 | n + 1, d, h1, h2, S, w, h => by
  have hK : d < 100 -> ∀ S w, Z2 w pb tb cap ts (d + 1) S -> Calls prog 77 #[pP pb] w (Pq pb tb cap ts (d + 1) w (Zj (Xl ts (f + 1) n (d + 1)) S)) := fun hd S w h => yD pb tb cap ts ok f hf n (d + 1) (by omega) (by omega) S w h
  have hu : ∀ a x b, Xl ts (f + 1) n (d + 1) a = .inl (x, b) -> a <= b := fun a x b h => Af h
  have hA : d < 100 -> ∀ S w, Z2 w pb tb cap ts (d + 1) S -> Calls prog 120 #[pP pb] w (Pq pb tb cap ts (d + 1) w (Zj (Ke ts (Xl ts (f + 1) n (d + 1)) (f + 1)) S)) := fun hd S w h => by
   have := ralt_c pb tb cap (d + 1) ts ok (Pj ts (Xl ts (f + 1) n (d + 1)) (f + 1)) f hf (fun a x b h => qA hu h) (fun S w h => dZ pb tb cap (d + 1) ts ok _ f hf hu (hK hd) S w h) S w h
   cases S with
   | inl a => exact this
   | inr p => exact this
  have := dN pb tb cap d ts ok _ _ (by omega) hA hK S w h
  cases S with
  | inl a => exact this
  | inr p => exact this
end Go.Proofs.YtfoejkhfdiodhaaGreatDoor
namespace Go.Proofs.YtfoejkhfdiodhaaGreatDoor
open Go.Proofs.Tryz
open Go.RowKit
attribute [local go_sem ↓] Go.wp_at_zero Go.wp_at_succ
theorem fW (pb tb cap d : Nat) (ts : List Tok) (A : Nat -> Pr Ty) (hd : d <= 1000)
  (hA : d < 100 -> ∀ S w, Z2 w pb tb cap ts (d + 1) S -> Calls prog 80 #[pP pb] w (Vh pb tb cap ts (d + 1) w (Zj A S)))
  (S : Ya) (w : World) (h : Z2 w pb tb cap ts d S) :
  Calls prog 37 #[pP pb] w (Vh pb tb cap ts d w (Zj (fun a => if 100 <= d then Wa ts 6 a else A a) S)) := by
 obtain ⟨R, hR⟩ : ∃ R : Pr Ty, R = Zj (fun a => if 100 <= d then Wa ts 6 a else A a) S := ⟨_, rfl⟩
 rw [<- hR]
 have HR := Za hR
 have HA := Za hA
 have X0 := Za (Lc h Zi.obj)
 have Tv := Za (fun wx hx => yC pb tb cap d ts S hd wx hx)
 clear h hA hR
 cases Vv : Lq d S with
 | false =>
  have HS : xQ (Zf R = P5 ts d S /\ ∀ x b, R ≠ .inl (x, b)) := by
   show _ /\ _;rw [HR.o]
   cases S with
   | inr p =>
    refine ⟨?_, fun x b e => by cases e⟩;show Sum.inr p = P5 ts d (.inr p);unfold P5
    split <;> rfl
   | inl a =>
    have Pb : 100 <= d := by simp [Lq] at Vv; exact Vv
    refine ⟨?_, fun x b e => ?_⟩
    ·show Zf (if 100 <= d then _ else _) = P5 ts d (.inl a)
     unfold P5;rw [if_pos Pb, if_pos Pb];rfl
    ·have : (if 100 <= d then (Wa ts 6 a : Pr Ty) else _) = .inl (x, b) := e
     rw [if_pos Pb] at this;cases this
  rw [Vv] at Tv;clear Vv;go_enter func37, ntmps37;go_wp2_with fail;refine (Tv.o _ X0.o.at_).mono ?_;rintro e w1 ⟨rfl, Zb, Zd⟩;have X1 := Za (X0.o.step Zb Zd);clear Zb Zd;obtain ⟨⟨r0, r1, r2, r3, r4, r5, r6, r7⟩, ⟨f0, f1, f2, f3, f4, f5, f6, f7⟩, Yn⟩ := Zm (X1.o.box (p := (w.heap.size, Zi.obj)) (by simp));go_wp2_with fail;have XF := RX.put8 X1.o (by simp) Zi;refine r38 rfl rfl (XF.box (p := (w.heap.size, Zi.obj)) (by simp)) rfl ⟨XF.st, ?_, Zi, rfl, fun x b e => absurd e (HS.o.2 x b)⟩
  rw [HS.o.1];exact XF.at_
 | true =>
  obtain ⟨a, rfl⟩ : ∃ a, S = .inl a := by cases S with
   | inl a => exact ⟨a, rfl⟩
   | inr p => cases Vv
  have Pb : ¬ 100 <= d := by simp [Lq] at Vv; omega
  replace HA := Za (HA.o (by omega))
  have HRl : xQ (Zj A (.inl a) = R) := by rw [HR.o]; exact (if_neg Pb).symm
  have e1 : P5 ts d (.inl a) = .inl a := if_neg Pb;rw [Vv, e1] at Tv;clear Vv e1 HR;go_enter func37, ntmps37;go_wp2_with fail;refine (Tv.o _ X0.o.at_).mono ?_;rintro e w1 ⟨rfl, Zb, Zd⟩;have X1 := Za (X0.o.step Zb Zd);clear Zb Zd X0;have hp := X1.o.hp;have HC := Za (HA.o _ _ X1.o.at_);rw [HRl.o] at HC;go_wp2_with fail;refine HC.o.mono ?_;rintro e w6 ⟨Zb, Zd, z, rfl, hv⟩;have X6 := Za (X1.o.step Zb Zd)
  have HZ6 : xQ (Xo (w.heap.size + 1) w6 z R) := hv.lower (xB (X1.o.box (p := (w.heap.size, Zi.obj)) (by simp)));clear Zb Zd hv X1 HC;obtain ⟨⟨r0, r1, r2, r3, r4, r5, r6, r7⟩, ⟨f0, f1, f2, f3, f4, f5, f6, f7⟩, hr4⟩ := Zm (X6.o.box (p := (w.heap.size, Zi.obj)) (by simp));obtain ⟨Tr, hd2⟩ := X6.o.at_.deep;have Xc := X6.o.at_.ltp
  have Hi : ¬ pb = w.heap.size := by omega
  have Gt : ¬ w.heap.size = pb := by omega
  have hdk : ((d + 1 : Nat) : Int) - 1 = (d : Int) := Eu d;go_wp2_with fail;obtain ⟨Wf, Zs⟩ := xE ((((((((((w6.setCell ⟨pb, 2, none⟩ (.int .i64 d)).setCell ⟨w.heap.size, 0, none⟩ (.int .i64 z.k)).setCell ⟨w.heap.size, 1, none⟩ (.string z.tx)).setCell ⟨w.heap.size, 2, none⟩ (.int .i64 z.N)).setCell ⟨w.heap.size, 3, none⟩ (.int .i64 z.li)).setCell ⟨w.heap.size, 4, none⟩ (.int .i64 z.co)).setCell ⟨w.heap.size, 5, none⟩ (.slice z.ta z.tl z.tc)).setCell ⟨w.heap.size, 6, none⟩ (.slice z.na z.nl z.nc)).setCell ⟨w.heap.size, 7, none⟩ (.slice z.ka z.kl z.kc)).alloc (.cells #[.int .i64 z.k, .string z.tx, .int .i64 z.N, .int .i64 z.li, .int .i64 z.co, .slice z.ta z.tl z.tc, .slice z.na z.nl z.nc, .slice z.ka z.kl z.kc] 38))
  rw [<- Zs]
  have Zw : xQ (RX pb tb cap ts w Wf d (Zf R) [(w.heap.size, z.obj)]) := by
   rw [Zs];exact (((X6.o.deep d).put8 (by simp) z).alloc z.obj).drop
  have Uk : (put8 (w6.setCell ⟨pb, 2, none⟩ (.int .i64 d)) w.heap.size z).heap.size = w6.heap.size := by rw [Q3, Ye]
  have Y6 : ∀ c, c ≠ w.heap.size -> c ≠ pb -> c < w6.heap.size -> Wf.heap[c]? = w6.heap[c]? := fun c h1 h2 h3 => by
   rw [Zs];exact (xA (by rw [Uk]; exact h3)).trans ((U0 (x := z) h1).trans (xH h2))
  have Ue : w6.heap.size + 1 = Wf.heap.size := by rw [Zs, xS]; simp only [Ye]
  clear Zs;refine r38 rfl rfl (Zw.o.box (p := (w.heap.size, z.obj)) (by simp)) rfl ⟨Zw.o.st, Zw.o.at_, z, rfl, fun D c e => ?_⟩;exact ((HZ6.o D c e).keep (by omega) fun c h6 h7 => Y6 c (by omega) (by omega) h7).lower (by omega)
theorem sD (pb tb cap d : Nat) (ts : List Tok) (A : Nat -> Pr Ty)
  (hA : ∀ S w, Z2 w pb tb cap ts d S -> Calls prog 144 #[pP pb] w (Vh pb tb cap ts d w (Zj A S)))
  (S : Ya) (w : World) (h : Z2 w pb tb cap ts d S) :
  Calls prog 122 #[pP pb, .int .i64 6] w (Vh pb tb cap ts d w (Zj A S)) := by
 have HA := Za hA
 have hp := h.ltp
 have X0 := Za ((((((((Lc h Zi.obj).alloc (Wj (Uq 0))).alloc (Wj (Uq 1))).alloc (Wj (Uq 2))).alloc (Wj (Uq 3))).alloc (Wj (Uq 4))).alloc (Wj (Uq 5))).alloc (L4 w.heap.size))
 obtain ⟨R, hR⟩ := xE (Zj A S)
 have Qn := Za hR
 rw [<- hR]
 clear h hA hR
 go_enter func122, ntmps122
 go_wp2_with fail
 refine (HA.o S _ X0.o.at_).mono ?_
 rintro e w6 ⟨Zb, Zd, z, rfl, hv⟩
 rw [<- Qn.o] at Zd hv
 have X6 := Za ((X0.o.step Zb Zd).perm (bx' := [(w.heap.size, Zi.obj)]) (by simp))
 have hv' := hv
 simp only [xS] at hv'
 have HZ6 : xQ (Xo (w.heap.size + 1) w6 z R) := hv'.lower (by omega)
 clear Zb Zd hv hv' X0
 obtain ⟨⟨r0, r1, r2, r3, r4, r5, r6, r7⟩, ⟨f0, f1, f2, f3, f4, f5, f6, f7⟩, hr4⟩ := Zm (X6.o.box (p := (w.heap.size, Zi.obj)) (by simp))
 go_wp2_with fail
 have XF := RX.put8 X6.o (by simp) z
 refine r38 rfl rfl (XF.box (p := (w.heap.size, z.obj)) (by simp)) rfl ⟨XF.st, XF.at_, z, rfl, fun D c e => ?_⟩
 exact ((HZ6.o D c e).put8 (xU _) z).lower (Nat.le_succ _)
theorem sC (pb tb cap d : Nat) (ts : List Tok) (A : Nat -> Pr Ty)
  (hA : ∀ S w, Z2 w pb tb cap ts d S -> Calls prog 145 #[pP pb] w (Vh pb tb cap ts d w (Zj A S)))
  (S : Ya) (w : World) (h : Z2 w pb tb cap ts d S) :
  Calls prog 122 #[pP pb, .int .i64 2] w (Vh pb tb cap ts d w (Zj A S)) := by
 have HA := Za hA
 have hp := h.ltp
 have X0 := Za ((((((((Lc h Zi.obj).alloc (Wj (Uq 0))).alloc (Wj (Uq 1))).alloc (Wj (Uq 2))).alloc (Wj (Uq 3))).alloc (Wj (Uq 4))).alloc (Wj (Uq 5))).alloc (L4 w.heap.size))
 obtain ⟨R, hR⟩ := xE (Zj A S)
 have Qn := Za hR
 rw [<- hR]
 clear h hA hR
 go_enter func122, ntmps122
 go_wp2_with fail
 refine (HA.o S _ X0.o.at_).mono ?_
 rintro e w6 ⟨Zb, Zd, z, rfl, hv⟩
 rw [<- Qn.o] at Zd hv
 have X6 := Za ((X0.o.step Zb Zd).perm (bx' := [(w.heap.size, Zi.obj)]) (by simp))
 have hv' := hv
 simp only [xS] at hv'
 have HZ6 : xQ (Xo (w.heap.size + 1) w6 z R) := hv'.lower (by omega)
 clear Zb Zd hv hv' X0
 obtain ⟨⟨r0, r1, r2, r3, r4, r5, r6, r7⟩, ⟨f0, f1, f2, f3, f4, f5, f6, f7⟩, hr4⟩ := Zm (X6.o.box (p := (w.heap.size, Zi.obj)) (by simp))
 go_wp2_with fail
 have XF := RX.put8 X6.o (by simp) z
 refine r38 rfl rfl (XF.box (p := (w.heap.size, z.obj)) (by simp)) rfl ⟨XF.st, XF.at_, z, rfl, fun D c e => ?_⟩
 exact ((HZ6.o D c e).put8 (xU _) z).lower (Nat.le_succ _)
theorem ror_c (pb tb cap d : Nat) (ts : List Tok) (ok : Yh ts) (K U : Nat -> Pr Ty) (f : Nat) (hf : ts.length <= f + 1) (huK : ∀ a x b, K a = .inl (x, b) -> a <= b) (huU : ∀ a x b, U a = .inl (x, b) -> a <= b)
  (hK : ∀ S w, Z2 w pb tb cap ts d S -> Calls prog 77 #[pP pb] w (Pq pb tb cap ts d w (Zj K S)))
  (hU : ∀ S w, Z2 w pb tb cap ts d S -> Calls prog 144 #[pP pb] w (Vh pb tb cap ts d w (Zj U S)))
  (S : Ya) (w : World) (h : Z2 w pb tb cap ts d S) :
  Calls prog 122 #[pP pb, .int .i64 0] w (Vh pb tb cap ts d w (Zj (Dy ts K U (f + 1)) S)) := by
 have h6 : ∀ S w, Z2 w pb tb cap ts d S -> Calls prog 122 #[pP pb, .int .i64 ((5 + 1 : Nat) : Int)] w (Vh pb tb cap ts d w (Zj U S)) := fun S w h => sD pb tb cap d ts U hU S w h
 have h5 : ∀ S w, Z2 w pb tb cap ts d S -> Calls prog 122 #[pP pb, .int .i64 ((4 + 1 : Nat) : Int)] w (Vh pb tb cap ts d w (Zj (As ts U (f + 1)) S)) := fun S w h => Ca pb tb cap d ts ok 5 (by omega) (by omega) U huU f hf h6 S w h
 have u5 := Kq (ts := ts) (L := [[42], [47], [37], [38], [60, 60], [62, 62]]) huU (f + 1)
 have h4 : ∀ S w, Z2 w pb tb cap ts d S -> Calls prog 122 #[pP pb, .int .i64 ((3 + 1 : Nat) : Int)] w (Vh pb tb cap ts d w (Zj (D8 ts U (f + 1)) S)) := fun S w h => Ca pb tb cap d ts ok 4 (by omega) (by omega) (As ts U (f + 1)) u5 f hf h5 S w h
 have u4 : ∀ a x b, D8 ts U (f + 1) a = .inl (x, b) -> a <= b := Kq (ts := ts) (L := [[43], [45], [94]]) (sub := As ts U (f + 1)) u5 (f + 1)
 have h3 : ∀ S w, Z2 w pb tb cap ts d S -> Calls prog 122 #[pP pb, .int .i64 3] w (Vh pb tb cap ts d w (Zj (J7 ts U (f + 1)) S)) := fun S w h => Ca pb tb cap d ts ok 3 (by omega) (by omega) (D8 ts U (f + 1)) u4 f hf h4 S w h
 have u3 : ∀ a x b, J7 ts U (f + 1) a = .inl (x, b) -> a <= b := Kq (ts := ts) (L := [[43, 43]]) (sub := D8 ts U (f + 1)) u4 (f + 1)
 have hc : ∀ S w, Z2 w pb tb cap ts d S -> Calls prog 145 #[pP pb] w (Vh pb tb cap ts d w (Zj (K5 ts K (J7 ts U (f + 1))) S)) := fun S w h => rcmp_c pb tb cap d ts ok K (J7 ts U (f + 1)) hK h3 S w h
 have h2 : ∀ S w, Z2 w pb tb cap ts d S -> Calls prog 122 #[pP pb, .int .i64 ((1 + 1 : Nat) : Int)] w (Vh pb tb cap ts d w (Zj (K5 ts K (J7 ts U (f + 1))) S)) := fun S w h => sC pb tb cap d ts _ hc S w h
 have u2 := yQ (ts := ts) huK u3
 have h1 : ∀ S w, Z2 w pb tb cap ts d S -> Calls prog 122 #[pP pb, .int .i64 ((0 + 1 : Nat) : Int)] w (Vh pb tb cap ts d w (Zj (Sv ts K U (f + 1)) S)) := fun S w h => Ca pb tb cap d ts ok 1 (by omega) (by omega) (K5 ts K (J7 ts U (f + 1))) u2 f hf h2 S w h
 have u1 : ∀ a x b, Sv ts K U (f + 1) a = .inl (x, b) -> a <= b := Kq (ts := ts) (L := [[97, 110, 100]]) (sub := K5 ts K (J7 ts U (f + 1))) u2 (f + 1)
 exact Ca pb tb cap d ts ok 0 (by omega) (by omega) (Sv ts K U (f + 1)) u1 f hf h1 S w h
theorem qF (pb tb cap : Nat) (ts : List Tok) (ok : Yh ts) (f : Nat) (hf : ts.length <= f + 1) : ∀ (n d : Nat), d + n = 101 -> d <= 100 ->
  (∀ (S : Ya) (w : World), Z2 w pb tb cap ts d S -> Calls prog 37 #[pP pb] w (Vh pb tb cap ts d w (Zj (Wo ts (f + 1) n false d) S))) /\
  (∀ (S : Ya) (w : World), Z2 w pb tb cap ts d S -> Calls prog 144 #[pP pb] w (Vh pb tb cap ts d w (Zj (Wo ts (f + 1) n true d) S)))
 | 0, d, h1, h2 => absurd h1 (by omega)
 | n + 1, d, h1, h2 => by
  have hK : d < 100 -> ∀ S w, Z2 w pb tb cap ts (d + 1) S -> Calls prog 77 #[pP pb] w (Pq pb tb cap ts (d + 1) w (Zj (Xl ts (f + 1) 101 (d + 1)) S)) := fun hd S w h => by
   have e : Xl ts (f + 1) 101 (d + 1) = Xl ts (f + 1) (100 - d) (d + 1) := funext fun a => zF ts (f + 1) 101 (100 - d) (d + 1) a (by omega) (by omega)
   rw [e];exact yD pb tb cap ts ok f hf (100 - d) (d + 1) (by omega) (by omega) S w h
  have ih := fun hd : d < 100 => qF pb tb cap ts ok f hf n (d + 1) (by omega) (by omega)
  have huK : ∀ a x b, Xl ts (f + 1) 101 (d + 1) a = .inl (x, b) -> a <= b := fun a x b h => Af h
  have huE := Sz ts (f + 1) n false (d + 1);have huU := Sz ts (f + 1) n true (d + 1);refine ⟨fun S w h => ?_, fun S w h => ?_⟩
  ·have := fW pb tb cap d ts (P6 ts (Xl ts (f + 1) 101 (d + 1)) (Wo ts (f + 1) n false (d + 1)) (Wo ts (f + 1) n true (d + 1)) (f + 1)) (by omega) (fun hd S w h => dM pb tb cap (d + 1) ts ok _ _ _ (f + 1) (hK hd) (ih hd).1 (fun S w h => ror_c pb tb cap (d + 1) ts ok _ _ f hf huK huU (hK hd) (ih hd).2 S w h) S w h) S w h
   cases S with
   | inl a => exact this
   | inr p => exact this
  ·have := sK pb tb cap d ts ok (Wo ts (f + 1) n true (d + 1)) (fun a => (Qp ts (Xl ts (f + 1) 101 (d + 1)) (Wo ts (f + 1) n false (d + 1)) (f + 1) a).go fun x b => Uf ts (Wo ts (f + 1) n false (d + 1)) (f + 1) x b) (by omega) (fun hd => (ih hd).2) (fun hd S w h => dY pb tb cap (d + 1) ts ok _ _ huE f hf (fun S w h => fY pb tb cap (d + 1) ts ok _ _ f hf huK (hK hd) (ih hd).1 (fun a li co w h1 h2 h => rrec_c pb tb cap (d + 1) ts ok _ f hf huE (ih hd).1 a li co w h1 h2 h) S w h) (ih hd).1 S w h) S w h
   cases S with
   | inl a => exact this
   | inr p => exact this
end Go.Proofs.YtfoejkhfdiodhaaGreatDoor
