/- Part. -/
import Derived.Test.YtfoejkhfdiodhaaGreatDoorPart28
set_option maxRecDepth 100000
set_option maxHeartbeats 4000000
namespace Go.Proofs.YtfoejkhfdiodhaaGreatDoor
open Go.Proofs.Tryz
open Go.RowKit
def BegP (w : World) (R : List Tok ⊕ (Int × Nat × Nat)) (e : Ending) (w' : World) : Prop :=
 Below w.heap.size w w' /\ match R with
 | .inr (x, li, co) => ∃ pb, e = .returned (.tuple #[pP pb, M6 li co x])
 | .inl ts => ∃ pb g cap, e = .returned (.tuple #[pP pb, M6 0 0 0]) /\ w.heap.size <= pb /\ Z2 w' pb g cap ts 0 (.inl 0)
def LexF (lo : Nat) (w' : World) (ga : Option Addr) (gl li co : Nat) (x : Int) : List Tok ⊕ (Int × Nat × Nat) -> Prop
 | .inr p => p = (x, li, co)
 | .inl ts => ∃ g, ga = some ⟨g, 0, none⟩ /\ gl = ts.length /\ li = 0 /\ co = 0 /\ x = 0 /\ Gl w' g ts /\ g < w'.heap.size /\ lo <= g
theorem kX {w : World} {R : List Tok ⊕ (Int × Nat × Nat)} {e : Ending} {w' : World} (h : Lx.LexPost w R e w') : Below w.heap.size w w' /\ ∃ (ga : Option Addr) (gl gc li co : Nat) (x : Int), e = .returned (.tuple #[.slice ga gl gc, M6 li co x]) /\ LexF w.heap.size w' ga gl li co x R := by
 obtain ⟨hb, hm⟩ := h
 refine ⟨hb, ?_⟩
 cases R with
 | inr p =>
  obtain ⟨x, li, co⟩ := p;exact ⟨none, 0, 0, li, co, x, hm, rfl⟩
 | inl ts =>
  obtain ⟨g, cap, he, Xk⟩ := hm;have := Xk.lt g rfl;exact ⟨some ⟨g, 0, none⟩, ts.length, cap, 0, 0, 0, he, g, rfl, rfl, rfl, rfl, rfl, Ol Xk, this.2, this.1⟩
abbrev Um (li co : Nat) (x : Int) : Obj := .cells #[.int .i64 0, .int .i64 li, .int .i64 co, .int .i64 x] 29
theorem dB (S : ByteArray) (hS : S.size <= 140737488351232) (w : World) :
  Calls prog 13 #[.string S] w (BegP w (Tk S.data.toList)) := by
 have HX := Za (fun wx => Lx.lexR_c S hS wx)
 obtain ⟨R, hR⟩ := xE (Tk S.data.toList)
 rw [<- hR] at HX ⊢
 have HR := Za hR
 clear hR
 go_enter func13, ntmps13
 go_wp2_with fail
 refine (HX.o _).mono ?_
 intro e w2 Zg
 obtain ⟨Z0, ga, gl, gc, li, co, x, rfl, hm⟩ := kX Zg
 have Yx := Za Z0
 have HM := Za hm
 have Pw : xQ (w2.heap[w.heap.size]? = some G6) := (Z0.block _ (by simp)).trans (xL _ _)
 clear Zg Z0 hm
 have Vr : xQ (Below w.heap.size w (w2.alloc (Um li co x))) := Zx (Zx (Zq _ _) Yx.o) (Zq _ _)
 have Qm : xQ ((w2.alloc (Um li co x)).heap[w2.heap.size]? = some (Um li co x)) := xL _ _
 have Nm : xQ ((w2.alloc (Um li co x)).heap[w.heap.size]? = some G6) := (xA (xB Pw.o)).trans Pw.o
 have HM3 : xQ (LexF (w.heap.size + 1) (w2.alloc (Um li co x)) ga gl li co x R) := by
  have := HM.o
  cases R with
  | inr p => exact this
  | inl ts =>
   obtain ⟨g, h1, h2, h3, h4, h5, h6, h7, h8⟩ := this;exact ⟨g, h1, h2, h3, h4, h5, Qk h6 (xA h7), by rw [xS]; omega, by rw [xS] at h8; omega⟩
 have hlt0 : w.heap.size < w2.heap.size := xB Pw.o
 go_wp2_with fail
 obtain ⟨db, Kh⟩ := xE w2.heap.size
 rw [<- Kh] at Qm hlt0 ⊢
 clear Kh HM Pw Yx
 generalize w2.alloc (Um li co x) = W2 at Vr Qm Nm HM3 ⊢
 have V0 := xB Qm.o
 have Nn : xQ (∀ W : World, W.heap[db]? = some (Um li co x) -> W.cell? ⟨db, 0, none⟩ = some (.int .i64 0) /\ W.cell? ⟨db, 1, none⟩ = some (.int .i64 li) /\ W.cell? ⟨db, 2, none⟩ = some (.int .i64 co) /\ W.cell? ⟨db, 3, none⟩ = some (.int .i64 x)) := fun W h => (Z6 h).1
 have Qf := Nn.o W2 Qm.o
 have Nv := xB Nm.o
 obtain ⟨⟨r0, r1, r2, r3⟩, ⟨f0, f1, f2, f3⟩, Xu⟩ := Z6 Nm.o
 obtain ⟨s0, s1, s2, s3⟩ := Qf
 go_region
 go_wp2_with fail
 have Uy := set4 Nm.o (.int .i64 0) (.int .i64 li) (.int .i64 co) (.int .i64 x)
 have hsz : ((((W2.setCell ⟨w.heap.size, 0, none⟩ (.int .i64 0)).setCell ⟨w.heap.size, 1, none⟩ (.int .i64 li)).setCell ⟨w.heap.size, 2, none⟩ (.int .i64 co)).setCell ⟨w.heap.size, 3, none⟩ (.int .i64 x)).heap.size = W2.heap.size := Mg ..
 refine bodyPost_ret (Lx.results_tmp_cell rfl _ rfl ((xA (by rw [hsz]; exact Nv)).trans Uy) underlying29 (by kernel_rfl)) rfl ?_
 refine ⟨((V9 Vr.o (xR) _ _ _ _).alloc (by rw [hsz]; exact Vr.o.size) _).drew, ?_⟩
 have HM4 := HM3.o
 have HRo := HR.o
 cases R with
 | inr p =>
  obtain rfl : p = (x, li, co) := HM4;exact ⟨_, rfl⟩
 | inl ts =>
  obtain ⟨g, rfl, rfl, rfl, rfl, rfl, h6, h7, h8⟩ := HM4;have ok := E2 HRo.symm
  have hgn : g ≠ w.heap.size := by omega
  refine ⟨W2.heap.size, g, gc, rfl, by have := Vr.o.size; omega, 0, ?_, ok.pos, (fun b e => Sum.inl.inj e.symm), (fun _ e => nomatch e), h7, ?_⟩
  ·have := xL ((((W2.setCell ⟨w.heap.size, 0, none⟩ (.int .i64 0)).setCell ⟨w.heap.size, 1, none⟩ (.int .i64 ((0 : Nat) : Int))).setCell ⟨w.heap.size, 2, none⟩ (.int .i64 ((0 : Nat) : Int))).setCell ⟨w.heap.size, 3, none⟩ (.int .i64 0)) (rpO g ts.length gc 0 0 0 0 0)
   rw [hsz] at this;exact this
  ·exact Qk h6 ((xA (by rw [hsz]; exact h7)).trans (Xs hgn _ _ _ _))
theorem lF {α : Type} (ts : List Tok) (R : Pr α) : (∃ x b, R = .inl (x, b) /\ M7 ts (Zf R) = .inl b /\ Bh (Bz ts R) = .inl x) ∨ ∃ p, M7 ts (Zf R) = .inr p /\ Bh (Bz ts R) = .inr p := by
 cases R with
 | inr p => exact .inr ⟨p, rfl, rfl⟩
 | inl q =>
  obtain ⟨x, b⟩ := q;by_cases h : ((Zk ts b).kind == 0) = true
  ·refine .inl ⟨x, b, rfl, if_pos h, ?_⟩
   show Bh (if (Zk ts b).kind == 0 then .inl (x, b) else Wa ts 7 b) = _;rw [if_pos h];rfl
  ·refine .inr ⟨(7, (Zk ts b).line, (Zk ts b).col), if_neg h, ?_⟩
   show Bh (if (Zk ts b).kind == 0 then .inl (x, b) else Wa ts 7 b) = _;rw [if_neg h];rfl
theorem A9 (w : World) (i : Nat) : w.drew.heap[i]? = w.heap[i]? := rfl
theorem jO {l : List UInt8} {ts : List Tok} (h : Tk l = .inl ts) : Nk l = Bh (Bz ts (Fw ts)) := by
 rw [<- uR]
 exact uS h
theorem fX (S : ByteArray) (hS : S.size <= 140737488351232) (w : World) :
  Calls prog 6 #[.string S] w (J6 w Y2.val Da (Nk S.data.toList)) := by
 go_enter func6, ntmps6
 go_wp2_with fail
 refine (dB S hS _).mono ?_
 intro e w2 Zg
 obtain ⟨Z0, hm⟩ := Zg
 have Yx : xQ (Below w.heap.size w w2) := Zx (Zx (Zq _ _) (Zq _ _)) Z0
 have HA0 : xQ (w2.heap[w.heap.size]? = some Y2.obj) := (Z0.block _ (by rw [xS, xS]; omega)).trans ((xA (by rw [xS]; omega)).trans (xL w _))
 have Pw : xQ (w2.heap[w.heap.size + 1]? = some G6) := (Z0.block _ (by rw [xS, xS]; omega)).trans (Ti w _ _)
 have Wc : w.heap.size + 2 <= w2.heap.size := xB Pw.o
 clear Z0
 rw [xS, xS] at hm
 cases hl : Tk S.data.toList with
 | inr p =>
  obtain ⟨x, li, co⟩ := p;rw [hl] at hm;obtain ⟨pb, rfl⟩ := hm
  have hx0 : (x != 0) = true := by simpa using Ip hl
  have HE : xQ (Nk S.data.toList = .inr (x, li, co)) := by show _ = _; unfold Nk; rw [hl]
  have Kt := Za ((Below.heap_alloc w2 (Um li co x) _ (xB HA0.o)).trans HA0.o);have Ku := Za ((Below.heap_alloc w2 (Um li co x) _ (xB Pw.o)).trans Pw.o);have HGw := Za (xL w2 (Um li co x));have HBw := Za (Zx Yx.o (Zq w2 (Um li co x)));clear hl;go_wp2_with fail;obtain ⟨db, Kh⟩ := xE w2.heap.size;rw [<- Kh] at HGw Wc ⊢;clear Kh HA0 Pw Yx;generalize w2.alloc (Um li co x) = W2 at Kt Ku HGw HBw ⊢;obtain ⟨⟨a0, a1⟩, ⟨q0, q1⟩, Lw⟩ := Qd Kt.o
  obtain ⟨⟨d0, d1, d2, d3⟩, ⟨g0, g1, g2, g3⟩, Jc⟩ := Z6 Ku.o;obtain ⟨⟨s0, s1, s2, s3⟩, _, Ng⟩ := Z6 HGw.o
  have Vq : ¬ db = w.heap.size := by omega
  have Wl : ¬ db = w.heap.size + 1 := by omega
  go_region
  all_goals
   go_wp2_with fail;obtain ⟨Wf, Zs⟩ := xE ((((((((W2.setCell ⟨w.heap.size, 0, none⟩ (.slice none 0 0)).setCell ⟨w.heap.size, 1, none⟩ (.slice none 0 0)).setCell ⟨w.heap.size + 1, 0, none⟩ (.int .i64 0)).setCell ⟨w.heap.size + 1, 1, none⟩ (.int .i64 li)).setCell ⟨w.heap.size + 1, 2, none⟩ (.int .i64 co)).setCell ⟨w.heap.size + 1, 3, none⟩ (.int .i64 x)).drew));rw [<- Zs]
   have Vk : Wf.heap[w.heap.size]? = some Y2.obj := by
    rw [Zs, A9];exact (Xs (b := w.heap.size + 1) (i := w.heap.size) (by omega) (.int .i64 0) (.int .i64 li) (.int .i64 co) (.int .i64 x)).trans (Gz (x := Y2) Kt.o)
   have Ui : Wf.heap[w.heap.size + 1]? = some (Um li co x) := by
    rw [Zs, A9];exact set4 ((Hp (x := Y2) (b := w.heap.size) (i := w.heap.size + 1) (by omega)).trans Ku.o) (.int .i64 0) (.int .i64 li) (.int .i64 co) (.int .i64 x)
   have hbW : Below w.heap.size w Wf := by
    rw [Zs];exact (V9 (Fj HBw.o (xR) Y2) (by omega) (.int .i64 0) (.int .i64 li) (.int .i64 co) (.int .i64 x)).drew
   clear Zs;refine bodyPost_ret (La rfl _ rfl Vk underlying26 (by kernel_rfl) rfl Ui underlying29 (by kernel_rfl)) rfl ?_;rw [HE.o];exact ⟨hbW, rfl⟩
 | inl ts =>
  rw [hl] at hm;obtain ⟨pb, g, cap, rfl, hpb, Zd⟩ := hm;have OK := Za (E2 hl);have HE := Za (jO hl);have HPB := Za hpb;have Jr := Za (Zd.alloc (Um 0 0 0));have Xc := Zd.ltp;have Kt := Za ((Below.heap_alloc w2 (Um 0 0 0) _ (xB HA0.o)).trans HA0.o);have Ku := Za ((Below.heap_alloc w2 (Um 0 0 0) _ (xB Pw.o)).trans Pw.o);have HGw := Za (xL w2 (Um 0 0 0));have HBw := Za (Zx Yx.o (Zq w2 (Um 0 0 0)));have HK := Za (dP pb g cap ts OK.o _ Jr.o)
  obtain ⟨RK, hRK⟩ := xE (Fw ts);rw [<- hRK] at HK HE;clear hl Zd hpb hRK;go_wp2_with fail;obtain ⟨db, Kh⟩ := xE w2.heap.size;rw [<- Kh] at HGw Wc Xc ⊢;clear Kh HA0 Pw Yx;generalize w2.alloc (Um 0 0 0) = W2 at Kt Ku HGw HBw Jr HK ⊢;refine HK.o.mono ?_;rintro e w3 ⟨Zb, Zd, z, rfl, hv⟩;have Lz := Zb.size;have hlG := xB HGw.o;have V8 := Za (Zb.trans (Zl.of (xT Xc (Nat.le_trans (Nat.le_of_lt hlG) Lz)) (Zq w3 (z.obj))))
  have HAT3 := Za (Zd.alloc (z.obj));have Kc := Za (xL w3 (z.obj))
  have Bv : xQ (∀ D b, RK = .inl (D, b) -> Vu (db + 1) (w3.alloc z.obj) z D) := fun D b e => ((hv D b e).lower (show db + 1 <= W2.heap.size from hlG)).keep (by rw [xS]; omega) fun b _ hl => xA hl
  clear Zb Zd hv HK Jr;go_wp2_with fail;obtain ⟨tb, Ww⟩ := xE w3.heap.size;rw [<- Ww] at Kc Lz ⊢;clear Ww;generalize w3.alloc (.cells #[.slice z.ia z.il z.ic, .slice z.da z.dl z.dc] 26) = W3 at V8 HAT3 Kc Bv ⊢;refine (rend_c pb g cap 0 ts (Zf RK) W3 HAT3.o).mono ?_;rintro e w4 ⟨rfl, Zb, Zd⟩;obtain ⟨li, B5⟩ := xE (lS (M7 ts (Zf RK)));obtain ⟨co, Th⟩ := xE (cS (M7 ts (Zf RK)));obtain ⟨er, her⟩ := xE (eS (M7 ts (Zf RK)))
  rw [<- B5, <- Th, <- her];have HFt := Za (And.intro B5 (And.intro Th her));clear B5 Th her;have hpB := HPB.o;have Qa := Za (V8.o.trans Zb);have Lf := Za ((Qa.o.below.block _ (by omega)).trans Kt.o);have My := Za ((Qa.o.below.block _ (by omega)).trans Ku.o);have HG4 := Za ((Qa.o.keep _ (by omega) hlG).trans HGw.o);have HT4 := Za ((Zb.keep _ (by omega) (xB Kc.o)).trans Kc.o);have Mk : xQ (Below w.heap.size w w4) := HBw.o.trans (Qa.o.below.mono (by omega))
  have P4 : xQ (∀ D b, RK = .inl (D, b) -> Vu (db + 1) w4 z D) := fun D b e => (Bv.o D b e).stay Zb (by omega)
  have HBad : xQ (∀ p, M7 ts (Zf RK) = .inr p -> p.1 ≠ 0) := fun p e => by
   obtain ⟨a, ha⟩ := Zd;exact ha.bad p e
  clear Zb Zd V8 HAT3 Kc Bv Kt Ku HGw HBw;obtain ⟨⟨a0, a1⟩, ⟨q0, q1⟩, Lw⟩ := Qd Lf.o;obtain ⟨⟨d0, d1, d2, d3⟩, ⟨g0, g1, g2, g3⟩, Jc⟩ := Z6 My.o;obtain ⟨⟨s0, s1, s2, s3⟩, ⟨y0, y1, y2, y3⟩, Ng⟩ := Z6 HG4.o;obtain ⟨⟨t0, t1⟩, _, Zo⟩ := Qd HT4.o
  have Vq : ¬ db = w.heap.size := by omega
  have Wl : ¬ db = w.heap.size + 1 := by omega
  have Hi : ¬ tb = w.heap.size := by omega
  have Fr : ¬ tb = w.heap.size + 1 := by omega
  have Gt : ¬ tb = db := by omega
  rcases lF ts RK with ⟨D, b, hR, he, hd⟩ | ⟨p, he, hd⟩
  ·have To := Za (HE.o.trans hd)
   have HR := Za hR
   have HZ0 : xQ (li = 0 /\ co = 0 /\ er = 0) := by
    have := HFt.o;rw [he] at this;exact this
   have hx0 : (er != 0) = false := by rw [HZ0.o.2.2]; rfl
   clear he hd hR HFt;go_wp2_with fail;go_region
   all_goals
    go_wp2_with fail;obtain ⟨Wf, Zs⟩ := xE (((((((((((((w4.setCell ⟨db, 0, none⟩ (.int .i64 0)).setCell ⟨db, 1, none⟩ (.int .i64 li)).setCell ⟨db, 2, none⟩ (.int .i64 co)).setCell ⟨db, 3, none⟩ (.int .i64 er)).setCell ⟨w.heap.size, 0, none⟩ (.slice z.ia z.il z.ic)).setCell ⟨w.heap.size, 1, none⟩ (.slice z.da z.dl z.dc)).setCell ⟨w.heap.size + 1, 0, none⟩ (.int .i64 0)).setCell ⟨w.heap.size + 1, 1, none⟩ (.int .i64 li)).setCell ⟨w.heap.size + 1, 2, none⟩ (.int .i64 co)).setCell ⟨w.heap.size + 1, 3, none⟩ (.int .i64 er))).drew))
    rw [<- Zs]
    have Vk : Wf.heap[w.heap.size]? = some z.obj := by
     rw [Zs, A9];exact (Xs (b := w.heap.size + 1) (i := w.heap.size) (by omega) (.int .i64 0) (.int .i64 li) (.int .i64 co) (.int .i64 er)).trans (Gz (x := z) (y := Y2) ((Xs (w := w4) (b := db) (i := w.heap.size) (by omega) (.int .i64 0) (.int .i64 li) (.int .i64 co) (.int .i64 er)).trans Lf.o))
    have Ui : Wf.heap[w.heap.size + 1]? = some (Um li co er) := by
     rw [Zs, A9];exact set4 ((Hp (x := z) (b := w.heap.size) (i := w.heap.size + 1) (by omega)).trans ((Xs (w := w4) (b := db) (i := w.heap.size + 1) (by omega) (.int .i64 0) (.int .i64 li) (.int .i64 co) (.int .i64 er)).trans My.o)) (.int .i64 0) (.int .i64 li) (.int .i64 co) (.int .i64 er)
    have hbW : Below w.heap.size w Wf := by
     rw [Zs];exact (V9 (Fj (V9 Mk.o (by omega) (.int .i64 0) (.int .i64 li) (.int .i64 co) (.int .i64 er)) (xR) z) (by omega) (.int .i64 0) (.int .i64 li) (.int .i64 co) (.int .i64 er)).drew
    have Hh : ∀ D b, RK = .inl (D, b) -> Vu (db + 1) Wf z D := fun D b e => by
     rw [Zs];exact ((((P4.o D b e).set4 (b := db) (by omega) (.int .i64 0) (.int .i64 li) (.int .i64 co) (.int .i64 er)).putM (b := w.heap.size) (by omega) z).set4 (b := w.heap.size + 1) (by omega) (.int .i64 0) (.int .i64 li) (.int .i64 co) (.int .i64 er)).drew
    clear Zs;refine bodyPost_ret (La rfl _ rfl Vk underlying26 (by kernel_rfl) rfl Ui underlying29 (by kernel_rfl)) rfl ?_;rw [To.o];obtain ⟨e1, e2, e3⟩ := HZ0.o;subst e1 e2 e3;exact ⟨hbW, _, rfl, z, rfl, (Hh D b HR.o).lower (by omega)⟩
  ·have To := Za (HE.o.trans hd)
   have HZ0 : xQ (p = (er, li, co)) := by
    have := HFt.o;rw [he] at this;obtain ⟨p1, p2, p3⟩ := p;obtain ⟨h1, h2, h3⟩ := this;have e1 : li = p2 := h1;have e2 : co = p3 := h2;have e3 : er = p1 := h3;show _ = _;rw [e1, e2, e3]
   have hx0 : (er != 0) = true := by
    have h1 := HBad.o _ he;rw [HZ0.o] at h1
    simpa using h1
   clear he hd HFt;go_wp2_with fail;go_region
   all_goals
    go_wp2_with fail;obtain ⟨Wf, Zs⟩ := xE (((((((((((((w4.setCell ⟨db, 0, none⟩ (.int .i64 0)).setCell ⟨db, 1, none⟩ (.int .i64 li)).setCell ⟨db, 2, none⟩ (.int .i64 co)).setCell ⟨db, 3, none⟩ (.int .i64 er)).setCell ⟨w.heap.size, 0, none⟩ (.slice none 0 0)).setCell ⟨w.heap.size, 1, none⟩ (.slice none 0 0)).setCell ⟨w.heap.size + 1, 0, none⟩ (.int .i64 0)).setCell ⟨w.heap.size + 1, 1, none⟩ (.int .i64 li)).setCell ⟨w.heap.size + 1, 2, none⟩ (.int .i64 co)).setCell ⟨w.heap.size + 1, 3, none⟩ (.int .i64 er))).drew))
    rw [<- Zs]
    have Vk : Wf.heap[w.heap.size]? = some Y2.obj := by
     rw [Zs, A9];exact (Xs (b := w.heap.size + 1) (i := w.heap.size) (by omega) (.int .i64 0) (.int .i64 li) (.int .i64 co) (.int .i64 er)).trans (Gz (x := Y2) (y := Y2) ((Xs (w := w4) (b := db) (i := w.heap.size) (by omega) (.int .i64 0) (.int .i64 li) (.int .i64 co) (.int .i64 er)).trans Lf.o))
    have Ui : Wf.heap[w.heap.size + 1]? = some (Um li co er) := by
     rw [Zs, A9];exact set4 ((Hp (x := Y2) (b := w.heap.size) (i := w.heap.size + 1) (by omega)).trans ((Xs (w := w4) (b := db) (i := w.heap.size + 1) (by omega) (.int .i64 0) (.int .i64 li) (.int .i64 co) (.int .i64 er)).trans My.o)) (.int .i64 0) (.int .i64 li) (.int .i64 co) (.int .i64 er)
    have hbW : Below w.heap.size w Wf := by
     rw [Zs];exact (V9 (Fj (V9 Mk.o (by omega) (.int .i64 0) (.int .i64 li) (.int .i64 co) (.int .i64 er)) (xR) Y2) (by omega) (.int .i64 0) (.int .i64 li) (.int .i64 co) (.int .i64 er)).drew
    clear Zs;refine bodyPost_ret (La rfl _ rfl Vk underlying26 (by kernel_rfl) rfl Ui underlying29 (by kernel_rfl)) rfl ?_;rw [To.o, HZ0.o];exact ⟨hbW, rfl⟩
theorem uT {w : World} {na : Option Addr} {ns : List (List UInt8)} (h : Db w na ns) {i : Nat} (hi : i < ns.length) : ∃ b o, na = some ⟨b, o, none⟩ /\ b < w.heap.size /\ w.cell? ⟨b, o + i, none⟩ = some (.string ⟨ns[i].toArray⟩) := by
 rcases h with rfl | ⟨b, o, e, hb, hc⟩
 ·cases hi
 ·exact ⟨b, o, e, hb, hc i hi⟩
theorem yL (na nb : Option Addr) (ca cb : Nat) (ns : List (List UInt8)) (w : World) (ha : Db w na ns) (hb : Db w nb ns) (hl : ns.length <= 140737488351232) :
  Calls prog 16 #[.slice na ns.length ca, .slice nb ns.length cb] w fun e w' => e = .returned (.bool true) /\ ∃ q, w' = w.drewN q := by
 have HA := Za ha
 have HB := Za hb
 have e1 : ((ns.length : Int) != (ns.length : Int)) = false := by simp
 clear ha hb
 go_enter func16, ntmps16
 go_wp2_with fail
 go_loopw [5] (fun i wx => ∃ j q : Nat, i = .int .i64 j /\ j <= ns.length /\ wx = w.drewN q) (fun i _ => ns.length - (intOf i).toNat)
 case atStart => exact ⟨0, 0, rfl, xZ _, rfl⟩
 case round =>
  obtain ⟨j, q, rfl, hj, rfl⟩ := hrel;by_cases Zo : j < ns.length
  ·have Qt : (j : Int) < (ns.length : Int) := by omega
   obtain ⟨b, o, rfl, Z8, hc⟩ := uT HA.o Zo;obtain ⟨b', o', rfl, hbl', Hb⟩ := uT HB.o Zo
   obtain ⟨S1, P7⟩ : ∃ S1 : ByteArray, S1 = ⟨ns[j].toArray⟩ := ⟨_, rfl⟩
   rw [<- P7] at hc Hb
   have e5 : (S1.toList == S1.toList) = true := by simp
   clear P7;go_wp2_with fail
   go_quiet (fail)
   go_wp2_with fail;exact ⟨⟨j + 1, _, by go_num, by omega, rfl⟩, by simp [intOf]; omega⟩
  ·have Qt : ¬ (j : Int) < (ns.length : Int) := by omega
   go_wp2_with fail;go_ret;exact ⟨rfl, q, rfl⟩
def xI (n : Nat) : Prop := ∀ (va vb : Value) (D : Ty) (w : World), Dd w false n va D -> Dd w false n vb D -> Calls prog 39 #[va, vb] w fun e w' => e = .returned (.bool true) /\ Below w.heap.size w w'
theorem zG (n : Nat) (ih : xI n) (ka kb : Option Addr) (ca cb : Nat) (ks : List Ty) (w : World) (ha : A3 w false n ka ks) (hb : A3 w false n kb ks) (hl : ks.length <= 140737488351232) :
  Calls prog 40 #[.slice ka ks.length ca, .slice kb ks.length cb] w fun e w' => e = .returned (.bool true) /\ Below w.heap.size w w' := by
 have HA := Za ha
 have HB := Za hb
 have IH := Za ih
 have e1 : ((ks.length : Int) != (ks.length : Int)) = false := by simp
 clear ha hb ih
 go_enter func40, ntmps40
 go_wp2_with fail
 go_loopw [5] (fun i wx => ∃ j : Nat, i = .int .i64 j /\ j <= ks.length /\ xQ (Below w.heap.size w wx)) (fun i _ => ks.length - (intOf i).toNat)
 case atStart => exact ⟨0, rfl, xZ _, Below.refl _ _⟩
 case round =>
  obtain ⟨j, rfl, hj, Z8⟩ := hrel;by_cases Zo : j < ks.length
  ·have Qt : (j : Int) < (ks.length : Int) := by omega
   obtain ⟨b, o, k1, nm1, na1, nl1, nc1, la1, ll1, lc1, rfl, Zt, q0, q1, q2, q3, Vt⟩ := vV HA.o Zo;obtain ⟨b', o', k2, nm2, na2, nl2, nc2, la2, ll2, lc2, rfl, Z0, p0, p1, p2, p3, Hl⟩ := vV HB.o Zo
   have HSK : xQ (∀ wx, Below wr.heap.size wr wx -> wx.cell? ⟨b, o + j * 4, none⟩ = some (.int .i64 k1) /\ wx.cell? ⟨b, o + j * 4 + 1, none⟩ = some (.string nm1) /\ wx.cell? ⟨b, o + j * 4 + 2, none⟩ = some (.slice na1 nl1 nc1) /\ wx.cell? ⟨b, o + j * 4 + 3, none⟩ = some (.slice la1 ll1 lc1) /\ wx.cell? ⟨b', o' + j * 4, none⟩ = some (.int .i64 k2) /\ wx.cell? ⟨b', o' + j * 4 + 1, none⟩ = some (.string nm2) /\ wx.cell? ⟨b', o' + j * 4 + 2, none⟩ = some (.slice na2 nl2 nc2) /\ wx.cell? ⟨b', o' + j * 4 + 3, none⟩ = some (.slice la2 ll2 lc2)) := fun wx Xd => by
    have hB := Zx Z8.o Xd;exact ⟨(hB.cell (p := ⟨b, o + j * 4, none⟩) Zt).trans q0, (hB.cell (p := ⟨b, o + j * 4 + 1, none⟩) Zt).trans q1, (hB.cell (p := ⟨b, o + j * 4 + 2, none⟩) Zt).trans q2, (hB.cell (p := ⟨b, o + j * 4 + 3, none⟩) Zt).trans q3, (hB.cell (p := ⟨b', o' + j * 4, none⟩) Z0).trans p0, (hB.cell (p := ⟨b', o' + j * 4 + 1, none⟩) Z0).trans p1, (hB.cell (p := ⟨b', o' + j * 4 + 2, none⟩) Z0).trans p2, (hB.cell (p := ⟨b', o' + j * 4 + 3, none⟩) Z0).trans p3⟩
   have HC : xQ (∀ wx, Below wr.heap.size wr wx -> Calls prog 39 #[.agg #[.int .i64 k1, .string nm1, .slice na1 nl1 nc1, .slice la1 ll1 lc1], .agg #[.int .i64 k2, .string nm2, .slice na2 nl2 nc2, .slice la2 ll2 lc2]] wx fun e w' => e = .returned (.bool true) /\ Below wr.heap.size wr w') := fun wx Xd =>
    (IH.o _ _ ks[j] wx (Cg Vt (Zx Z8.o Xd)) (Cg Hl (Zx Z8.o Xd))).mono fun e w' ⟨e1, e2⟩ => ⟨e1, Zx Xd e2⟩
   have Vx := HSK.o wr.drew (Below.refl _ _).drew;clear q0 q1 q2 q3 p0 p1 p2 p3 Vt Hl;go_wp2_with fail
   go_region_held (fun W => W.cell? ⟨b, o + j * 4, none⟩ = some (.int .i64 k1) /\ W.cell? ⟨b, o + j * 4 + 1, none⟩ = some (.string nm1) /\ W.cell? ⟨b, o + j * 4 + 2, none⟩ = some (.slice na1 nl1 nc1) /\ W.cell? ⟨b, o + j * 4 + 3, none⟩ = some (.slice la1 ll1 lc1) /\ W.cell? ⟨b', o' + j * 4, none⟩ = some (.int .i64 k2) /\ W.cell? ⟨b', o' + j * 4 + 1, none⟩ = some (.string nm2) /\ W.cell? ⟨b', o' + j * 4 + 2, none⟩ = some (.slice na2 nl2 nc2) /\ W.cell? ⟨b', o' + j * 4 + 3, none⟩ = some (.slice la2 ll2 lc2)) (assumption) (first
    | (go_at_call 39; refine (HC.o _ (by first | exact Below.refl _ _ | exact below_drewN (Below.refl _ _) _ | exact (Below.refl _ _).drew)).mono ?_; rintro e w5 ⟨rfl, U5⟩; have t5 := HSK.o _ U5; have L8 := Za U5; clear U5))
   all_goals go_wp2_with fail
   all_goals exact ⟨⟨j + 1, by go_num, by omega, Zx Z8.o L8.o⟩, by simp [intOf]; omega⟩
  ·have Qt : ¬ (j : Int) < (ks.length : Int) := by omega
   go_wp2_with fail;go_ret;exact ⟨rfl, Z8.o⟩
theorem I9 : ∀ n, xI n
 | 0 => fun _ _ _ _ h => h.elim
 | n + 1 => fun va vb D w h h' => by
  obtain ⟨k, nm, na, nc, ka, kc, ns, ks, rfl, rfl, _, _, _, ⟨_, Y0⟩, ⟨_, Qh⟩, hns, Jb⟩ := h;obtain ⟨k', nm', na', nc', ka', kc', ns', ks', rfl, e, _, _, _, _, _, hns', hks'⟩ := h';obtain ⟨rfl, e2, rfl, rfl⟩ := Iy e
  obtain rfl : nm = nm' := by cases nm; cases nm'; simp at e2; rw [e2]
  have Wh : ns.length <= 140737488351232 := Y0;have V0 : ks.length <= 140737488351232 := Qh;have Wk : Below w.heap.size w ((w.alloc (Z5 k nm na ns.length nc ka ks.length kc)).alloc (Z5 k nm na' ns.length nc' ka' ks.length kc')) := Zx (Zq _ _) (Zq _ _);obtain ⟨W, hW⟩ := xE ((w.alloc (Z5 k nm na ns.length nc ka ks.length kc)).alloc (Z5 k nm na' ns.length nc' ka' ks.length kc'))
  have hxa : W.heap[w.heap.size]? = some (Z5 k nm na ns.length nc ka ks.length kc) := by rw [hW]; exact (xA (by simp)).trans (xL w _)
  have hxb : W.heap[w.heap.size + 1]? = some (Z5 k nm na' ns.length nc' ka' ks.length kc') := by rw [hW]; exact Ti w _ _
  rw [<- hW] at Wk;have V7 := Za (yL na na' nc nc' ns W (Ak hns Wk) (Ak hns' Wk) Wh)
  have Q6 : xQ (∀ wx, Below W.heap.size W wx -> Calls prog 40 #[.slice ka ks.length kc, .slice ka' ks.length kc'] wx fun e w' => e = .returned (.bool true) /\ Below wx.heap.size wx w') := fun wx Xd => zG n (I9 n) ka ka' kc kc' ks wx (Rl Jb (Zx Wk Xd)) (Rl hks' (Zx Wk Xd)) V0
  have J1 := Za hxa;have Lm := Za hxb
  have T0 : xQ (∀ w1, (∃ q, w1 = W.drewN q) -> xQ (Below W.heap.size W w1) /\ xQ (∀ wx, Below w1.heap.size w1 wx -> wx.cell? ⟨w.heap.size, 0, none⟩ = some (.int .i64 k) /\ wx.cell? ⟨w.heap.size, 1, none⟩ = some (.string nm) /\ wx.cell? ⟨w.heap.size, 3, none⟩ = some (.slice ka ks.length kc) /\ wx.cell? ⟨w.heap.size + 1, 0, none⟩ = some (.int .i64 k) /\ wx.cell? ⟨w.heap.size + 1, 1, none⟩ = some (.string nm) /\ wx.cell? ⟨w.heap.size + 1, 3, none⟩ = some (.slice ka' ks.length kc'))) := by
   rintro w1 ⟨q, rfl⟩;refine ⟨below_drewN (Below.refl _ _) _, fun wx Xd => ?_⟩;have hB := Zx (below_drewN (Below.refl W.heap.size W) q) Xd
   have hs : W.heap.size = w.heap.size + 2 := by rw [hW]; simp
   have ha : ∀ o, wx.cell? ⟨w.heap.size, o, none⟩ = W.cell? ⟨w.heap.size, o, none⟩ := fun o => hB.cell (p := ⟨w.heap.size, o, none⟩) (by show w.heap.size < W.heap.size; omega)
   have hb : ∀ o, wx.cell? ⟨w.heap.size + 1, o, none⟩ = W.cell? ⟨w.heap.size + 1, o, none⟩ := fun o => hB.cell (p := ⟨w.heap.size + 1, o, none⟩) (by show w.heap.size + 1 < W.heap.size; omega)
   rw [ha, ha, ha, hb, hb, hb];simp [World.cell?, hxa, hxb, Z5]
  have HB0 := Za Wk;subst hW
  have e3 : (nm.toList == nm.toList) = true := by simp
  clear hns hns' Jb hks' Wk hxa hxb e e2 Y0 Qh;go_enter func39, ntmps39;go_wp2_with fail;refine V7.o.mono ?_;rintro e w1 ⟨rfl, hq⟩;obtain ⟨Yl, Y7⟩ := T0.o _ hq;obtain ⟨a0, a1, a3, b0, b1, b3⟩ := Y7.o w1 (Below.refl _ _);clear hq;go_wp2_with fail;refine (Q6.o w1 Yl.o).mono ?_;rintro e w2 ⟨rfl, Z0⟩;obtain ⟨a0, a1, a3, b0, b1, b3⟩ := Y7.o w2 Z0;have Yx := Za Z0;clear Z0;go_wp2_with fail;go_ret
  exact ⟨rfl, Zx HB0.o (Zx Yl.o Yx.o)⟩
theorem yO {w : World} {lo n : Nat} {v : Value} {D : Ty} (h : Bc w lo n v D) : Dd w false n v D := by
 induction n generalizing v D with
 | zero => exact h.elim
 | succ n ih =>
  obtain ⟨k, nm, na, nc, ka, kc, ns, ks, h1, h2, h3, h4, h5, h6, h7, h8, h9⟩ := h;refine ⟨k, nm, na, nc, ka, kc, ns, ks, h1, h2, h3, h4, h5, h6, h7, h8.at, ?_⟩;rcases h9 with h9 | ⟨b, o, e, _, Yz, hc⟩
  ·exact .inl h9
  ·refine .inr ⟨b, o, e, Nr Yz, wE Yz, (fun e => by cases e), fun i hi => ?_⟩
   obtain ⟨c0, c1, c2, c3, e0, e1, e2, e3, ht⟩ := hc i hi;exact ⟨c0, c1, c2, c3, e0, e1, e2, e3, ih ht⟩
theorem Ik {w : World} {lo n : Nat} {ka : Option Addr} {ks : List Ty} (h : Ut w lo n ka ks) : A3 w false n ka ks := by
 rcases h with h9 | ⟨b, o, e, _, Yz, hc⟩
 ·exact .inl h9
 ·refine .inr ⟨b, o, e, Nr Yz, wE Yz, (fun e => by cases e), fun i hi => ?_⟩
  obtain ⟨c0, c1, c2, c3, e0, e1, e2, e3, ht⟩ := hc i hi;exact ⟨c0, c1, c2, c3, e0, e1, e2, e3, yO ht⟩
def mS (n : Nat) : Prop := ∀ (x y : NV) (D : Ty) (lo lo' : Nat) (w : World), Bx w lo n x D -> Bx w lo' n y D -> Calls prog 41 #[x.val, y.val] w fun e w' => e = .returned (.bool true) /\ Below w.heap.size w w'
theorem tI : ∀ n, mS n
 | 0 => fun _ _ _ _ _ _ h => h.elim
 | n + 1 => fun x y D lo lo' w h h' => by
  obtain ⟨tys, ns, ks, hD, ⟨hx1, hx2, hx3⟩, ⟨Wh, V0, hl3⟩, ht, hn, hk⟩ := h;obtain ⟨tys', ns', ks', hD', ⟨hy1, hy2, hy3⟩, _, ht', hn', Lt⟩ := h';obtain ⟨k, tx, N, li, co, ta, tl, tc, na, nl, nc, ka, kl, kc⟩ := x;obtain ⟨k', tx', N', li', co', ta', tl', tc', na', nl', nc', ka', kl', kc'⟩ := y;dsimp only at hD hD' hx1 hx2 hx3 hy1 hy2 hy3 ht hn hk ht' hn' Lt;obtain ⟨rfl, e2, rfl, rfl, rfl, rfl, rfl, rfl⟩ := Ix (hD.symm.trans hD')
  obtain rfl : tx = tx' := by cases tx; cases tx'; simp at e2; rw [e2]
  subst hx1 hx2 hx3 hy1 hy2 hy3;clear hD hD' e2;obtain ⟨W, hW⟩ := xE ((w.alloc (NV.obj ⟨k, tx, N, li, co, ta, tys.length, tc, na, ns.length, nc, ka, ks.length, kc⟩)).alloc (NV.obj ⟨k, tx, N, li, co, ta', tys.length, tc', na', ns.length, nc', ka', ks.length, kc'⟩))
  have Wk : Below w.heap.size w W := by rw [hW]; exact Zx (Zq _ _) (Zq _ _)
  have J1 : xQ (W.heap[w.heap.size]? = some (NV.obj ⟨k, tx, N, li, co, ta, tys.length, tc, na, ns.length, nc, ka, ks.length, kc⟩)) := by rw [hW]; exact (xA (by simp)).trans (xL w _)
  have Lm : xQ (W.heap[w.heap.size + 1]? = some (NV.obj ⟨k, tx, N, li, co, ta', tys.length, tc', na', ns.length, nc', ka', ks.length, kc'⟩)) := by rw [hW]; exact Ti w _ _
  have V7 := Za (yL na na' nc nc' ns W (Ak hn.at Wk) (Ak hn'.at Wk) (by omega))
  have Q6 : xQ (∀ wx, Below W.heap.size W wx -> Calls prog 40 #[.slice ta tys.length tc, .slice ta' tys.length tc'] wx fun e w' => e = .returned (.bool true) /\ Below wx.heap.size wx w') := fun wx Xd => zG n (I9 n) ta ta' tc tc' tys wx (Rl (Ik ht) (Zx Wk Xd)) (Rl (Ik ht') (Zx Wk Xd)) (by omega)
  have Po : xQ (∀ wx, Below W.heap.size W wx -> wx.heap[w.heap.size]? = some (NV.obj ⟨k, tx, N, li, co, ta, tys.length, tc, na, ns.length, nc, ka, ks.length, kc⟩) /\ wx.heap[w.heap.size + 1]? = some (NV.obj ⟨k, tx, N, li, co, ta', tys.length, tc', na', ns.length, nc', ka', ks.length, kc'⟩)) := fun wx Xd => ⟨(Xd.block _ (xB J1.o)).trans J1.o, (Xd.block _ (xB Lm.o)).trans Lm.o⟩
  have HKA := Za (tG hk Wk);have HKB := Za (tG Lt Wk);have HB0 := Za Wk;have IH := Za (tI n)
  have e3 : (tx.toList == tx.toList) = true := by simp
  have Jb : ks.length <= 100000 := hl3;clear ht hn hk ht' hn' Lt Wk Wh V0 hl3;obtain ⟨⟨x0, x1, x2, x3, x4, x5, x6, x7⟩, _, Hg⟩ := Zm J1.o;obtain ⟨⟨y0, y1, y2, y3, y4, y5, y6, y7⟩, _, Gr⟩ := Zm Lm.o;go_enter func41, ntmps41;go_wp2_with fail;rw [<- hW];clear hW;refine V7.o.mono ?_;rintro e w1 ⟨rfl, q, rfl⟩;have Zt : Below W.heap.size W (W.drewN q) := below_drewN (Below.refl _ _) q;have Yl := Za Zt
  clear Zt;go_wp2_with fail;refine (Q6.o _ Yl.o).mono ?_;rintro e w2 ⟨rfl, Z0⟩;have Yx := Za (Zx Yl.o Z0);clear Z0;obtain ⟨⟨x0, x1, x2, x3, x4, x5, x6, x7⟩, _, Hg⟩ := Zm (Po.o w2 Yx.o).1;obtain ⟨⟨y0, y1, y2, y3, y4, y5, y6, y7⟩, _, Gr⟩ := Zm (Po.o w2 Yx.o).2;go_wp2_with fail
  go_loopw [7] (fun i wx => ∃ j : Nat, i = .int .i64 j /\ j <= ks.length /\ xQ (Below W.heap.size W wx)) (fun i _ => ks.length - (intOf i).toNat)
  case atStart => exact ⟨0, rfl, xZ _, Yx⟩
  case round =>
   obtain ⟨j, rfl, hj, Z8⟩ := hrel;clear x0 x1 x2 x3 x4 x5 x6 x7 y0 y1 y2 y3 y4 y5 y6 y7;obtain ⟨⟨x0, x1, x2, x3, x4, x5, x6, x7⟩, _, Hg⟩ := Zm (Po.o wr Z8.o).1;obtain ⟨⟨y0, y1, y2, y3, y4, y5, y6, y7⟩, _, Gr⟩ := Zm (Po.o wr Z8.o).2;clear x0 x1 x2 x3 x4 x5 x6 y0 y1 y2 y3 y4 y5 y6;by_cases Zo : j < ks.length
   ·have Qt : (j : Int) < (ks.length : Int) := by omega
    obtain ⟨b, o, u, rfl, Zt, Bk, Vt⟩ := tF HKA.o Zo;obtain ⟨b', o', v, rfl, Z0, Ns, Hl⟩ := tF HKB.o Zo
    have HSK : xQ (∀ wx, Below wr.heap.size wr wx -> wx.cell? ⟨w.heap.size, 7, none⟩ = some (.slice (some ⟨b, o, none⟩) ks.length kc) /\ wx.cell? ⟨w.heap.size + 1, 7, none⟩ = some (.slice (some ⟨b', o', none⟩) ks.length kc') /\ wx.cell? ⟨b, o + j * 8, none⟩ = some (.int .i64 u.k) /\ wx.cell? ⟨b, o + j * 8 + 1, none⟩ = some (.string u.tx) /\ wx.cell? ⟨b, o + j * 8 + 2, none⟩ = some (.int .i64 u.N) /\ wx.cell? ⟨b, o + j * 8 + 3, none⟩ = some (.int .i64 u.li) /\ wx.cell? ⟨b, o + j * 8 + 4, none⟩ = some (.int .i64 u.co) /\ wx.cell? ⟨b, o + j * 8 + 5, none⟩ = some (.slice u.ta u.tl u.tc) /\ wx.cell? ⟨b, o + j * 8 + 6, none⟩ = some (.slice u.na u.nl u.nc) /\ wx.cell? ⟨b, o + j * 8 + 7, none⟩ = some (.slice u.ka u.kl u.kc) /\ wx.cell? ⟨b', o' + j * 8, none⟩ = some (.int .i64 v.k) /\ wx.cell? ⟨b', o' + j * 8 + 1, none⟩ = some (.string v.tx) /\ wx.cell? ⟨b', o' + j * 8 + 2, none⟩ = some (.int .i64 v.N) /\ wx.cell? ⟨b', o' + j * 8 + 3, none⟩ = some (.int .i64 v.li) /\ wx.cell? ⟨b', o' + j * 8 + 4, none⟩ = some (.int .i64 v.co) /\ wx.cell? ⟨b', o' + j * 8 + 5, none⟩ = some (.slice v.ta v.tl v.tc) /\ wx.cell? ⟨b', o' + j * 8 + 6, none⟩ = some (.slice v.na v.nl v.nc) /\ wx.cell? ⟨b', o' + j * 8 + 7, none⟩ = some (.slice v.ka v.kl v.kc)) := fun wx Xd => by
     have hB := Zx Z8.o Xd;have g1 := Bk.keep (hB.block b Zt);have g2 := Ns.keep (hB.block b' Z0);refine ⟨(Zm (Po.o wx hB).1).1.2.2.2.2.2.2.2, (Zm (Po.o wx hB).2).1.2.2.2.2.2.2.2, ?_⟩;obtain ⟨p0, p1, p2, p3, p4, p5, p6, p7⟩ := g1;exact ⟨p0, p1, p2, p3, p4, p5, p6, p7, g2⟩
    have HC : xQ (∀ wx, Below wr.heap.size wr wx -> Calls prog 41 #[u.val, v.val] wx fun e w' => e = .returned (.bool true) /\ Below wr.heap.size wr w') := fun wx Xd =>
     (IH.o _ _ ks[j] lo lo' wx (I6 Vt (Zx Z8.o Xd)) (I6 Hl (Zx Z8.o Xd))).mono fun e w' ⟨e1, e2⟩ => ⟨e1, Zx Xd e2⟩
    have Vx := HSK.o wr.drew (Below.refl _ _).drew;clear Bk Ns Vt Hl;go_wp2_with fail
    go_region_held (fun W => W.cell? ⟨w.heap.size, 7, none⟩ = some (.slice (some ⟨b, o, none⟩) ks.length kc) /\ W.cell? ⟨w.heap.size + 1, 7, none⟩ = some (.slice (some ⟨b', o', none⟩) ks.length kc') /\ W.cell? ⟨b, o + j * 8, none⟩ = some (.int .i64 u.k) /\ W.cell? ⟨b, o + j * 8 + 1, none⟩ = some (.string u.tx) /\ W.cell? ⟨b, o + j * 8 + 2, none⟩ = some (.int .i64 u.N) /\ W.cell? ⟨b, o + j * 8 + 3, none⟩ = some (.int .i64 u.li) /\ W.cell? ⟨b, o + j * 8 + 4, none⟩ = some (.int .i64 u.co) /\ W.cell? ⟨b, o + j * 8 + 5, none⟩ = some (.slice u.ta u.tl u.tc) /\ W.cell? ⟨b, o + j * 8 + 6, none⟩ = some (.slice u.na u.nl u.nc) /\ W.cell? ⟨b, o + j * 8 + 7, none⟩ = some (.slice u.ka u.kl u.kc) /\ W.cell? ⟨b', o' + j * 8, none⟩ = some (.int .i64 v.k) /\ W.cell? ⟨b', o' + j * 8 + 1, none⟩ = some (.string v.tx) /\ W.cell? ⟨b', o' + j * 8 + 2, none⟩ = some (.int .i64 v.N) /\ W.cell? ⟨b', o' + j * 8 + 3, none⟩ = some (.int .i64 v.li) /\ W.cell? ⟨b', o' + j * 8 + 4, none⟩ = some (.int .i64 v.co) /\ W.cell? ⟨b', o' + j * 8 + 5, none⟩ = some (.slice v.ta v.tl v.tc) /\ W.cell? ⟨b', o' + j * 8 + 6, none⟩ = some (.slice v.na v.nl v.nc) /\ W.cell? ⟨b', o' + j * 8 + 7, none⟩ = some (.slice v.ka v.kl v.kc)) (with_reducible assumption) (first
     | (go_at_call 41; refine (HC.o _ (by first | exact Below.refl _ _ | exact below_drewN (Below.refl _ _) _ | exact (Below.refl _ _).drew)).mono ?_; rintro e w5 ⟨rfl, U5⟩; have t5 := HSK.o _ U5; have L8 := Za U5; clear U5))
    all_goals go_wp2_with fail
    all_goals exact ⟨⟨j + 1, by go_num, by omega, Zx Z8.o L8.o⟩, by simp [intOf]; omega⟩
   ·have Qt : ¬ (j : Int) < (ks.length : Int) := by omega
    go_wp2_with fail;go_ret;exact ⟨rfl, Zx HB0.o Z8.o⟩
end Go.Proofs.YtfoejkhfdiodhaaGreatDoor
