/- Part. -/
import Derived.Test.YtfoejkhfdiodhaaGreatDoorPart30
import Derived.Test.YtfoejkhfdiodhaaGreatDoorPart28
import Derived.Test.YtfoejkhfdiodhaaGreatDoorPart29
set_option maxRecDepth 100000
set_option maxHeartbeats 4000000
namespace Go.Proofs.YtfoejkhfdiodhaaGreatDoor
open Go.Proofs.Tryz
open Go.RowKit
theorem jO {l : List UInt8} {ts : List Tok} (h : Tk l = .inl ts) : Nk l = Bh (Bz ts (Fw ts)) := by
 rw [<- uR]
 exact uS h
theorem fX (S : ByteArray) (hS : S.size <= 140737488351232) (w : World) :
  Calls prog 6 #[.string S] w (J6 w Y2.val Da (Nk S.data.toList)) := by
 go_enter func6, ntmps6
 go_wp2_with fail
 refine (dB S hS _).mono ?_
 intro e w2 Zg
 obtain ⟨Z0, hm⟩ := Zg
 have Yx : xQ (Below w.heap.size w w2) := Zx (Zx (Zq _ _) (Zq _ _)) Z0
 have HA0 : xQ (w2.heap[w.heap.size]? = some Y2.obj) := (Z0.block _ (by rw [xS, xS]; omega)).trans ((xA (by rw [xS]; omega)).trans (xL w _))
 have Pw : xQ (w2.heap[w.heap.size + 1]? = some G6) := (Z0.block _ (by rw [xS, xS]; omega)).trans (Ti w _ _)
 have Wc : w.heap.size + 2 <= w2.heap.size := xB Pw.o
 clear Z0
 rw [xS, xS] at hm
 cases hl : Tk S.data.toList with
 | inr p =>
  obtain ⟨x, li, co⟩ := p;rw [hl] at hm;obtain ⟨pb, rfl⟩ := hm
  have hx0 : (x != 0) = true := by simpa using Ip hl
  have HE : xQ (Nk S.data.toList = .inr (x, li, co)) := by show _ = _; unfold Nk; rw [hl]
  have Kt := Za ((Below.heap_alloc w2 (Um li co x) _ (xB HA0.o)).trans HA0.o);have Ku := Za ((Below.heap_alloc w2 (Um li co x) _ (xB Pw.o)).trans Pw.o);have HGw := Za (xL w2 (Um li co x));have HBw := Za (Zx Yx.o (Zq w2 (Um li co x)));clear hl;go_wp2_with fail;obtain ⟨db, Kh⟩ := xE w2.heap.size;rw [<- Kh] at HGw Wc ⊢;clear Kh HA0 Pw Yx;generalize w2.alloc (Um li co x) = W2 at Kt Ku HGw HBw ⊢;obtain ⟨⟨a0, a1⟩, ⟨q0, q1⟩, Lw⟩ := Qd Kt.o
  obtain ⟨⟨d0, d1, d2, d3⟩, ⟨g0, g1, g2, g3⟩, Jc⟩ := Z6 Ku.o;obtain ⟨⟨s0, s1, s2, s3⟩, _, Ng⟩ := Z6 HGw.o
  have Vq : ¬ db = w.heap.size := by omega
  have Wl : ¬ db = w.heap.size + 1 := by omega
  go_region
  all_goals
   go_wp2_with fail;obtain ⟨Wf, Zs⟩ := xE ((((((((W2.setCell ⟨w.heap.size, 0, none⟩ (.slice none 0 0)).setCell ⟨w.heap.size, 1, none⟩ (.slice none 0 0)).setCell ⟨w.heap.size + 1, 0, none⟩ (.int .i64 0)).setCell ⟨w.heap.size + 1, 1, none⟩ (.int .i64 li)).setCell ⟨w.heap.size + 1, 2, none⟩ (.int .i64 co)).setCell ⟨w.heap.size + 1, 3, none⟩ (.int .i64 x)).drew));rw [<- Zs]
   have Vk : Wf.heap[w.heap.size]? = some Y2.obj := by
    rw [Zs, A9];exact (Xs (b := w.heap.size + 1) (i := w.heap.size) (by omega) (.int .i64 0) (.int .i64 li) (.int .i64 co) (.int .i64 x)).trans (Gz (x := Y2) Kt.o)
   have Ui : Wf.heap[w.heap.size + 1]? = some (Um li co x) := by
    rw [Zs, A9];exact set4 ((Hp (x := Y2) (b := w.heap.size) (i := w.heap.size + 1) (by omega)).trans Ku.o) (.int .i64 0) (.int .i64 li) (.int .i64 co) (.int .i64 x)
   have hbW : Below w.heap.size w Wf := by
    rw [Zs];exact (V9 (Fj HBw.o (xR) Y2) (by omega) (.int .i64 0) (.int .i64 li) (.int .i64 co) (.int .i64 x)).drew
   clear Zs;refine bodyPost_ret (La rfl _ rfl Vk underlying26 (by kernel_rfl) rfl Ui underlying29 (by kernel_rfl)) rfl ?_;rw [HE.o];exact ⟨hbW, rfl⟩
 | inl ts =>
  rw [hl] at hm;obtain ⟨pb, g, cap, rfl, hpb, Zd⟩ := hm;have OK := Za (E2 hl);have HE := Za (jO hl);have HPB := Za hpb;have Jr := Za (Zd.alloc (Um 0 0 0));have Xc := Zd.ltp;have Kt := Za ((Below.heap_alloc w2 (Um 0 0 0) _ (xB HA0.o)).trans HA0.o);have Ku := Za ((Below.heap_alloc w2 (Um 0 0 0) _ (xB Pw.o)).trans Pw.o);have HGw := Za (xL w2 (Um 0 0 0));have HBw := Za (Zx Yx.o (Zq w2 (Um 0 0 0)));have HK := Za (dP pb g cap ts OK.o _ Jr.o)
  obtain ⟨RK, hRK⟩ := xE (Fw ts);rw [<- hRK] at HK HE;clear hl Zd hpb hRK;go_wp2_with fail;obtain ⟨db, Kh⟩ := xE w2.heap.size;rw [<- Kh] at HGw Wc Xc ⊢;clear Kh HA0 Pw Yx;generalize w2.alloc (Um 0 0 0) = W2 at Kt Ku HGw HBw Jr HK ⊢;refine HK.o.mono ?_;rintro e w3 ⟨Zb, Zd, z, rfl, hv⟩;have Lz := Zb.size;have hlG := xB HGw.o;have V8 := Za (Zb.trans (Zl.of (xT Xc (Nat.le_trans (Nat.le_of_lt hlG) Lz)) (Zq w3 (z.obj))))
  have HAT3 := Za (Zd.alloc (z.obj));have Kc := Za (xL w3 (z.obj))
  have Bv : xQ (∀ D b, RK = .inl (D, b) -> Vu (db + 1) (w3.alloc z.obj) z D) := fun D b e => ((hv D b e).lower (show db + 1 <= W2.heap.size from hlG)).keep (by rw [xS]; omega) fun b _ hl => xA hl
  clear Zb Zd hv HK Jr;go_wp2_with fail;obtain ⟨tb, Ww⟩ := xE w3.heap.size;rw [<- Ww] at Kc Lz ⊢;clear Ww;generalize w3.alloc (.cells #[.slice z.ia z.il z.ic, .slice z.da z.dl z.dc] 26) = W3 at V8 HAT3 Kc Bv ⊢;refine (rend_c pb g cap 0 ts (Zf RK) W3 HAT3.o).mono ?_;rintro e w4 ⟨rfl, Zb, Zd⟩;obtain ⟨li, B5⟩ := xE (lS (M7 ts (Zf RK)));obtain ⟨co, Th⟩ := xE (cS (M7 ts (Zf RK)));obtain ⟨er, her⟩ := xE (eS (M7 ts (Zf RK)))
  rw [<- B5, <- Th, <- her];have HFt := Za (And.intro B5 (And.intro Th her));clear B5 Th her;have hpB := HPB.o;have Qa := Za (V8.o.trans Zb);have Lf := Za ((Qa.o.below.block _ (by omega)).trans Kt.o);have My := Za ((Qa.o.below.block _ (by omega)).trans Ku.o);have HG4 := Za ((Qa.o.keep _ (by omega) hlG).trans HGw.o);have HT4 := Za ((Zb.keep _ (by omega) (xB Kc.o)).trans Kc.o);have Mk : xQ (Below w.heap.size w w4) := HBw.o.trans (Qa.o.below.mono (by omega))
  have P4 : xQ (∀ D b, RK = .inl (D, b) -> Vu (db + 1) w4 z D) := fun D b e => (Bv.o D b e).stay Zb (by omega)
  have HBad : xQ (∀ p, M7 ts (Zf RK) = .inr p -> p.1 ≠ 0) := fun p e => by
   obtain ⟨a, ha⟩ := Zd;exact ha.bad p e
  clear Zb Zd V8 HAT3 Kc Bv Kt Ku HGw HBw;obtain ⟨⟨a0, a1⟩, ⟨q0, q1⟩, Lw⟩ := Qd Lf.o;obtain ⟨⟨d0, d1, d2, d3⟩, ⟨g0, g1, g2, g3⟩, Jc⟩ := Z6 My.o;obtain ⟨⟨s0, s1, s2, s3⟩, ⟨y0, y1, y2, y3⟩, Ng⟩ := Z6 HG4.o;obtain ⟨⟨t0, t1⟩, _, Zo⟩ := Qd HT4.o
  have Vq : ¬ db = w.heap.size := by omega
  have Wl : ¬ db = w.heap.size + 1 := by omega
  have Hi : ¬ tb = w.heap.size := by omega
  have Fr : ¬ tb = w.heap.size + 1 := by omega
  have Gt : ¬ tb = db := by omega
  rcases lF ts RK with ⟨D, b, hR, he, hd⟩ | ⟨p, he, hd⟩
  ·have To := Za (HE.o.trans hd)
   have HR := Za hR
   have HZ0 : xQ (li = 0 /\ co = 0 /\ er = 0) := by
    have := HFt.o;rw [he] at this;exact this
   have hx0 : (er != 0) = false := by rw [HZ0.o.2.2]; rfl
   clear he hd hR HFt;go_wp2_with fail;go_region
   all_goals
    go_wp2_with fail;obtain ⟨Wf, Zs⟩ := xE (((((((((((((w4.setCell ⟨db, 0, none⟩ (.int .i64 0)).setCell ⟨db, 1, none⟩ (.int .i64 li)).setCell ⟨db, 2, none⟩ (.int .i64 co)).setCell ⟨db, 3, none⟩ (.int .i64 er)).setCell ⟨w.heap.size, 0, none⟩ (.slice z.ia z.il z.ic)).setCell ⟨w.heap.size, 1, none⟩ (.slice z.da z.dl z.dc)).setCell ⟨w.heap.size + 1, 0, none⟩ (.int .i64 0)).setCell ⟨w.heap.size + 1, 1, none⟩ (.int .i64 li)).setCell ⟨w.heap.size + 1, 2, none⟩ (.int .i64 co)).setCell ⟨w.heap.size + 1, 3, none⟩ (.int .i64 er))).drew))
    rw [<- Zs]
    have Vk : Wf.heap[w.heap.size]? = some z.obj := by
     rw [Zs, A9];exact (Xs (b := w.heap.size + 1) (i := w.heap.size) (by omega) (.int .i64 0) (.int .i64 li) (.int .i64 co) (.int .i64 er)).trans (Gz (x := z) (y := Y2) ((Xs (w := w4) (b := db) (i := w.heap.size) (by omega) (.int .i64 0) (.int .i64 li) (.int .i64 co) (.int .i64 er)).trans Lf.o))
    have Ui : Wf.heap[w.heap.size + 1]? = some (Um li co er) := by
     rw [Zs, A9];exact set4 ((Hp (x := z) (b := w.heap.size) (i := w.heap.size + 1) (by omega)).trans ((Xs (w := w4) (b := db) (i := w.heap.size + 1) (by omega) (.int .i64 0) (.int .i64 li) (.int .i64 co) (.int .i64 er)).trans My.o)) (.int .i64 0) (.int .i64 li) (.int .i64 co) (.int .i64 er)
    have hbW : Below w.heap.size w Wf := by
     rw [Zs];exact (V9 (Fj (V9 Mk.o (by omega) (.int .i64 0) (.int .i64 li) (.int .i64 co) (.int .i64 er)) (xR) z) (by omega) (.int .i64 0) (.int .i64 li) (.int .i64 co) (.int .i64 er)).drew
    have Hh : ∀ D b, RK = .inl (D, b) -> Vu (db + 1) Wf z D := fun D b e => by
     rw [Zs];exact ((((P4.o D b e).set4 (b := db) (by omega) (.int .i64 0) (.int .i64 li) (.int .i64 co) (.int .i64 er)).putM (b := w.heap.size) (by omega) z).set4 (b := w.heap.size + 1) (by omega) (.int .i64 0) (.int .i64 li) (.int .i64 co) (.int .i64 er)).drew
    clear Zs;refine bodyPost_ret (La rfl _ rfl Vk underlying26 (by kernel_rfl) rfl Ui underlying29 (by kernel_rfl)) rfl ?_;rw [To.o];obtain ⟨e1, e2, e3⟩ := HZ0.o;subst e1 e2 e3;exact ⟨hbW, _, rfl, z, rfl, (Hh D b HR.o).lower (by omega)⟩
  ·have To := Za (HE.o.trans hd)
   have HZ0 : xQ (p = (er, li, co)) := by
    have := HFt.o;rw [he] at this;obtain ⟨p1, p2, p3⟩ := p;obtain ⟨h1, h2, h3⟩ := this;have e1 : li = p2 := h1;have e2 : co = p3 := h2;have e3 : er = p1 := h3;show _ = _;rw [e1, e2, e3]
   have hx0 : (er != 0) = true := by
    have h1 := HBad.o _ he;rw [HZ0.o] at h1
    simpa using h1
   clear he hd HFt;go_wp2_with fail;go_region
   all_goals
    go_wp2_with fail;obtain ⟨Wf, Zs⟩ := xE (((((((((((((w4.setCell ⟨db, 0, none⟩ (.int .i64 0)).setCell ⟨db, 1, none⟩ (.int .i64 li)).setCell ⟨db, 2, none⟩ (.int .i64 co)).setCell ⟨db, 3, none⟩ (.int .i64 er)).setCell ⟨w.heap.size, 0, none⟩ (.slice none 0 0)).setCell ⟨w.heap.size, 1, none⟩ (.slice none 0 0)).setCell ⟨w.heap.size + 1, 0, none⟩ (.int .i64 0)).setCell ⟨w.heap.size + 1, 1, none⟩ (.int .i64 li)).setCell ⟨w.heap.size + 1, 2, none⟩ (.int .i64 co)).setCell ⟨w.heap.size + 1, 3, none⟩ (.int .i64 er))).drew))
    rw [<- Zs]
    have Vk : Wf.heap[w.heap.size]? = some Y2.obj := by
     rw [Zs, A9];exact (Xs (b := w.heap.size + 1) (i := w.heap.size) (by omega) (.int .i64 0) (.int .i64 li) (.int .i64 co) (.int .i64 er)).trans (Gz (x := Y2) (y := Y2) ((Xs (w := w4) (b := db) (i := w.heap.size) (by omega) (.int .i64 0) (.int .i64 li) (.int .i64 co) (.int .i64 er)).trans Lf.o))
    have Ui : Wf.heap[w.heap.size + 1]? = some (Um li co er) := by
     rw [Zs, A9];exact set4 ((Hp (x := Y2) (b := w.heap.size) (i := w.heap.size + 1) (by omega)).trans ((Xs (w := w4) (b := db) (i := w.heap.size + 1) (by omega) (.int .i64 0) (.int .i64 li) (.int .i64 co) (.int .i64 er)).trans My.o)) (.int .i64 0) (.int .i64 li) (.int .i64 co) (.int .i64 er)
    have hbW : Below w.heap.size w Wf := by
     rw [Zs];exact (V9 (Fj (V9 Mk.o (by omega) (.int .i64 0) (.int .i64 li) (.int .i64 co) (.int .i64 er)) (xR) Y2) (by omega) (.int .i64 0) (.int .i64 li) (.int .i64 co) (.int .i64 er)).drew
    clear Zs;refine bodyPost_ret (La rfl _ rfl Vk underlying26 (by kernel_rfl) rfl Ui underlying29 (by kernel_rfl)) rfl ?_;rw [To.o, HZ0.o];exact ⟨hbW, rfl⟩
def mdT : (List Ty × List Ty) ⊕ (Int × Nat × Nat) -> List Ty × List Ty
 | .inl D => D
 | .inr _ => ([], [])
def dgM : (List Ty × List Ty) ⊕ (Int × Nat × Nat) -> Int × Nat × Nat
 | .inl _ => (0, 0, 0)
 | .inr p => p
theorem mP {w : World} {R : (List Ty × List Ty) ⊕ (Int × Nat × Nat)} {e : Ending} {w' : World} (h : J6 w Y2.val Da R e w') : Below w.heap.size w w' /\ ∃ x : MV, e = .returned (.tuple #[x.val, M6 (dgM R).2.1 (dgM R).2.2 (dgM R).1]) /\ Vu w.heap.size w' x (mdT R) := by
 obtain ⟨hb, hm⟩ := h
 refine ⟨hb, ?_⟩
 cases R with
 | inl D =>
  obtain ⟨v, rfl, x, rfl, hv⟩ := hm;exact ⟨x, rfl, hv⟩
 | inr p =>
  obtain ⟨er, li, co⟩ := p;exact ⟨Y2, hm, rfl, rfl, xZ _, xZ _, .inl rfl, .inl rfl⟩
theorem Vu.allocK {lo : Nat} {w : World} {x : MV} {D : List Ty × List Ty} (h : Vu lo w x D) (o : Obj) : Vu lo (w.alloc o) x D := h.keep (by rw [xS]; omega) fun b _ hl => xA hl
theorem parseTexts_walk (a : ByteArray) (w : World) (hw : Ou w) (hs : a.size <= 140737488351232) :
  Calls prog 3 #[.string a] w fun e w' => e = .returned (.bool true) /\ Below w.heap.size w w' := by
 have HW := Za hw
 have HA := Za (n9 w hw)
 clear hw
 have hz : ((a.size : Int) <= 9223372036854775807) := by omega
 go_enter func3, ntmps3
 go_wp2_with fail
 refine HA.o.mono ?_
 rintro e w1 ⟨rfl, Zt⟩
 have Yl := Za Zt
 clear Zt HA
 by_cases hlong : (70000 : Int) < (a.size : Int)
 ·go_wp2_with fail
  go_ret;exact ⟨rfl, Yl.o⟩
 go_wp2_with fail
 obtain ⟨R, hR⟩ := xE (Nk a.data.toList)
 have HR := Za hR
 refine (zW a hs _ (HW.o.lx.below Yl.o)).mono ?_
 rw [<- hR]
 clear hR
 intro e w2 Zg
 obtain ⟨Z0, x, rfl, hv1⟩ := mP Zg
 have Yx := Za (Zx Yl.o Z0)
 have HV1 := Za hv1
 clear Zg Z0 hv1
 obtain ⟨li, B5⟩ := xE ((dgM R).2.1)
 obtain ⟨co, Th⟩ := xE ((dgM R).2.2)
 obtain ⟨er, her⟩ := xE ((dgM R).1)
 rw [<- B5, <- Th, <- her]
 have HG := Za (And.intro B5 (And.intro Th her))
 clear B5 Th her
 have hB2 := Zx (Zq w2 x.obj) (Zq _ (Um li co er))
 have HBw := Za (Zx Yx.o hB2)
 have Kt := Za ((Below.heap_alloc (w2.alloc x.obj) (Um li co er) _ (by rw [xS]; omega)).trans (xL w2 x.obj))
 have Ku := Za (Ti w2 x.obj (Um li co er))
 have HVw := Za ((HV1.o.allocK x.obj).allocK (Um li co er))
 clear hB2 HV1 Yx
 go_wp2_with fail
 obtain ⟨ab, K8⟩ := xE w2.heap.size
 rw [<- K8] at Kt Ku ⊢
 clear K8
 generalize (w2.alloc (.cells #[.slice x.ia x.il x.ic, .slice x.da x.dl x.dc] 26)).alloc (.cells #[.int .i64 0, .int .i64 li, .int .i64 co, .int .i64 er] 29) = W2 at HBw Kt Ku HVw ⊢
 refine (fX a hs _).mono ?_
 rw [<- HR.o]
 intro e w3 Zg
 obtain ⟨Q1, y, rfl, hv2⟩ := mP Zg
 rw [<- HG.o.1, <- HG.o.2.1, <- HG.o.2.2]
 have hB3 := Zx Q1 (Zx (Zq w3 y.obj) (Zq _ (Um li co er)))
 have Vr := Za (Zx HBw.o hB3)
 have L7 := Za ((hB3.block _ (xB Kt.o)).trans Kt.o)
 have Qm := Za ((hB3.block _ (xB Ku.o)).trans Ku.o)
 have Bv := Za (HVw.o.keep hB3.size fun b _ hl => hB3.block b hl)
 have HE3 := Za ((Below.heap_alloc (w3.alloc y.obj) (Um li co er) _ (by rw [xS]; omega)).trans (xL w3 y.obj))
 have Tw := Za (Ti w3 y.obj (Um li co er))
 have HU3 := Za ((hv2.allocK y.obj).allocK (Um li co er))
 have P3 := Za HBw.o.size
 clear Zg Q1 hv2 hB3 HBw Kt Ku HVw
 obtain ⟨⟨a0, a1⟩, _, Lw⟩ := Qd L7.o
 obtain ⟨⟨e0, e1⟩, _, U8⟩ := Qd HE3.o
 have hw0 := Vr.o.size
 have HSz : xQ (((w3.alloc y.obj).alloc (Um li co er)).heap.size = w3.heap.size + 1 + 1) := by show _ = _; rw [xS, xS]
 have HW1 : xQ (w.heap.size <= w1.heap.size) := Yl.o.size
 have HW2 : xQ (w.heap.size <= W2.heap.size) := P3.o
 go_wp2_with fail
 generalize (w3.alloc (.cells #[.slice y.ia y.il y.ic, .slice y.da y.dl y.dc] 26)).alloc (.cells #[.int .i64 0, .int .i64 li, .int .i64 co, .int .i64 er] 29) = W3 at Vr L7 Qm Bv HE3 Tw HU3 Lw U8 a0 a1 e0 e1 hw0 HSz ⊢
 clear a0 a1 e0 e1
 refine (jR Bv.o HU3.o).mono ?_
 rintro e w4 ⟨rfl, Ha⟩
 have Mk := Za (Zx Vr.o Ha)
 obtain ⟨⟨d0, d1, d2, d3⟩, _, Nt⟩ := Z6 ((Ha.block _ (xB Qm.o)).trans Qm.o)
 obtain ⟨⟨f0, f1, f2, f3⟩, _, hfl⟩ := Z6 ((Ha.block _ (xB Tw.o)).trans Tw.o)
 clear Ha
 go_wp2_with fail
 go_ret
 exact ⟨rfl, Mk.o⟩
end Go.Proofs.YtfoejkhfdiodhaaGreatDoor
