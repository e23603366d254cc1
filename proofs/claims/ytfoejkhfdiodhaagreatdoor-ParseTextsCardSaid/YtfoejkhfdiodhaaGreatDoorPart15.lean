/- Part. -/
import Derived.Test.YtfoejkhfdiodhaaGreatDoorPart14
set_option maxRecDepth 100000
set_option maxHeartbeats 4000000
namespace Go.Proofs.YtfoejkhfdiodhaaGreatDoor
open Go.Proofs.Tryz
open Go.RowKit
theorem lJ {l : List UInt8} {ts : List Tok} (h : Tk l = .inl ts) : J8 l = Bh (Bz ts (Wo ts ts.length 101 false 0 0)) := by
 unfold J8 Bh
 rw [h]
 simp only
 cases Bz ts (Wo ts ts.length 101 false 0 0) <;> rfl
theorem fQ {w : World} {pb tb cap a d b : Nat} {ts : List Tok} (h : Ps w pb tb cap ts a d) (h1 : b ≠ pb) (h2 : b ≠ tb) (x : NV) : Ps (put8 w b x) pb tb cap ts a d :=
 ⟨(U0 (x := x) (fun e => h1 e.symm)).trans h.blk, h.tlt, Qk h.toks (U0 (x := x) (fun e => h2 e.symm)), h.lt⟩
theorem Yi.drew {lo : Nat} {w : World} {x : NV} {D : Ty} (h : Yi lo w x D) : Yi lo w.drew x D := h.keep (xR) fun _ _ _ => rfl
theorem Yi.set4 {lo b : Nat} {w : World} {x : NV} {D : Ty} (h : Yi lo w x D) (hb : b < lo) (x0 x1 x2 x3 : Value) : Yi lo ((((w.setCell ⟨b, 0, none⟩ x0).setCell ⟨b, 1, none⟩ x1).setCell ⟨b, 2, none⟩ x2).setCell ⟨b, 3, none⟩ x3) x D :=
 (((h.set1 hb 0 _).set1 hb 1 _).set1 hb 2 _).set1 hb 3 _
theorem eF (S : ByteArray) (hS : S.size <= 140737488351232) (w : World) (hw : Lx.Words w) :
  Calls prog 18 #[.string S, .func (.func 19) #[] #[]] w (J6 w Zi.val Z4 (J8 S.data.toList)) := by
 have hmf : ∀ (fn : Fn) (first cap : Array Value) (w : World), (Instr.makeFunc fn first cap).run prog w = .ok (.func fn first cap) w := fun _ _ _ _ => rfl
 have HX := Za (fun wx (hb : Below w.heap.size w wx) => Lx.lex_c S hS wx (hw.below hb))
 have Vv := wL
 clear hw
 go_enter_defers func18, ntmps18
 go_wp2_with fail
 refine (HX.o _ (Zx (Zq _ _) (Zq _ _))).mono ?_
 intro e w2 Zg
 obtain ⟨Z0, hm⟩ := Zg
 have Yx := Za (Zx (Zx (Zq _ _) (Zq _ _)) Z0)
 have HA := Za ((Z0.block w.heap.size (by rw [xS, xS]; omega)).trans ((xA (by rw [xS]; omega)).trans (xL w _)))
 have HD := Za ((Z0.block (w.heap.size + 1) (by rw [xS, xS]; omega)).trans (Ti w _ _))
 clear Z0
 obtain ⟨⟨a0, a1, a2, a3, a4, a5, a6, a7⟩, ⟨z0, z1, z2, z3, z4, z5, z6, z7⟩, Lw⟩ := Zm (x := Zi) HA.o
 obtain ⟨⟨d0, d1, d2, d3⟩, ⟨g0, g1, g2, g3⟩, Jc⟩ := Z6 HD.o
 cases hl : Tk S.data.toList with
 | inr p =>
  obtain ⟨x, li, co⟩ := p;rw [hl] at hm;simp only at hm;subst hm
  have hx0 : (x != 0) = true := by simpa using Ip hl
  have HE : xQ (J8 S.data.toList = .inr (x, li, co)) := by show _ = _; unfold J8; rw [hl]
  clear hl;unfold Lx.diagA;go_wp2_with fail;go_region
  all_goals
   go_wp2_with fail;have hh1 := Xs (w := w2) (b := w.heap.size + 1) (i := w.heap.size) (by omega) (.int .i64 0) (.int .i64 li) (.int .i64 co) (.int .i64 x);have Vk := Xn (x := Zi) (y := Zi) (hh1.trans HA.o);have Ui := set4 ((U0 (x := Zi) (b := w.heap.size) (i := w.heap.size + 1) (by omega)).trans (set4 HD.o (.int .i64 0) (.int .i64 li) (.int .i64 co) (.int .i64 x))) (.int .i64 0) (.int .i64 li) (.int .i64 co) (.int .i64 x)
   refine ⟨.tuple #[Zi.val, M6 li co x], Rx rfl _ rfl ((Xs (b := w.heap.size + 1) (i := w.heap.size) (by omega) (.int .i64 0) (.int .i64 li) (.int .i64 co) (.int .i64 x)).trans Vk) underlying38 (by kernel_rfl) rfl Ui underlying29 (by kernel_rfl), ?_⟩;rw [HE.o];exact ⟨(V9 (Sx (V9 Yx.o (by omega) _ _ _ _) (xR) Zi) (by omega) _ _ _ _).drew, rfl⟩
 | inl ts =>
  rw [hl] at hm;obtain ⟨g, cap, rfl, Xk⟩ := hm;have OK := Za (E2 hl);have HE := Za (lJ hl);have HTc := Za (Ol Xk)
  have He : g < w2.heap.size /\ w.heap.size + 2 <= g := by
   have := Xk.lt g rfl;rw [xS, xS] at this;omega
  obtain ⟨hgl1, hgl2⟩ := He;obtain ⟨Wd, Mp⟩ := xE ((((w2.setCell ⟨w.heap.size + 1, 0, none⟩ (.int .i64 0)).setCell ⟨w.heap.size + 1, 1, none⟩ (.int .i64 0)).setCell ⟨w.heap.size + 1, 2, none⟩ (.int .i64 0)).setCell ⟨w.heap.size + 1, 3, none⟩ (.int .i64 0))
  have hWs : Wd.heap.size = w2.heap.size := by rw [Mp, Mg]
  have HAd : xQ (Wd.heap[w.heap.size]? = some Zi.obj) := by rw [Mp]; exact (Xs (by omega) _ _ _ _).trans HA.o
  have HDd : xQ (Wd.heap[w.heap.size + 1]? = some (.cells #[.int .i64 0, .int .i64 0, .int .i64 0, .int .i64 0] 29)) := by rw [Mp]; exact set4 HD.o _ _ _ _
  have HTd : xQ (Gl Wd g ts) := Qk HTc.o (by rw [Mp]; exact Xs (by omega) _ _ _ _)
  have HBd : xQ (Below w.heap.size w Wd) := by rw [Mp]; exact V9 Yx.o (by omega) _ _ _ _
  clear hl Xk;unfold Lx.diagA;go_wp2_with fail;rw [<- Mp, <- hWs]
  have P0 : Ps (Wd.alloc (.cells #[.slice (some ⟨g, 0, none⟩) ts.length cap, .int .i64 0, .int .i64 0] 74)) Wd.heap.size g cap ts 0 0 :=
   ⟨xL _ _, by omega, Qk HTd.o (xA (by omega)), OK.o.pos⟩
  have HP0 := Za P0;clear P0;refine (Ev Wd.heap.size g cap ts OK.o 101 0 rfl (by omega) 0 _ HP0.o).1.mono ?_;intro e w3 Zg;have K0 := Za Zg;have V1 := Zg.1;have L7 := Za ((V1.below.block w.heap.size (by omega)).trans ((xA (by omega)).trans HAd.o));have Qm := Za ((V1.below.block (w.heap.size + 1) (by omega)).trans ((xA (by omega)).trans HDd.o));have Vr : xQ (Below w.heap.size w w3) := (HBd.o.alloc (by omega) _).trans (V1.below.mono (by omega))
  have Wt := Za V1.size;clear Zg V1 a0 a1 a2 a3 a4 a5 a6 a7 z0 z1 z2 z3 z4 z5 z6 z7 d0 d1 d2 d3 g0 g1 g2 g3;rcases Yj K0.o with ⟨er, li, co, hr, rfl, Zb⟩ | ⟨D, b, v, hr, rfl, Zb, Zc, x, rfl, hv⟩
  ·have To : xQ (J8 S.data.toList = .inr (er, li, co)) := by rw [HE.o, hr]; exact rfl
   clear hr Zb;go_wp2_with fail;refine leaves_cons (f := 42) (args := #[.pointer (some ⟨w.heap.size, 0, none⟩), .pointer (some ⟨w.heap.size + 1, 0, none⟩)]) (by simp) (by simp [go_sem]) ?_;refine (wB w.heap.size (w.heap.size + 1) li co er [] w3 Zi _ _ _ _ L7.o Qm.o (by omega)).mono ?_;rintro e u' w4 ⟨rfl, rfl, ⟨h1, h2⟩, h3⟩;show ∃ v, _;refine ⟨_, La rfl _ rfl h1 underlying38 (by kernel_rfl) rfl h2 underlying29 (by kernel_rfl), ?_⟩
   rw [To.o];exact ⟨Vr.o.trans (h3.o _ (xR) (by omega)), rfl⟩
  ·have HV := Za hv
   have Vy := Za Zc;have HK := Za hr;obtain ⟨⟨a0, a1, a2, a3, a4, a5, a6, a7⟩, ⟨z0, z1, z2, z3, z4, z5, z6, z7⟩, hla3⟩ := Zm (x := Zi) L7.o;obtain ⟨⟨d0, d1, d2, d3⟩, ⟨g0, g1, g2, g3⟩, hld3⟩ := Z6 Qm.o;rw [hWs] at Vy;obtain ⟨We, Pu⟩ := xE (put8 w3 w.heap.size x)
   have HPe : xQ (Ps We w2.heap.size g cap ts b 0) := by rw [Pu]; exact fQ Vy.o (by omega) (by omega) x
   have HAe : xQ (We.heap[w.heap.size]? = some x.obj) := by rw [Pu]; exact Xn (y := Zi) L7.o
   have HDe : xQ (We.heap[w.heap.size + 1]? = some (.cells #[.int .i64 0, .int .i64 0, .int .i64 0, .int .i64 0] 29)) := by rw [Pu]; exact (U0 (x := x) (by omega)).trans Qm.o
   have HBe : xQ (Below w.heap.size w We) := by rw [Pu]; exact Sx Vr.o (xR) x
   have HVe : xQ (Yi (Wd.heap.size + 1) We x D) := by rw [Pu]; have := HV.o; rw [xS] at this; exact this.put8 (by omega) x
   have Ub : xQ (We.heap.size = w3.heap.size) := by rw [Pu]; exact Q3 (x := x)
   unfold put8 at Pu;clear hr Zb Zc hv;go_wp2_with fail;rw [<- Pu];clear Pu a0 a1 a2 a3 a4 a5 a6 a7 z0 z1 z2 z3 z4 z5 z6 z7 d0 d1 d2 d3 g0 g1 g2 g3;refine (O2 w2.heap.size g cap b 0 ts _ HPe.o).mono ?_;intro e w4 Zg;have V1 := Zg.1;have hpe := HPe.o.ltp;have Lf := Za ((V1.below.block w.heap.size (by omega)).trans HAe.o);have My := Za ((V1.below.block (w.heap.size + 1) (by omega)).trans HDe.o);have Mk : xQ (Below w.heap.size w w4) := HBe.o.trans (V1.below.mono (by omega))
   have P4 : xQ (Yi (w2.heap.size + 1) w4 x D) := by
    have := HVe.o;rw [hWs] at this;exact this.stay V1 (by omega)
   have HPo4 := Za Zg;clear Zg V1;rcases Yj HPo4.o with ⟨er, li, co, hr, rfl, Zb⟩ | ⟨u, b', v, hr, rfl, Zb, Zc, hv⟩
   ·have To : xQ (J8 S.data.toList = .inr (er, li, co)) := by
     rw [HE.o, HK.o];show Bh (if (Zk ts b).kind == 0 then .inl (D, b) else Wa ts 7 b) = _;by_cases h0 : ((Zk ts b).kind == 0) = true
     ·rw [if_pos h0] at hr; cases hr
     ·rw [if_neg h0] at hr ⊢
      injection hr with hr;exact congrArg Sum.inr hr
    clear hr Zb;go_wp2_with fail;refine leaves_cons (f := 42) (args := #[.pointer (some ⟨w.heap.size, 0, none⟩), .pointer (some ⟨w.heap.size + 1, 0, none⟩)]) (by simp) (by simp [go_sem]) ?_;refine (wB w.heap.size (w.heap.size + 1) li co er [] w4 x _ _ _ _ Lf.o My.o (by omega)).mono ?_;rintro e u' w5 ⟨rfl, rfl, ⟨h1, h2⟩, h3⟩;show ∃ v, _;refine ⟨_, La rfl _ rfl h1 underlying38 (by kernel_rfl) rfl h2 underlying29 (by kernel_rfl), ?_⟩
    rw [To.o];exact ⟨Mk.o.trans (h3.o _ (xR) (by omega)), rfl⟩
   ·have To : xQ (J8 S.data.toList = .inl D) := by
     rw [HE.o, HK.o];show Bh (if (Zk ts b).kind == 0 then .inl (D, b) else Wa ts 7 b) = _;by_cases h0 : ((Zk ts b).kind == 0) = true
     ·rw [if_pos h0]; exact rfl
     ·rw [if_neg h0] at hr; cases hr
    obtain ⟨⟨a0, a1, a2, a3, a4, a5, a6, a7⟩, ⟨z0, z1, z2, z3, z4, z5, z6, z7⟩, hla4⟩ := Zm (x := x) Lf.o;obtain ⟨⟨d0, d1, d2, d3⟩, ⟨g0, g1, g2, g3⟩, hld4⟩ := Z6 My.o;clear hr Zb Zc hv;go_wp2_with fail;go_region
    all_goals
     go_wp2_with fail;have Vk := (Xs (b := w.heap.size + 1) (i := w.heap.size) (by omega) (.int .i64 0) (.int .i64 0) (.int .i64 0) (.int .i64 0)).trans (Xn (x := x) (y := x) Lf.o);have Ui := set4 ((U0 (x := x) (b := w.heap.size) (i := w.heap.size + 1) (by omega)).trans My.o) (.int .i64 0) (.int .i64 0) (.int .i64 0) (.int .i64 0);have hT := ((P4.o.put8 (b := w.heap.size) (by omega) x).set4 (b := w.heap.size + 1) (by omega) (.int .i64 0) (.int .i64 0) (.int .i64 0) (.int .i64 0)).lower (lo' := w.heap.size) (by omega)
     have hBf := V9 (Sx Mk.o (xR) x) (show w.heap.size <= w.heap.size + 1 by omega) (.int .i64 0) (.int .i64 0) (.int .i64 0) (.int .i64 0);generalize Zs : (((((put8 w4 w.heap.size x).setCell ⟨w.heap.size + 1, 0, none⟩ (.int .i64 0)).setCell ⟨w.heap.size + 1, 1, none⟩ (.int .i64 0)).setCell ⟨w.heap.size + 1, 2, none⟩ (.int .i64 0)).setCell ⟨w.heap.size + 1, 3, none⟩ (.int .i64 0)) = Wf at Vk Ui hT hBf
     refine leaves_cons (f := 42) (args := #[.pointer (some ⟨w.heap.size, 0, none⟩), .pointer (some ⟨w.heap.size + 1, 0, none⟩)]) (by simp) (by simp [go_sem]) ?_;refine (bN ⟨w.heap.size, 0, none⟩ ⟨w.heap.size + 1, 0, none⟩ _).mono ?_;rintro e u' w5 ⟨rfl, rfl, rfl⟩;show ∃ v, _;refine ⟨_, Rx rfl _ rfl Vk underlying38 (by kernel_rfl) rfl Ui underlying29 (by kernel_rfl), ?_⟩;rw [To.o];exact ⟨hBf.drew, _, rfl, x, rfl, hT.drew⟩
theorem gX (S : ByteArray) (hS : S.size <= 140737488351232) (w : World) (hw : Lx.Words w) :
  Calls prog 8 #[.string S] w (J6 w Zi.val Z4 (J8 S.data.toList)) := by
 have HW := Za (eF S hS _ (hw.below (Zx (Zq w Zi.obj) (Zq _ (.cells #[.int .i64 0, .int .i64 0, .int .i64 0, .int .i64 0] 29)))))
 obtain ⟨R, hR⟩ := xE (J8 S.data.toList)
 rw [<- hR] at HW ⊢
 clear hw hR
 go_enter func8, ntmps8
 go_wp2_with fail
 refine HW.o.mono ?_
 intro e w2 Zg
 obtain ⟨Z0, hm⟩ := Zg
 have Yx := Za (Zx (Zx (Zq _ _) (Zq _ _)) Z0)
 have HA := Za ((Z0.block w.heap.size (by rw [xS, xS]; omega)).trans ((xA (by rw [xS]; omega)).trans (xL w _)))
 have HD := Za ((Z0.block (w.heap.size + 1) (by rw [xS, xS]; omega)).trans (Ti w _ _))
 clear Z0
 obtain ⟨⟨a0, a1, a2, a3, a4, a5, a6, a7⟩, ⟨z0, z1, z2, z3, z4, z5, z6, z7⟩, Lw⟩ := Zm (x := Zi) HA.o
 obtain ⟨⟨d0, d1, d2, d3⟩, ⟨g0, g1, g2, g3⟩, Jc⟩ := Z6 HD.o
 rw [xS, xS] at hm
 rcases R with D | ⟨er, li, co⟩
 ·obtain ⟨v, rfl, x, rfl, hv⟩ := hm
  have HV := Za hv;clear hv;go_wp2_with fail;have Vk := (Xs (b := w.heap.size + 1) (i := w.heap.size) (by omega) (.int .i64 0) (.int .i64 0) (.int .i64 0) (.int .i64 0)).trans (Xn (x := x) (y := Zi) HA.o);have Ui := set4 ((U0 (x := x) (b := w.heap.size) (i := w.heap.size + 1) (by omega)).trans HD.o) (.int .i64 0) (.int .i64 0) (.int .i64 0) (.int .i64 0);refine bodyPost_ret (La rfl _ rfl Vk underlying38 (by kernel_rfl) rfl Ui underlying29 (by kernel_rfl)) rfl ⟨V9 (Sx Yx.o (xR) x) (by omega) _ _ _ _, _, rfl, x, rfl, ?_⟩
  exact ((HV.o.put8 (b := w.heap.size) (by omega) x).set4 (b := w.heap.size + 1) (by omega) _ _ _ _).lower (by omega)
 ·subst hm
  go_wp2_with fail;have Vk := (Xs (b := w.heap.size + 1) (i := w.heap.size) (by omega) (.int .i64 0) (.int .i64 li) (.int .i64 co) (.int .i64 er)).trans (Xn (x := Zi) (y := Zi) HA.o);have Ui := set4 ((U0 (x := Zi) (b := w.heap.size) (i := w.heap.size + 1) (by omega)).trans HD.o) (.int .i64 0) (.int .i64 li) (.int .i64 co) (.int .i64 er);refine bodyPost_ret (La rfl _ rfl Vk underlying38 (by kernel_rfl) rfl Ui underlying29 (by kernel_rfl)) rfl ⟨V9 (Sx Yx.o (xR) Zi) (by omega) _ _ _ _, rfl⟩
def StrsE (lo : Nat) (w : World) (v : Value) (xs : List (List UInt8)) : Prop := ∃ cs, Ym Qc lo 9 1 none w v cs xs
structure mQ (m : String) : Prop where
 meth : ∀ n pb w, (method (n + 1) 52 (pP pb) m).run prog w = .ok (67, pP pb) w
theorem uN (pb tb cap d : Nat) (ts : List Tok) (sep : List UInt8) (m0 : String) (hm0 : mQ m0)
  (f a : Nat) (hf : ts.length <= a + (f + 1)) (w : World) (h : Ps w pb tb cap ts a d) (ok : Yh ts) :
  Calls prog 68 #[pP pb, .string ⟨sep.toArray⟩, .func (.methodOf 52 m0) #[] #[]] w (Z7 pb tb cap ts d w StrsE (Yd ts (Zr ts) sep (f + 1) a)) := by
 have H := Za h
 have OK := Za ok
 have Vv := hm0.meth
 clear h ok hm0
 have HO := Za (Jo pb tb cap a d ts w H.o OK.o)
 have HF := Za hf
 clear hf
 cases ho : Zr ts a with
 | inr x =>
  obtain ⟨er, li, co⟩ := x;rw [Iq ho];rw [ho] at HO;clear ho;go_enter func68, ntmps68;go_wp2_with fail;refine HO.o.mono ?_;rintro e w1 ⟨Zb, rfl⟩;have Zu := Za Zb;clear Zb;go_wp2_with fail;exact ⟨rfl, Zu.o, rfl⟩
 | inl x =>
  obtain ⟨D0, a1⟩ := x;have HM := Za (Iw (ts := ts) (sep := sep) (f := f) ho);have HU := Za (Gw ho);rw [ho] at HO;clear ho;obtain ⟨R, hR⟩ := xE (Yd ts (Zr ts) sep (f + 1) a);rw [<- hR] at HM ⊢;clear hR;obtain ⟨i0, hi, Wp, Xy, Wr⟩ := info_parts Ri;go_enter func68, ntmps68;go_wp2_with fail;refine HO.o.mono ?_;rintro e w1 ⟨Zb, Zc, v, rfl, hv⟩;subst hv;have Yk := Za (Aq (B := w.heap.size) (et := 9) (k := 1) (rep := Qc) (x := D0) (c := [.string ⟨D0.toArray⟩]) (lo := w.heap.size) rfl (xR) Zb.size rfl)
  have Zu := Za (Zb.alloc H.o.ltp (.cells #[.string ⟨D0.toArray⟩] 9));have HP := Za (Zc.alloc (.cells #[.string ⟨D0.toArray⟩] 9));clear Zb Zc
  have N6 : xQ (ts.length <= a1 + (f + 1)) := by have := HF.o; have := HU.o; show _ <= _; omega
  go_wp2_with fail
  go_loopg [7] (ts.length - a1) (fun gk s wr => ∃ (b m : Nat) (cs : List (List Value)) (acc : List (List UInt8)), xQ (Ym Qc w.heap.size 9 1 none wr s cs acc) /\ xQ (Zl pb w wr) /\ xQ (Ps wr pb tb cap ts b d) /\ xQ (K3 ts (Zr ts) sep R acc m b) /\ xQ (ts.length <= b + (m + 1)) /\ xQ (acc.length <= b + 1) /\ ts.length - b <= gk)
  case atStart => exact ⟨a1, f, _, _, Yk, Zu, HP, HM, N6, (show 1 <= a1 + 1 by omega), xR⟩
  case round =>
   clear Yk Zu HP HM N6 HU HO;obtain ⟨b, m, cs, acc, HRw, Wy, Vy, HMa, U1, Pn, Ts⟩ := hrel;have HT := Za (V6 pb tb cap b d ts sep wr Vy.o OK.o)
   cases hs : Zh ts b sep with
   | false =>
    have HE := Za (Ir HMa.o hs);rw [hs, if_neg (by simp)] at HT;clear hs;go_wp2_with fail;refine HT.o.mono ?_;rintro e w2 ⟨rfl, Zb, Zc⟩;have Zu := Za (Wy.o.trans Zb);have Q7 := Za Zc;have Vp := Za (HRw.o.stay Zb H.o.ltp);clear Zb Zc;go_wp2_with fail;go_ret;rw [HE.o];exact ⟨Zu.o, Q7.o, _, rfl, _, Vp.o⟩
   | true =>
    have Z8 : b + 1 < ts.length := Q4 OK.o.ends Vy.o.lt hs
    obtain ⟨m, rfl⟩ : ∃ q, m = q + 1 := ⟨m - 1, by have := U1.o; omega⟩
    have Ub := Za hs;rw [hs, if_pos rfl] at HT;clear hs;go_wp2_with fail;refine HT.o.mono ?_;rintro e w2 ⟨rfl, Zb, Zc⟩;have Zu := Za (Wy.o.trans Zb);have Q7 := Za Zc;have Vp := Za (HRw.o.stay Zb H.o.ltp);clear Zb Zc;have HO := Za (Jo pb tb cap (b + 1) d ts w2 Q7.o OK.o)
    cases ho : Zr ts (b + 1) with
    | inr x =>
     obtain ⟨er, li, co⟩ := x;have HE := Za (Iu HMa.o Ub.o ho);rw [ho] at HO;clear ho;go_wp2_with fail;refine HO.o.mono ?_;rintro e w3 ⟨Zb, rfl⟩;have V8 := Za (Zu.o.trans Zb);clear Zb;go_wp2_with fail;rw [HE.o];exact ⟨rfl, V8.o, rfl⟩
    | inl x =>
     obtain ⟨D1, b1⟩ := x;have HM2 := Za (Iv HMa.o Ub.o ho);have HU2 := Za (Gw ho);rw [ho] at HO;clear ho;obtain ⟨av, cv, rfl⟩ := U9 Vp.o.ow;go_wp2_with fail;refine HO.o.mono ?_;rintro e w3 ⟨Zb, Zc, v, rfl, hv⟩;subst hv;have V8 := Za (Zu.o.trans Zb);have Kz := Za Zc;have HS23 := Za Zb;have Kb := Za (Vp.o.stay Zb H.o.ltp);clear Zb Zc
     have M9 : acc.length <= 8193 := by have := Pn.o; have := OK.o.len; omega
     go_wp2_with (at_builtin; refine wpList_append_own_at _ rfl (.tmp 17) (.tmp 21) 35 rfl w.heap.size 9 i0 _ 1 16 underlying35 hi Wp Xy Wr rfl (by decide) _ _ _ rfl (Kb.o.ow.alloc _) ⟨_, 0, none⟩ 1 1 [.string ⟨D1.toArray⟩] rfl rfl (Pt _ _ _) (by simp [Value.oneCell']) (by unfold maxLen; omega) (by omega) (by have := V8.o.size; simp; omega) ?_)
     intro v' w4 Z1 Zy _ Ys
     have Xi : xQ (Ym Qc w.heap.size 9 1 none w4 v' (cs ++ [[.string ⟨D1.toArray⟩]]) (acc ++ [D1])) :=
      Kb.o.put Z1 Zy (Ys.imp_right fun e => ⟨_, e, by simp⟩) ((Zl.refl pb w3).alloc Kz.o.ltp _) H.o.ltp rfl ((Wz.new (rep := Qc) (lo := w2.heap.size) (x := D1) rfl Zu.o.size fun q hq => Vp.o.all q hq).stay ((Zl.refl pb w3).alloc Kz.o.ltp _) H.o.ltp)
     have Qa : xQ (Zl pb w w4) := (V8.o.alloc H.o.ltp _).grown Zy H.o.ltp fun q hq => (Kb.o.own q hq).1
     have Ju : xQ (Ps w4 pb tb cap ts b1 d) := (Kz.o.alloc _).grown Zy fun q hq => xT H.o.ltp (Kb.o.own q hq).1
     clear Z1 Zy Ys;go_wp2_with fail
     go_roundg (ts.length - b1)
     case measure => have := HU2.o; have := Ju.o.lt; omega
     case rel => exact ⟨b1, m, _, _, Xi, Qa, Ju, HM2, (by have := U1.o; have := HU2.o; show _ <= _; omega), (by have := Pn.o; have := HU2.o; show (acc ++ [D1]).length <= _; simp; omega), xR⟩
end Go.Proofs.YtfoejkhfdiodhaaGreatDoor
namespace Go.Proofs.YtfoejkhfdiodhaaGreatDoor
open Go.Proofs.Tryz
open Go.RowKit
attribute [local go_sem ↓] Go.wp_at_zero Go.wp_at_succ
theorem rW (ts : List Tok) (K : Nat -> Pr Ty) (a : Nat) : Pl ts K a = (Zr ts a).go fun s b => (Vi ts K [60, 58] b).go fun x b => .inl ((s, x.1), b) := by
 unfold Pl Vi
 cases Zr ts a with
 | inr e => rfl
 | inl p =>
  show (if Zh ts p.2 [60, 58] then _ else _) = Pr.go (if Zh ts p.2 [60, 58] then _ else _) _;by_cases h : Zh ts p.2 [60, 58] = true
  ·rw [if_pos h, if_pos h]
   cases K (p.2 + 1) <;> rfl
  ·rw [if_neg h, if_neg h]
   rfl
def J5 (lo : Nat) (w : World) (c : List Value) (x : List UInt8 × Ty) : Prop := ∃ (k : Int) (nm : ByteArray) (na : Option Addr) (nl nc : Nat) (ka : Option Addr) (kl kc : Nat), c = [.string ⟨x.1.toArray⟩, .int .i64 k, .string nm, .slice na nl nc, .slice ka kl kc] /\ Yb lo w (.agg #[.int .i64 k, .string nm, .slice na nl nc, .slice ka kl kc]) x.2
def VarE (lo : Nat) (w : World) (v : Value) (x : List UInt8 × Ty) : Prop := ∃ c : List Value, v = .agg c.toArray /\ J5 lo w c x
theorem Ci : Lo J5 where
 keep := fun ⟨k, nm, na, nl, nc, ka, kl, kc, e, h⟩ hs hk => ⟨k, nm, na, nl, nc, ka, kl, kc, e, h.keep hs hk⟩
 lower := fun ⟨k, nm, na, nl, nc, ka, kl, kc, e, h⟩ hl => ⟨k, nm, na, nl, nc, ka, kl, kc, e, h.lower hl⟩
abbrev zVar : Obj := .cells #[.string ⟨#[]⟩, .int .i64 0, .string ⟨#[]⟩, .slice none 0 0, .slice none 0 0] 91
abbrev E7 (w : World) (b : Nat) (x0 x1 x2 x3 x4 : Value) : World := ((((w.setCell ⟨b, 0, none⟩ x0).setCell ⟨b, 1, none⟩ x1).setCell ⟨b, 2, none⟩ x2).setCell ⟨b, 3, none⟩ x3).setCell ⟨b, 4, none⟩ x4
section
variable {w w' : World} {b pb lo : Nat} {y0 y1 y2 y3 y4 : Value} {t : TypeId}
theorem fU (h : w.heap[b]? = some (.cells #[y0, y1, y2, y3, y4] t)) (x0 x1 x2 x3 x4 : Value) : (E7 w b x0 x1 x2 x3 x4).heap[b]? = some (.cells #[x0, x1, x2, x3, x4] t) := by
 have h0 := Xe (o := 0) (u := x0) h
 simp only [List.setIfInBounds_toArray, List.set_cons_zero] at h0
 have h1 := Xe (o := 1) (u := x1) h0
 simp only [List.setIfInBounds_toArray, List.set_cons_zero, List.set_cons_succ] at h1
 have h2 := Xe (o := 2) (u := x2) h1
 simp only [List.setIfInBounds_toArray, List.set_cons_zero, List.set_cons_succ] at h2
 have h3 := Xe (o := 3) (u := x3) h2
 simp only [List.setIfInBounds_toArray, List.set_cons_zero, List.set_cons_succ] at h3
 have h4 := Xe (o := 4) (u := x4) h3
 simp only [List.setIfInBounds_toArray, List.set_cons_zero, List.set_cons_succ] at h4
 exact h4
theorem aG (h : Zl pb w w') (hp : pb < w.heap.size) (hb : w.heap.size <= b) (x0 x1 x2 x3 x4 : Value) : Zl pb w (E7 w' b x0 x1 x2 x3 x4) :=
 ((((h.own hp hb 0 _).own hp hb 1 _).own hp hb 2 _).own hp hb 3 _).own hp hb 4 _
theorem fS {tb cap a d : Nat} {ts : List Tok} (h : Ps w pb tb cap ts a d) (hb : pb < b) (x0 x1 x2 x3 x4 : Value) : Ps (E7 w b x0 x1 x2 x3 x4) pb tb cap ts a d :=
 ((((h.other hb 0 _).other hb 1 _).other hb 2 _).other hb 3 _).other hb 4 _
theorem rL {v : Value} {D : Ty} (h : Yb lo w v D) (hb : b < lo) (x0 x1 x2 x3 x4 : Value) : Yb lo (E7 w b x0 x1 x2 x3 x4) v D :=
 h.keep (by simp only [Ye]; exact xR) fun i hi _ => by
  unfold E7
  have Z3 : i ≠ b := by omega
  rw [xH Z3, xH Z3, xH Z3, xH Z3, xH Z3]
theorem box5 (h : w.heap[b]? = some (.cells #[y0, y1, y2, y3, y4] t)) : (w.cell? ⟨b, 0, none⟩ = some y0 /\ w.cell? ⟨b, 1, none⟩ = some y1 /\ w.cell? ⟨b, 2, none⟩ = some y2 /\ w.cell? ⟨b, 3, none⟩ = some y3 /\ w.cell? ⟨b, 4, none⟩ = some y4) /\
  (w.frozen? ⟨b, 0, none⟩ = false /\ w.frozen? ⟨b, 1, none⟩ = false /\ w.frozen? ⟨b, 2, none⟩ = false /\ w.frozen? ⟨b, 3, none⟩ = false /\ w.frozen? ⟨b, 4, none⟩ = false) /\ b < w.heap.size := by
 refine ⟨⟨?_, ?_, ?_, ?_, ?_⟩, ⟨?_, ?_, ?_, ?_, ?_⟩, xB h⟩
 all_goals first | (rw [cell_of_row _ _ _ _ _ _ h]; rfl) | simp [World.frozen?, h]
end
theorem eA (pb tb cap d : Nat) (ts : List Tok) (K : Nat -> Pr Ty) (hK : Xg pb tb cap d ts Yb 21 K) (ok : Yh ts) (a : Nat) (w : World) (h : Ps w pb tb cap ts a d) :
  Calls prog 71 #[pP pb] w (Z7 pb tb cap ts d w VarE (Pl ts K a)) := by
 have H := Za h
 have OK := Za ok
 have hp := h.ltp
 have Py := Za hK
 have C0 := Za (Vz h zVar)
 obtain ⟨R, hR⟩ : ∃ R : Pr (List UInt8 × Ty), R = (Pl ts K a) := ⟨_, rfl⟩
 rw [<- hR]
 rw [rW] at hR
 have Yk := Za hR
 clear h ok hR hK
 go_enter func71, ntmps71
 go_wp2_with fail
 refine (Jo pb tb cap a d ts _ C0.o.ps OK.o).mono ?_
 intro e w2 Zg
 rcases Yj Zg with ⟨er, li, co, hr, rfl, Zb⟩ | ⟨s, b2, v, hr, rfl, Zb, Zc, hv⟩
 ·have HE : xQ (R = .inr (er, li, co)) := by rw [Yk.o, hr]; exact rfl
  have HF := Za (C0.o.st.trans Zb);clear hr Zb Zg;go_wp2_with fail;exact ⟨rfl, HF.o, by rw [HE.o]⟩
 have Zz : xQ (R = (Vi ts K [60, 58] b2).go fun x b => .inl ((s, x.1), b)) := by rw [Yk.o, hr]; exact rfl
 subst hv
 have C2 := Za ((C0.o.step Zb Zc))
 clear hr Zb Zc Zg
 go_wp2_with fail
 refine (A5 pb tb cap d ts [60, 58] K Py.o OK.o b2 _ C2.o.ps).mono ?_
 intro e w3 Zg
 rcases Yj Zg with ⟨er, li, co, hr, rfl, Zb⟩ | ⟨x, b3, v, hr, rfl, Zb, Zc, hv⟩
 ·have HE : xQ (R = .inr (er, li, co)) := by rw [Zz.o, hr]; exact rfl
  have HF := Za (C2.o.st.trans Zb);clear hr Zb Zg;go_wp2_with fail;exact ⟨rfl, HF.o, by rw [HE.o]⟩
 have Yt : xQ (R = .inl ((s, x.1), b3)) := by rw [Zz.o, hr]; exact rfl
 obtain ⟨u3, rfl, hv⟩ := hv
 obtain ⟨k1, nm1, na1, nl1, nc1, ka1, kl1, kc1, rfl⟩ := hv.cells
 have C3 := Za ((C2.o.step Zb Zc).addT hv C2.o.sz)
 clear hr Zb Zc Zg hv
 have C4 := Za (C3.o.alloc (Z5 k1 nm1 na1 nl1 nc1 ka1 kl1 kc1))
 obtain ⟨⟨r0, r1, r2, r3, r4⟩, ⟨f0, f1, f2, f3, f4⟩, Yn⟩ := box5 C4.o.b1
 obtain ⟨⟨q0, q1, q2, q3⟩, _, hq1⟩ := Z6 C4.o.b0
 have Z3 : ¬ w3.heap.size = w.heap.size := by have := C3.o.sz; omega
 go_wp2_with fail
 rw [Yt.o]
 refine bodyPost_ret (results_cell_row rfl _ _ w.heap.size 91 _ (0, 0) _ rfl (fU C4.o.b1 _ _ _ _ _) underlying91 rfl (by kernel_rfl)) rfl ⟨aG C4.o.st hp (xR) _ _ _ _ _, fS C4.o.ps hp _ _ _ _ _, _, rfl, [_, _, _, _, _], rfl, k1, nm1, na1, nl1, nc1, ka1, kl1, kc1, rfl, ?_⟩
 exact (rL C4.o.t0 (xU _) _ _ _ _ _).lower (Nat.le_succ _)
end Go.Proofs.YtfoejkhfdiodhaaGreatDoor
namespace Go.Proofs.YtfoejkhfdiodhaaGreatDoor
open Go.Proofs.Tryz
open Go.RowKit
def xO (lo : Nat) (w : World) (v : Value) (xs : List (List UInt8 × Ty)) : Prop := ∃ cs, Ym J5 lo 91 5 none w v cs xs
theorem vT : (prog.info? 91).map (fun i => (i.zero, i.size, i.bytes)) = some (some (.agg #[.string ⟨#[]⟩, .int .i64 0, .string ⟨#[]⟩, .slice none 0 0, .slice none 0 0]), 5, 88) := by kernel_rfl
theorem jB (pb tb cap d : Nat) (ts : List Tok) (sep : List UInt8) (g : Nat) (one : Nat -> Pr (List UInt8 × Ty)) (hg : Xg pb tb cap d ts VarE g one)
  (f a : Nat) (hf : ts.length <= a + (f + 1)) (w : World) (h : Ps w pb tb cap ts a d) (ok : Yh ts) :
  Calls prog 70 #[pP pb, .string ⟨sep.toArray⟩, .func (.func g) #[] #[]] w (Z7 pb tb cap ts d w xO (Yd ts one sep (f + 1) a)) := by
 have H := Za h
 have OK := Za ok
 have HG := Za hg
 have Vv := hg.enters
 clear h ok hg
 have HO := Za (HG.o.calls a w H.o)
 have HF := Za hf
 clear hf
 cases ho : one a with
 | inr x =>
  obtain ⟨er, li, co⟩ := x;rw [Iq ho];rw [ho] at HO;clear ho;go_enter func70, ntmps70;go_wp2_with fail;refine HO.o.mono ?_;rintro e w1 ⟨Zb, rfl⟩;have Zu := Za Zb;clear Zb;go_wp2_with fail;exact ⟨rfl, Zu.o, rfl⟩
 | inl x =>
  obtain ⟨D0, a1⟩ := x;have HM := Za (Iw (ts := ts) (sep := sep) (f := f) ho);have HU := Za (HG.o.up _ _ _ ho);rw [ho] at HO;clear ho;obtain ⟨R, hR⟩ := xE (Yd ts one sep (f + 1) a);rw [<- hR] at HM ⊢;clear hR;obtain ⟨i0, hi, Wp, Xy, Wr⟩ := info_parts vT;go_enter func70, ntmps70;go_wp2_with fail;refine HO.o.mono ?_;rintro e w1 ⟨Zb, Zc, v, rfl, hv⟩;obtain ⟨_, rfl, k1, nm1, na1, nl1, nc1, ka1, kl1, kc1, rfl, hT⟩ := hv
  have hv : J5 _ _ _ _ := ⟨k1, nm1, na1, nl1, nc1, ka1, kl1, kc1, rfl, hT⟩
  have Yk := Za (Aq (B := w.heap.size) (et := 91) (k := 5) (rep := J5) (c := [.string ⟨D0.1.toArray⟩, .int .i64 k1, .string nm1, .slice na1 nl1 nc1, .slice ka1 kl1 kc1]) hv (xR) Zb.size rfl);have Zu := Za (Zb.alloc H.o.ltp (.cells #[.string ⟨D0.1.toArray⟩, .int .i64 k1, .string nm1, .slice na1 nl1 nc1, .slice ka1 kl1 kc1] 91));have HP := Za (Zc.alloc (.cells #[.string ⟨D0.1.toArray⟩, .int .i64 k1, .string nm1, .slice na1 nl1 nc1, .slice ka1 kl1 kc1] 91))
  clear Zb Zc hv hT
  have N6 : xQ (ts.length <= a1 + (f + 1)) := by have := HF.o; have := HU.o; show _ <= _; omega
  go_wp2_with fail
  go_loopg [7] (ts.length - a1) (fun gk s wr => ∃ (b m : Nat) (cs : List (List Value)) (acc : List (List UInt8 × Ty)), xQ (Ym J5 w.heap.size 91 5 none wr s cs acc) /\ xQ (Zl pb w wr) /\ xQ (Ps wr pb tb cap ts b d) /\ xQ (K3 ts one sep R acc m b) /\ xQ (ts.length <= b + (m + 1)) /\ xQ (acc.length <= b + 1) /\ ts.length - b <= gk)
  case atStart => exact ⟨a1, f, _, _, Yk, Zu, HP, HM, N6, (show 1 <= a1 + 1 by omega), xR⟩
  case round =>
   clear Yk Zu HP HM N6 HU HO;obtain ⟨b, m, cs, acc, HRw, Wy, Vy, HMa, U1, Pn, Ts⟩ := hrel;have HT := Za (V6 pb tb cap b d ts sep wr Vy.o OK.o)
   cases hs : Zh ts b sep with
   | false =>
    have HE := Za (Ir HMa.o hs);rw [hs, if_neg (by simp)] at HT;clear hs;go_wp2_with fail;refine HT.o.mono ?_;rintro e w2 ⟨rfl, Zb, Zc⟩;have Zu := Za (Wy.o.trans Zb);have Q7 := Za Zc;have Vp := Za (HRw.o.stay Zb H.o.ltp);clear Zb Zc;go_wp2_with fail;go_ret;rw [HE.o];exact ⟨Zu.o, Q7.o, _, rfl, _, Vp.o⟩
   | true =>
    have Z8 : b + 1 < ts.length := Q4 OK.o.ends Vy.o.lt hs
    obtain ⟨m, rfl⟩ : ∃ q, m = q + 1 := ⟨m - 1, by have := U1.o; omega⟩
    have Ub := Za hs;rw [hs, if_pos rfl] at HT;clear hs;go_wp2_with fail;refine HT.o.mono ?_;rintro e w2 ⟨rfl, Zb, Zc⟩;have Zu := Za (Wy.o.trans Zb);have Q7 := Za Zc;have Vp := Za (HRw.o.stay Zb H.o.ltp);clear Zb Zc;have HO := Za (HG.o.calls (b + 1) w2 Q7.o)
    cases ho : one (b + 1) with
    | inr x =>
     obtain ⟨er, li, co⟩ := x;have HE := Za (Iu HMa.o Ub.o ho);rw [ho] at HO;clear ho;go_wp2_with fail;refine HO.o.mono ?_;rintro e w3 ⟨Zb, rfl⟩;have V8 := Za (Zu.o.trans Zb);clear Zb;go_wp2_with fail;rw [HE.o];exact ⟨rfl, V8.o, rfl⟩
    | inl x =>
     obtain ⟨D1, b1⟩ := x;have HM2 := Za (Iv HMa.o Ub.o ho);have HU2 := Za (HG.o.up _ _ _ ho);rw [ho] at HO;clear ho;obtain ⟨av, cv, rfl⟩ := U9 Vp.o.ow;go_wp2_with fail;refine HO.o.mono ?_;rintro e w3 ⟨Zb, Zc, v, rfl, hv⟩;obtain ⟨_, rfl, k1, nm1, na1, nl1, nc1, ka1, kl1, kc1, rfl, hT⟩ := hv
     have hv : J5 _ _ _ _ := ⟨k1, nm1, na1, nl1, nc1, ka1, kl1, kc1, rfl, hT⟩
     have V8 := Za (Zu.o.trans Zb);have Kz := Za Zc;have HS23 := Za Zb;have HV := Za hv;have Kb := Za (Vp.o.stay Zb H.o.ltp);clear Zb Zc hv hT
     have M9 : acc.length <= 8193 := by have := Pn.o; have := OK.o.len; omega
     go_wp2_with (at_builtin; refine wpList_append_own_at _ rfl (.tmp 17) (.tmp 21) 46 rfl w.heap.size 91 i0 _ 5 88 underlying46 hi Wp Xy Wr rfl (by decide) _ _ _ rfl (Kb.o.ow.alloc _) ⟨_, 0, none⟩ 1 1 [.string ⟨D1.1.toArray⟩, .int .i64 k1, .string nm1, .slice na1 nl1 nc1, .slice ka1 kl1 kc1] rfl rfl (Pt _ _ _) (by simp [Value.oneCell']) (by unfold maxLen; omega) (by omega) (by have := V8.o.size; simp; omega) ?_)
     intro v' w4 Z1 Zy _ Ys
     have Xi : xQ (Ym J5 w.heap.size 91 5 none w4 v' (cs ++ [[.string ⟨D1.1.toArray⟩, .int .i64 k1, .string nm1, .slice na1 nl1 nc1, .slice ka1 kl1 kc1]]) (acc ++ [D1])) :=
      Kb.o.put Z1 Zy (Ys.imp_right fun e => ⟨_, e, by simp⟩) ((Zl.refl pb w3).alloc Kz.o.ltp _) H.o.ltp rfl ((Wz.new (rep := J5) HV.o Zu.o.size fun q hq => Vp.o.all q hq).stay ((Zl.refl pb w3).alloc Kz.o.ltp _) H.o.ltp)
     have Qa : xQ (Zl pb w w4) := (V8.o.alloc H.o.ltp _).grown Zy H.o.ltp fun q hq => (Kb.o.own q hq).1
     have Ju : xQ (Ps w4 pb tb cap ts b1 d) := (Kz.o.alloc _).grown Zy fun q hq => xT H.o.ltp (Kb.o.own q hq).1
     clear Z1 Zy Ys;go_wp2_with fail
     go_roundg (ts.length - b1)
     case measure => have := HU2.o; have := Ju.o.lt; omega
     case rel => exact ⟨b1, m, _, _, Xi, Qa, Ju, HM2, (by have := U1.o; have := HU2.o; show _ <= _; omega), (by have := Pn.o; have := HU2.o; show (acc ++ [D1]).length <= _; simp; omega), xR⟩
end Go.Proofs.YtfoejkhfdiodhaaGreatDoor
namespace Go.Proofs.YtfoejkhfdiodhaaGreatDoor
open Go.Proofs.Tryz
open Go.RowKit
attribute [local go_sem ↓] Go.wp_at_zero Go.wp_at_succ
abbrev Ez (s : List UInt8) (na : Option Addr) (nl nc li co : Nat) : Obj := .cells #[.string ⟨s.toArray⟩, .slice na nl nc, .int .i64 li, .int .i64 co] 58
abbrev Ht : Obj := .cells #[.string ⟨#[]⟩, .slice none 0 0, .int .i64 0, .int .i64 0] 58
def Mb (ts : List Tok) (a : Nat) : Pr Ty := (Ze ts a [105, 109, 112, 111, 114, 116]).go fun _ b => (Zr ts b).go fun s b => (Ze ts b [58]).go fun _ b => (Yd ts (Zr ts) [44] ts.length b).go fun l b => (Ze ts b [59]).go fun _ b => .inl (Bo s l (Yg ts a) (Yf ts a), b)
def N9 (lo : Nat) (w : World) (c : List Value) (D : Ty) : Prop := ∃ (s : List UInt8) (l : List (List UInt8)) (na : Option Addr) (nc li co : Nat), c = [.string ⟨s.toArray⟩, .slice na l.length nc, .int .i64 li, .int .i64 co] /\ D = Bo s l li co /\ l.length <= 8193 /\ Ba w lo na l
def ImpE (lo : Nat) (w : World) (v : Value) (D : Ty) : Prop := ∃ c : List Value, v = .agg c.toArray /\ N9 lo w c D
theorem l9 (pb tb cap d : Nat) (ts : List Tok) (ok : Yh ts) (a : Nat) (w : World) (h : Ps w pb tb cap ts a d) :
  Calls prog 28 #[pP pb] w (Z7 pb tb cap ts d w ImpE (Mb ts a)) := by
 have H := Za h
 have OK := Za ok
 have hp := h.ltp
 have C0 := Za (Vz h Ht)
 obtain ⟨R, hR⟩ : ∃ R : Pr Ty, R = (Mb ts a) := ⟨_, rfl⟩
 rw [<- hR]
 unfold Mb at hR
 have Z9 := Za hR
 clear h ok hR
 go_enter func28, ntmps28
 go_wp2_with fail
 refine (Vw pb tb cap a d ts [105, 109, 112, 111, 114, 116] _ C0.o.ps OK.o).mono ?_
 intro e w1 Zg
 rcases Yj Zg with ⟨er, li, co, hr, rfl, Zb⟩ | ⟨u, b1, v, hr, rfl, Zb, Zc, hv⟩
 ·have HE : xQ (R = .inr (er, li, co)) := by rw [Z9.o, hr]; exact rfl
  have HF := Za (C0.o.st.trans Zb);clear hr Zb Zg;go_wp2_with fail;exact ⟨rfl, HF.o, by rw [HE.o]⟩
 obtain ⟨t, ht⟩ := xE (Zk ts a)
 have Yk : xQ (R = (Zr ts b1).go fun s b => (Ze ts b [58]).go fun _ b => (Yd ts (Zr ts) [44] ts.length b).go fun l b => (Ze ts b [59]).go fun _ b => .inl (Bo s l t.line t.col, b)) := by rw [Z9.o, hr, ht]; exact rfl
 rw [<- ht] at hv
 subst hv
 have C1 := Za ((C0.o.step Zb Zc))
 have C2 := Za (C1.o.alloc (Zp t))
 clear hr Zb Zc Zg ht
 go_wp2_with fail
 have Vx : (((w1.alloc (Zp t)).drew).cell? ⟨w1.heap.size, 0, none⟩ = some (.int .i64 t.kind) /\ ((w1.alloc (Zp t)).drew).cell? ⟨w1.heap.size, 1, none⟩ = some (.string ⟨t.text.toArray⟩) /\ ((w1.alloc (Zp t)).drew).cell? ⟨w1.heap.size, 2, none⟩ = some (.int .i64 t.line) /\ ((w1.alloc (Zp t)).drew).cell? ⟨w1.heap.size, 3, none⟩ = some (.int .i64 t.col)) := (Y1 (C2.o.drew.b0))
 have Jx : xQ (∀ o, ((((w1.alloc (Zp t)).alloc o).drew).cell? ⟨w1.heap.size, 0, none⟩ = some (.int .i64 t.kind) /\ (((w1.alloc (Zp t)).alloc o).drew).cell? ⟨w1.heap.size, 1, none⟩ = some (.string ⟨t.text.toArray⟩) /\ (((w1.alloc (Zp t)).alloc o).drew).cell? ⟨w1.heap.size, 2, none⟩ = some (.int .i64 t.line) /\ (((w1.alloc (Zp t)).alloc o).drew).cell? ⟨w1.heap.size, 3, none⟩ = some (.int .i64 t.col))) := (fun o => Y1 ((C2.o.alloc o).drew.has (w1.heap.size, Zp t) (by simp)).1)
 have HC : xQ (∀ wa bx, Yy pb tb cap d ts w wa b1 bx [] [] -> (w1.heap.size, Zp t) ∈ bx -> Calls prog 67 #[pP pb] wa fun e w9 => (∃ chain, e = .panicked chain /\ Z7 pb tb cap ts d w ImpE R e w9) ∨ ∃ (s : List UInt8) (b2 : Nat), e = .returned (.string ⟨s.toArray⟩) /\ (w9.cell? ⟨w1.heap.size, 0, none⟩ = some (.int .i64 t.kind) /\ w9.cell? ⟨w1.heap.size, 1, none⟩ = some (.string ⟨t.text.toArray⟩) /\ w9.cell? ⟨w1.heap.size, 2, none⟩ = some (.int .i64 t.line) /\ w9.cell? ⟨w1.heap.size, 3, none⟩ = some (.int .i64 t.col)) /\ xQ (R = ((Ze ts b2 [58]).go fun _ b => (Yd ts (Zr ts) [44] ts.length b).go fun l b => (Ze ts b [59]).go fun _ b => .inl (Bo s l t.line t.col, b)) /\ Yy pb tb cap d ts w w9 b2 bx [] [])) := by
  intro wa bx CA m0;refine (Jo pb tb cap b1 d ts _ CA.ps OK.o).mono ?_;intro e w9 Zg;rcases Yj Zg with ⟨er, li, co, hr, rfl, Zb⟩ | ⟨s, b2, v, hr, rfl, Zb, Zc, hv⟩
  ·exact .inl ⟨_, rfl, CA.st.trans Zb, by rw [Yk.o, hr]; rfl⟩
  subst hv
  have CN := (CA.step Zb Zc)
  exact .inr ⟨s, b2, rfl, Y1 ((CN).has (w1.heap.size, Zp t) m0).1, by rw [Yk.o, hr]; rfl, CN⟩
 go_region_held (fun W => (W.cell? ⟨w1.heap.size, 0, none⟩ = some (.int .i64 t.kind) /\ W.cell? ⟨w1.heap.size, 1, none⟩ = some (.string ⟨t.text.toArray⟩) /\ W.cell? ⟨w1.heap.size, 2, none⟩ = some (.int .i64 t.line) /\ W.cell? ⟨w1.heap.size, 3, none⟩ = some (.int .i64 t.col))) (first | with_reducible assumption | with_reducible exact Jx.o _ | with_reducible exact Wt.o _ | with_reducible exact Xp.o _ _ _ _ | with_reducible exact HS5.o _ _ _ _) (first
  | (go_at_call 67; refine (HC.o _ _ C2.o.drew (by simp)).mono ?_; rintro e w9 (⟨ch, rfl, hf⟩ | ⟨s, b2, rfl, t5, HX⟩); exact ⟨rfl, hf⟩; have Wt : xQ (∀ o, (((w9.alloc o)).cell? ⟨w1.heap.size, 0, none⟩ = some (.int .i64 t.kind) /\ ((w9.alloc o)).cell? ⟨w1.heap.size, 1, none⟩ = some (.string ⟨t.text.toArray⟩) /\ ((w9.alloc o)).cell? ⟨w1.heap.size, 2, none⟩ = some (.int .i64 t.line) /\ ((w9.alloc o)).cell? ⟨w1.heap.size, 3, none⟩ = some (.int .i64 t.col))) := (fun o => Y1 ((HX.o.2.alloc o).has (w1.heap.size, Zp t) (by simp)).1); have HBX := Za (Z6 (HX.o.2.alloc Ht).b0); obtain ⟨⟨i0, i1, i2, i3⟩, ⟨j0, j1, j2, j3⟩, B4⟩ := HBX.o; have Bu : xQ (w1.heap.size ≠ w9.heap.size) := (by have := xB HX.o.2.b0; show _ ≠ _; omega); have HS5 : xQ (∀ v0 v1 v2 v3, (((((((w9.alloc Ht).setCell ⟨w9.heap.size, 0, none⟩ v0).setCell ⟨w9.heap.size, 1, none⟩ v1).setCell ⟨w9.heap.size, 2, none⟩ v2).setCell ⟨w9.heap.size, 3, none⟩ v3)).cell? ⟨w1.heap.size, 0, none⟩ = some (.int .i64 t.kind) /\ ((((((w9.alloc Ht).setCell ⟨w9.heap.size, 0, none⟩ v0).setCell ⟨w9.heap.size, 1, none⟩ v1).setCell ⟨w9.heap.size, 2, none⟩ v2).setCell ⟨w9.heap.size, 3, none⟩ v3)).cell? ⟨w1.heap.size, 1, none⟩ = some (.string ⟨t.text.toArray⟩) /\ ((((((w9.alloc Ht).setCell ⟨w9.heap.size, 0, none⟩ v0).setCell ⟨w9.heap.size, 1, none⟩ v1).setCell ⟨w9.heap.size, 2, none⟩ v2).setCell ⟨w9.heap.size, 3, none⟩ v3)).cell? ⟨w1.heap.size, 2, none⟩ = some (.int .i64 t.line) /\ ((((((w9.alloc Ht).setCell ⟨w9.heap.size, 0, none⟩ v0).setCell ⟨w9.heap.size, 1, none⟩ v1).setCell ⟨w9.heap.size, 2, none⟩ v2).setCell ⟨w9.heap.size, 3, none⟩ v3)).cell? ⟨w1.heap.size, 3, none⟩ = some (.int .i64 t.col))) := (fun v0 v1 v2 v3 => Y1 ((Xs Bu.o v0 v1 v2 v3).trans ((HX.o.2.alloc Ht).has (w1.heap.size, Zp t) (by simp)).1)))
  | (go_at_call 67; refine (HC.o _ _ (C2.o.alloc Ht).drew (by simp)).mono ?_; rintro e w9 (⟨ch, rfl, hf⟩ | ⟨s, b2, rfl, t5, HX⟩); exact ⟨rfl, hf⟩; have HBX := Za (Z6 (show w9.heap[w1.heap.size + 1]? = some Ht from (by have h := HX.o.2.b0; simp only [xS] at h; exact h))); obtain ⟨⟨i0, i1, i2, i3⟩, ⟨j0, j1, j2, j3⟩, B4⟩ := HBX.o; have Xp : xQ (∀ v0 v1 v2 v3, ((((((w9.setCell ⟨w1.heap.size + 1, 0, none⟩ v0).setCell ⟨w1.heap.size + 1, 1, none⟩ v1).setCell ⟨w1.heap.size + 1, 2, none⟩ v2).setCell ⟨w1.heap.size + 1, 3, none⟩ v3)).cell? ⟨w1.heap.size, 0, none⟩ = some (.int .i64 t.kind) /\ (((((w9.setCell ⟨w1.heap.size + 1, 0, none⟩ v0).setCell ⟨w1.heap.size + 1, 1, none⟩ v1).setCell ⟨w1.heap.size + 1, 2, none⟩ v2).setCell ⟨w1.heap.size + 1, 3, none⟩ v3)).cell? ⟨w1.heap.size, 1, none⟩ = some (.string ⟨t.text.toArray⟩) /\ (((((w9.setCell ⟨w1.heap.size + 1, 0, none⟩ v0).setCell ⟨w1.heap.size + 1, 1, none⟩ v1).setCell ⟨w1.heap.size + 1, 2, none⟩ v2).setCell ⟨w1.heap.size + 1, 3, none⟩ v3)).cell? ⟨w1.heap.size, 2, none⟩ = some (.int .i64 t.line) /\ (((((w9.setCell ⟨w1.heap.size + 1, 0, none⟩ v0).setCell ⟨w1.heap.size + 1, 1, none⟩ v1).setCell ⟨w1.heap.size + 1, 2, none⟩ v2).setCell ⟨w1.heap.size + 1, 3, none⟩ v3)).cell? ⟨w1.heap.size, 3, none⟩ = some (.int .i64 t.col))) := (fun v0 v1 v2 v3 => Y1 ((Xs (by omega) v0 v1 v2 v3).trans (HX.o.2.has (w1.heap.size, Zp t) (by simp)).1))))
 ·have C3 := Za (HX.o.2.alloc (Ez s none 0 0 t.line t.col))
  have Kv : xQ (w.heap.size + 1 <= w9.heap.size) := HX.o.2.sz;have Zz := Za HX.o.1;clear HX Wt HS5 HBX i0 i1 i2 i3 j0 j1 j2 j3 B4 Bu t5 HC Jx Vx C0 C1 C2 Z9 Yk;generalize w9.alloc (Ez s none 0 0 t.line t.col) = W3 at C3 ⊢;generalize w9.heap.size = ib at C3 Kv ⊢;go_wp2_with fail;refine (Vw pb tb cap b2 d ts [58] _ C3.o.ps OK.o).mono ?_;intro e w4 Zg;rcases Yj Zg with ⟨er, li, co, hr, rfl, Zb⟩ | ⟨u4, b4, v4, hr, rfl, Zb, Zc, hv⟩
  ·have HE : xQ (R = .inr (er, li, co)) := by rw [Zz.o, hr]; exact rfl
   have HF := Za (C3.o.st.trans Zb);clear hr Zb Zg;go_wp2_with fail;exact ⟨rfl, HF.o, by rw [HE.o]⟩
  obtain ⟨f, hf⟩ : ∃ f, ts.length = f + 1 := ⟨ts.length - 1, by have := OK.o.pos; omega⟩
  have Yt : xQ (R = (Yd ts (Zr ts) [44] (f + 1) b4).go fun l b => (Ze ts b [59]).go fun _ b => .inl (Bo s l t.line t.col, b)) := by rw [Zz.o, hr, hf]; exact rfl
  have C4 := Za (C3.o.step Zb Zc);clear hr Zb Zc Zg hv;go_wp2_with fail;refine (uN pb tb cap d ts [44] _ ⟨fun _ _ _ => by kernel_rfl⟩ f b4 (by omega) _ C4.o.ps OK.o).mono ?_;intro e w5 Zg;rcases Yj Zg with ⟨er, li, co, hr, rfl, Zb⟩ | ⟨l, b5, v, hr, rfl, Zb, Zc, hv⟩
  ·have HE : xQ (R = .inr (er, li, co)) := by rw [Yt.o, hr]; exact rfl
   have HF := Za (C4.o.st.trans Zb);clear hr Zb Zg;go_wp2_with fail;exact ⟨rfl, HF.o, by rw [HE.o]⟩
  have Xi : xQ (R = (Ze ts b5 [59]).go fun _ b => .inl (Bo s l t.line t.col, b)) := by rw [Yt.o, hr]; exact rfl
  have Sc : xQ (l.length <= 8193) := by have := Fv _ hr; have := OK.o.len; show _ <= _; omega
  obtain ⟨cs, hv⟩ := hv;obtain ⟨na, nc, rfl, hnc, hnm⟩ := R9 hv;have N7 := Za hnm;have HL4 : xQ (ib < w4.heap.size) := xB C4.o.b0;have C5 := Za (C4.o.step Zb Zc);clear hr Zb Zc Zg hv hnm;obtain ⟨⟨i0, i1, i2, i3⟩, ⟨j0, j1, j2, j3⟩, B4⟩ := Z6 C5.o.b0;go_wp2_with fail
  have C6 : xQ (Yy pb tb cap d ts w (w5.setCell ⟨ib, 1, none⟩ (.slice na l.length nc)) b5 [(ib, Ez s na l.length nc t.line t.col), (w.heap.size, Ht)] [] []) := by
   have := Kv.o;refine ⟨C5.o.st.own hp (by omega) 1 _, C5.o.ps.other (by omega) 1 _, hp, by rw [Ye]; exact C5.o.sz, fun p hm => ?_, (fun _ h => nomatch h), (fun _ h => nomatch h)⟩;rcases List.mem_cons.1 hm with rfl | hm
   ·have h1 := Xe (o := 1) (u := .slice na l.length nc) C5.o.b0
    simp only [List.setIfInBounds_toArray, List.set_cons_zero, List.set_cons_succ] at h1;exact ⟨h1, by show pb < ib; omega⟩
   ·rw [List.mem_singleton.1 hm]
    exact ⟨(xH (by show w.heap.size ≠ ib; omega)).trans C5.o.b2, hp⟩
  have Lh : xQ (Ba (w5.setCell ⟨ib, 1, none⟩ (.slice na l.length nc)) w4.heap.size na l) := Fx N7.o (by rw [Ye]; exact xR) fun i hi _ => xH (by show i ≠ ib; have := HL4.o; omega)
  clear C5 N7 i0 i1 i2 i3 j0 j1 j2 j3 B4;generalize w5.setCell ⟨ib, 1, none⟩ (.slice na l.length nc) = W6 at C6 Lh ⊢;refine (Vw pb tb cap b5 d ts [59] _ C6.o.ps OK.o).mono ?_;intro e w7 Zg;rcases Yj Zg with ⟨er, li, co, hr, rfl, Zb⟩ | ⟨u7, b7, v7, hr, rfl, Zb, Zc, hv⟩
  ·have HE : xQ (R = .inr (er, li, co)) := by rw [Xi.o, hr]; exact rfl
   have HF := Za (C6.o.st.trans Zb);clear hr Zb Zg;go_wp2_with fail;exact ⟨rfl, HF.o, by rw [HE.o]⟩
  have Xq : xQ (R = .inl (Bo s l t.line t.col, b7)) := by rw [Xi.o, hr]; exact rfl
  have C7 := Za (C6.o.step Zb Zc)
  have Kw : xQ (Ba w7 w4.heap.size na l) := Fx Lh.o Zb.size fun i hi hl => Zb.keep i (by have := HL4.o; have := Kv.o; omega) hl
  clear hr Zb Zc Zg hv;obtain ⟨⟨i0, i1, i2, i3⟩, _, B4⟩ := Z6 C7.o.b0;obtain ⟨⟨r0, r1, r2, r3⟩, ⟨f0, f1, f2, f3⟩, Yn⟩ := Z6 C7.o.b1
  have Z3 : ¬ ib = w.heap.size := by have := Kv.o; omega
  go_wp2_with fail;rw [Xq.o];refine bodyPost_ret (results_cell_row rfl _ _ w.heap.size 58 _ (0, 0) _ rfl (set4 C7.o.b1 _ _ _ _) underlying58 rfl (by kernel_rfl)) rfl ⟨Ta C7.o.st hp (xR) _ _ _ _, Br C7.o.ps hp _ _ _ _, _, rfl, [_, _, _, _], rfl, s, l, na, nc, t.line, t.col, rfl, rfl, Sc.o, ?_⟩;refine Iz (lo := w4.heap.size) (Fx Kw.o (by rw [Mg]; exact xR) fun i hi _ => Xs (by have := HL4.o; have := Kv.o; omega) _ _ _ _) (by have := HL4.o; have := Kv.o; omega)
 ·have C3 : xQ (Yy pb tb cap d ts w ((((w9.setCell ⟨w1.heap.size + 1, 0, none⟩ (.string ⟨s.toArray⟩)).setCell ⟨w1.heap.size + 1, 1, none⟩ (.slice none 0 0)).setCell ⟨w1.heap.size + 1, 2, none⟩ (.int .i64 t.line)).setCell ⟨w1.heap.size + 1, 3, none⟩ (.int .i64 t.col)) b2 [(w1.heap.size + 1, Ez s none 0 0 t.line t.col), (w1.heap.size, Zp t), (w.heap.size, Ht)] [] []) := by
   have hx := HX.o.2;simp only [xS] at hx;have := C1.o.sz;refine ⟨Ta hx.st hp (by omega) _ _ _ _, Br hx.ps (by omega) _ _ _ _, hp, by rw [Mg]; exact hx.sz, fun p hm => ?_, (fun _ h => nomatch h), (fun _ h => nomatch h)⟩;rcases List.mem_cons.1 hm with rfl | hm
   ·exact ⟨set4 hx.b0 _ _ _ _, by show pb < _ + 1; omega⟩
   ·rcases List.mem_cons.1 hm with rfl | hm
    ·exact ⟨(Xs (by show _ ≠ _ + 1; omega) _ _ _ _).trans hx.b1, by show pb < _; omega⟩
    ·rw [List.mem_singleton.1 hm]
     exact ⟨(Xs (by show _ ≠ _ + 1; omega) _ _ _ _).trans hx.b2, hp⟩
  have Kv : xQ (w.heap.size + 1 <= w1.heap.size + 1) := by have := C1.o.sz; show _ <= _; omega
  have Zz := Za HX.o.1;clear HX Xp HBX i0 i1 i2 i3 j0 j1 j2 j3 B4 t5 HC Jx Vx C0 C1 C2 Z9 Yk;generalize ((((w9.setCell ⟨w1.heap.size + 1, 0, none⟩ (.string ⟨s.toArray⟩)).setCell ⟨w1.heap.size + 1, 1, none⟩ (.slice none 0 0)).setCell ⟨w1.heap.size + 1, 2, none⟩ (.int .i64 t.line)).setCell ⟨w1.heap.size + 1, 3, none⟩ (.int .i64 t.col)) = W3 at C3 ⊢;generalize w1.heap.size + 1 = ib at C3 Kv ⊢;go_wp2_with fail
  refine (Vw pb tb cap b2 d ts [58] _ C3.o.ps OK.o).mono ?_;intro e w4 Zg;rcases Yj Zg with ⟨er, li, co, hr, rfl, Zb⟩ | ⟨u4, b4, v4, hr, rfl, Zb, Zc, hv⟩
  ·have HE : xQ (R = .inr (er, li, co)) := by rw [Zz.o, hr]; exact rfl
   have HF := Za (C3.o.st.trans Zb);clear hr Zb Zg;go_wp2_with fail;exact ⟨rfl, HF.o, by rw [HE.o]⟩
  obtain ⟨f, hf⟩ : ∃ f, ts.length = f + 1 := ⟨ts.length - 1, by have := OK.o.pos; omega⟩
  have Yt : xQ (R = (Yd ts (Zr ts) [44] (f + 1) b4).go fun l b => (Ze ts b [59]).go fun _ b => .inl (Bo s l t.line t.col, b)) := by rw [Zz.o, hr, hf]; exact rfl
  have C4 := Za (C3.o.step Zb Zc);clear hr Zb Zc Zg hv;go_wp2_with fail;refine (uN pb tb cap d ts [44] _ ⟨fun _ _ _ => by kernel_rfl⟩ f b4 (by omega) _ C4.o.ps OK.o).mono ?_;intro e w5 Zg;rcases Yj Zg with ⟨er, li, co, hr, rfl, Zb⟩ | ⟨l, b5, v, hr, rfl, Zb, Zc, hv⟩
  ·have HE : xQ (R = .inr (er, li, co)) := by rw [Yt.o, hr]; exact rfl
   have HF := Za (C4.o.st.trans Zb);clear hr Zb Zg;go_wp2_with fail;exact ⟨rfl, HF.o, by rw [HE.o]⟩
  have Xi : xQ (R = (Ze ts b5 [59]).go fun _ b => .inl (Bo s l t.line t.col, b)) := by rw [Yt.o, hr]; exact rfl
  have Sc : xQ (l.length <= 8193) := by have := Fv _ hr; have := OK.o.len; show _ <= _; omega
  obtain ⟨cs, hv⟩ := hv;obtain ⟨na, nc, rfl, hnc, hnm⟩ := R9 hv;have N7 := Za hnm;have HL4 : xQ (ib < w4.heap.size) := xB C4.o.b0;have C5 := Za (C4.o.step Zb Zc);clear hr Zb Zc Zg hv hnm;obtain ⟨⟨i0, i1, i2, i3⟩, ⟨j0, j1, j2, j3⟩, B4⟩ := Z6 C5.o.b0;go_wp2_with fail
  have C6 : xQ (Yy pb tb cap d ts w (w5.setCell ⟨ib, 1, none⟩ (.slice na l.length nc)) b5 [(ib, Ez s na l.length nc t.line t.col), (w.heap.size, Ht)] [] []) := by
   have := Kv.o;refine ⟨C5.o.st.own hp (by omega) 1 _, C5.o.ps.other (by omega) 1 _, hp, by rw [Ye]; exact C5.o.sz, fun p hm => ?_, (fun _ h => nomatch h), (fun _ h => nomatch h)⟩;rcases List.mem_cons.1 hm with rfl | hm
   ·have h1 := Xe (o := 1) (u := .slice na l.length nc) C5.o.b0
    simp only [List.setIfInBounds_toArray, List.set_cons_zero, List.set_cons_succ] at h1;exact ⟨h1, by show pb < ib; omega⟩
   ·rw [List.mem_singleton.1 hm]
    exact ⟨(xH (by show w.heap.size ≠ ib; omega)).trans C5.o.b2, hp⟩
  have Lh : xQ (Ba (w5.setCell ⟨ib, 1, none⟩ (.slice na l.length nc)) w4.heap.size na l) := Fx N7.o (by rw [Ye]; exact xR) fun i hi _ => xH (by show i ≠ ib; have := HL4.o; omega)
  clear C5 N7 i0 i1 i2 i3 j0 j1 j2 j3 B4;generalize w5.setCell ⟨ib, 1, none⟩ (.slice na l.length nc) = W6 at C6 Lh ⊢;refine (Vw pb tb cap b5 d ts [59] _ C6.o.ps OK.o).mono ?_;intro e w7 Zg;rcases Yj Zg with ⟨er, li, co, hr, rfl, Zb⟩ | ⟨u7, b7, v7, hr, rfl, Zb, Zc, hv⟩
  ·have HE : xQ (R = .inr (er, li, co)) := by rw [Xi.o, hr]; exact rfl
   have HF := Za (C6.o.st.trans Zb);clear hr Zb Zg;go_wp2_with fail;exact ⟨rfl, HF.o, by rw [HE.o]⟩
  have Xq : xQ (R = .inl (Bo s l t.line t.col, b7)) := by rw [Xi.o, hr]; exact rfl
  have C7 := Za (C6.o.step Zb Zc)
  have Kw : xQ (Ba w7 w4.heap.size na l) := Fx Lh.o Zb.size fun i hi hl => Zb.keep i (by have := HL4.o; have := Kv.o; omega) hl
  clear hr Zb Zc Zg hv;obtain ⟨⟨i0, i1, i2, i3⟩, _, B4⟩ := Z6 C7.o.b0;obtain ⟨⟨r0, r1, r2, r3⟩, ⟨f0, f1, f2, f3⟩, Yn⟩ := Z6 C7.o.b1
  have Z3 : ¬ ib = w.heap.size := by have := Kv.o; omega
  go_wp2_with fail;rw [Xq.o];refine bodyPost_ret (results_cell_row rfl _ _ w.heap.size 58 _ (0, 0) _ rfl (set4 C7.o.b1 _ _ _ _) underlying58 rfl (by kernel_rfl)) rfl ⟨Ta C7.o.st hp (xR) _ _ _ _, Br C7.o.ps hp _ _ _ _, _, rfl, [_, _, _, _], rfl, s, l, na, nc, t.line, t.col, rfl, rfl, Sc.o, ?_⟩;refine Iz (lo := w4.heap.size) (Fx Kw.o (by rw [Mg]; exact xR) fun i hi _ => Xs (by have := HL4.o; have := Kv.o; omega) _ _ _ _) (by have := HL4.o; have := Kv.o; omega)
end Go.Proofs.YtfoejkhfdiodhaaGreatDoor
namespace Go.Proofs.YtfoejkhfdiodhaaGreatDoor
open Go.Proofs.Tryz
open Go.RowKit
abbrev Ru (w : World) (b : Nat) (x0 x1 x2 x3 x4 x5 x6 x7 x8 x9 x10 x11 x12 x13 x14 : Value) : World := (((((((((((((((w.setCell ⟨b, 0, none⟩ x0).setCell ⟨b, 1, none⟩ x1).setCell ⟨b, 2, none⟩ x2).setCell ⟨b, 3, none⟩ x3).setCell ⟨b, 4, none⟩ x4).setCell ⟨b, 5, none⟩ x5).setCell ⟨b, 6, none⟩ x6).setCell ⟨b, 7, none⟩ x7).setCell ⟨b, 8, none⟩ x8).setCell ⟨b, 9, none⟩ x9).setCell ⟨b, 10, none⟩ x10).setCell ⟨b, 11, none⟩ x11).setCell ⟨b, 12, none⟩ x12).setCell ⟨b, 13, none⟩ x13).setCell ⟨b, 14, none⟩ x14)
section
variable {w w' : World} {b pb lo : Nat} {y0 y1 y2 y3 y4 y5 y6 y7 y8 y9 y10 y11 y12 y13 y14 : Value} {t : TypeId}
theorem qC (h : w.heap[b]? = some (.cells #[y0, y1, y2, y3, y4, y5, y6, y7, y8, y9, y10, y11, y12, y13, y14] t)) (x0 x1 x2 x3 x4 x5 x6 x7 x8 x9 x10 x11 x12 x13 x14 : Value) : (Ru w b x0 x1 x2 x3 x4 x5 x6 x7 x8 x9 x10 x11 x12 x13 x14).heap[b]? = some (.cells #[x0, x1, x2, x3, x4, x5, x6, x7, x8, x9, x10, x11, x12, x13, x14] t) := by
 have h0 := Xe (o := 0) (u := x0) h
 simp only [List.setIfInBounds_toArray, List.set_cons_zero] at h0
 have h1 := Xe (o := 1) (u := x1) h0
 simp only [List.setIfInBounds_toArray, List.set_cons_zero, List.set_cons_succ] at h1
 have h2 := Xe (o := 2) (u := x2) h1
 simp only [List.setIfInBounds_toArray, List.set_cons_zero, List.set_cons_succ] at h2
 have h3 := Xe (o := 3) (u := x3) h2
 simp only [List.setIfInBounds_toArray, List.set_cons_zero, List.set_cons_succ] at h3
 have h4 := Xe (o := 4) (u := x4) h3
 simp only [List.setIfInBounds_toArray, List.set_cons_zero, List.set_cons_succ] at h4
 have h5 := Xe (o := 5) (u := x5) h4
 simp only [List.setIfInBounds_toArray, List.set_cons_zero, List.set_cons_succ] at h5
 have h6 := Xe (o := 6) (u := x6) h5
 simp only [List.setIfInBounds_toArray, List.set_cons_zero, List.set_cons_succ] at h6
 have h7 := Xe (o := 7) (u := x7) h6
 simp only [List.setIfInBounds_toArray, List.set_cons_zero, List.set_cons_succ] at h7
 have h8 := Xe (o := 8) (u := x8) h7
 simp only [List.setIfInBounds_toArray, List.set_cons_zero, List.set_cons_succ] at h8
 have h9 := Xe (o := 9) (u := x9) h8
 simp only [List.setIfInBounds_toArray, List.set_cons_zero, List.set_cons_succ] at h9
 have h10 := Xe (o := 10) (u := x10) h9
 simp only [List.setIfInBounds_toArray, List.set_cons_zero, List.set_cons_succ] at h10
 have h11 := Xe (o := 11) (u := x11) h10
 simp only [List.setIfInBounds_toArray, List.set_cons_zero, List.set_cons_succ] at h11
 have h12 := Xe (o := 12) (u := x12) h11
 simp only [List.setIfInBounds_toArray, List.set_cons_zero, List.set_cons_succ] at h12
 have h13 := Xe (o := 13) (u := x13) h12
 simp only [List.setIfInBounds_toArray, List.set_cons_zero, List.set_cons_succ] at h13
 have h14 := Xe (o := 14) (u := x14) h13
 simp only [List.setIfInBounds_toArray, List.set_cons_zero, List.set_cons_succ] at h14
 exact h14
theorem Rw (x0 x1 x2 x3 x4 x5 x6 x7 x8 x9 x10 x11 x12 x13 x14 : Value) : (Ru w b x0 x1 x2 x3 x4 x5 x6 x7 x8 x9 x10 x11 x12 x13 x14).heap.size = w.heap.size := by simp only [Ye]
theorem Rv {i : Nat} (hi : i ≠ b) (x0 x1 x2 x3 x4 x5 x6 x7 x8 x9 x10 x11 x12 x13 x14 : Value) : (Ru w b x0 x1 x2 x3 x4 x5 x6 x7 x8 x9 x10 x11 x12 x13 x14).heap[i]? = w.heap[i]? := by
 unfold Ru
 rw [xH hi, xH hi, xH hi, xH hi, xH hi, xH hi, xH hi, xH hi, xH hi, xH hi, xH hi, xH hi, xH hi, xH hi, xH hi]
theorem qT (h : Zl pb w w') (hp : pb < w.heap.size) (hb : w.heap.size <= b) (x0 x1 x2 x3 x4 x5 x6 x7 x8 x9 x10 x11 x12 x13 x14 : Value) : Zl pb w (Ru w' b x0 x1 x2 x3 x4 x5 x6 x7 x8 x9 x10 x11 x12 x13 x14) := (((((((((((((((h.own hp hb 0 _).own hp hb 1 _).own hp hb 2 _).own hp hb 3 _).own hp hb 4 _).own hp hb 5 _).own hp hb 6 _).own hp hb 7 _).own hp hb 8 _).own hp hb 9 _).own hp hb 10 _).own hp hb 11 _).own hp hb 12 _).own hp hb 13 _).own hp hb 14 _)
theorem qB {tb cap a d : Nat} {ts : List Tok} (h : Ps w pb tb cap ts a d) (hb : pb < b) (x0 x1 x2 x3 x4 x5 x6 x7 x8 x9 x10 x11 x12 x13 x14 : Value) : Ps (Ru w b x0 x1 x2 x3 x4 x5 x6 x7 x8 x9 x10 x11 x12 x13 x14) pb tb cap ts a d := (((((((((((((((h.other hb 0 _).other hb 1 _).other hb 2 _).other hb 3 _).other hb 4 _).other hb 5 _).other hb 6 _).other hb 7 _).other hb 8 _).other hb 9 _).other hb 10 _).other hb 11 _).other hb 12 _).other hb 13 _).other hb 14 _)
theorem U3 (h : w.heap[b]? = some (.cells #[y0, y1, y2, y3, y4, y5, y6, y7, y8, y9, y10, y11, y12, y13, y14] t)) : (w.cell? ⟨b, 0, none⟩ = some y0 /\ w.cell? ⟨b, 1, none⟩ = some y1 /\ w.cell? ⟨b, 2, none⟩ = some y2 /\ w.cell? ⟨b, 3, none⟩ = some y3 /\ w.cell? ⟨b, 4, none⟩ = some y4 /\ w.cell? ⟨b, 5, none⟩ = some y5 /\ w.cell? ⟨b, 6, none⟩ = some y6 /\ w.cell? ⟨b, 7, none⟩ = some y7 /\ w.cell? ⟨b, 8, none⟩ = some y8 /\ w.cell? ⟨b, 9, none⟩ = some y9 /\ w.cell? ⟨b, 10, none⟩ = some y10 /\ w.cell? ⟨b, 11, none⟩ = some y11 /\ w.cell? ⟨b, 12, none⟩ = some y12 /\ w.cell? ⟨b, 13, none⟩ = some y13 /\ w.cell? ⟨b, 14, none⟩ = some y14) /\ (w.frozen? ⟨b, 0, none⟩ = false /\ w.frozen? ⟨b, 1, none⟩ = false /\ w.frozen? ⟨b, 2, none⟩ = false /\ w.frozen? ⟨b, 3, none⟩ = false /\ w.frozen? ⟨b, 4, none⟩ = false /\ w.frozen? ⟨b, 5, none⟩ = false /\ w.frozen? ⟨b, 6, none⟩ = false /\ w.frozen? ⟨b, 7, none⟩ = false /\ w.frozen? ⟨b, 8, none⟩ = false /\ w.frozen? ⟨b, 9, none⟩ = false /\ w.frozen? ⟨b, 10, none⟩ = false /\ w.frozen? ⟨b, 11, none⟩ = false /\ w.frozen? ⟨b, 12, none⟩ = false /\ w.frozen? ⟨b, 13, none⟩ = false /\ w.frozen? ⟨b, 14, none⟩ = false) /\ b < w.heap.size := by
 refine ⟨⟨?_, ?_, ?_, ?_, ?_, ?_, ?_, ?_, ?_, ?_, ?_, ?_, ?_, ?_, ?_⟩, ⟨?_, ?_, ?_, ?_, ?_, ?_, ?_, ?_, ?_, ?_, ?_, ?_, ?_, ?_, ?_⟩, xB h⟩
 all_goals first | (rw [cell_of_row _ _ _ _ _ _ h]; rfl) | simp [World.frozen?, h]
end
def Be (lo : Nat) (w : World) (a : Option Addr) (vs : List (List UInt8 × Ty)) : Prop := vs = [] ∨ ∃ g, a = some ⟨g, 0, none⟩ /\ lo <= g /\ N0 w g /\
  ∀ i (hi : i < vs.length), ∃ c : List Value, c.length = 5 /\ (∀ j, j < 5 -> w.cell? ⟨g, i * 5 + j, none⟩ = c[j]?) /\ J5 lo w c vs[i]
theorem Cj {lo lo' : Nat} {w : World} {a : Option Addr} {vs : List (List UInt8 × Ty)} (h : Be lo w a vs) (hl : lo' <= lo) : Be lo' w a vs := by
 rcases h with h | ⟨g, e, hg, hc, hr⟩
 ·exact .inl h
 ·refine .inr ⟨g, e, Nat.le_trans hl hg, hc, fun i hi => ?_⟩
  obtain ⟨c, h1, h2, h3⟩ := hr i hi;exact ⟨c, h1, h2, Ci.lower h3 hl⟩
theorem Ql {lo : Nat} {w w' : World} {a : Option Addr} {vs : List (List UInt8 × Ty)} (h : Be lo w a vs) (hs : w.heap.size <= w'.heap.size) (hk : ∀ b, lo <= b -> b < w.heap.size -> w'.heap[b]? = w.heap[b]?) : Be lo w' a vs := by
 rcases h with h | ⟨g, e, hg, hc, hr⟩
 ·exact .inl h
 ·obtain ⟨cs, ty, hh⟩ := hc
  have Ts := hk g hg (xB hh);refine .inr ⟨g, e, hg, ⟨cs, ty, Ts.trans hh⟩, fun i hi => ?_⟩;obtain ⟨c, h1, h2, h3⟩ := hr i hi;refine ⟨c, h1, fun j hj => ?_, Ci.keep h3 hs hk⟩;have := h2 j hj;unfold World.cell? at this ⊢;simp only at this ⊢;rw [Ts];exact this
theorem eB {lo : Nat} {w : World} {v : Value} {vs : List (List UInt8 × Ty)} (h : xO lo w v vs) : ∃ a cap, v = .slice a vs.length cap /\ vs.length <= cap /\ Be lo w a vs := by
 obtain ⟨cs, h⟩ := h
 obtain ⟨a, cap, e, hc, hr⟩ := h.form Ci
 exact ⟨a, cap, e, hc, hr⟩
theorem bD {ts : List Tok} {K : Nat -> Pr Ty} {s : List UInt8} {a b : Nat} {t : Ty} (h : Vi ts K s a = .inl ((t, false), b)) : t = Yq 0 [] [] [] := by
 unfold Vi at h
 split at h
 ·cases hk : K (a + 1) with
  | inr e => rw [hk] at h; cases h
  | inl p => rw [hk] at h; injection h with h; injection h with h _; injection h with _ h; cases h
 ·injection h with h
  injection h with h _;injection h with h _;exact h.symm
theorem O0 (ts : List Tok) (a : Nat) : M5 ts a =
  (Ze ts (if Zh ts a [101, 120, 112, 111, 114, 116] then a + 1 else a) [102, 110]).go fun _ b => (Zr ts b).go fun s b => (Q5 ts (Xl ts ts.length 101 0) ts.length b).go fun vs b => (Bp ts (Xl ts ts.length 101 0) b).go fun h b => (Vi ts (Xl ts ts.length 101 0) [58] b).go fun y b => (Ze ts b [61]).go fun _ b => (Wo ts ts.length 101 false 0 b).go fun x b => (Ze ts b [59]).go fun _ b =>
   .inl (Qu s (Zh ts a [101, 120, 112, 111, 114, 116]) vs h.1 [h.2, y.1] x (Yg ts (if Zh ts a [101, 120, 112, 111, 114, 116] then a + 1 else a)) (Yf ts (if Zh ts a [101, 120, 112, 111, 114, 116] then a + 1 else a)), b) := by
 unfold M5
 simp only
 congr 1
 funext _ b
 congr 1
 funext s b
 congr 1
 funext vs b
 rw [<- vK]
 congr 1
 funext h b
 cases hb : Vi ts (Xl ts ts.length 101 0) [58] b with
 | inr e => rfl
 | inl p =>
  obtain ⟨⟨y, q⟩, c⟩ := p
  cases q with
  | false => rw [bD hb]; rfl
  | true => rfl
end Go.Proofs.YtfoejkhfdiodhaaGreatDoor
