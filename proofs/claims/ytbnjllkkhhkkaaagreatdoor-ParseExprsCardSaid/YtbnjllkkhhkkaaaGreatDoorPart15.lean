/- Part. -/
import Derived.Test.YtbnjllkkhhkkaaaGreatDoorPart14
set_option maxRecDepth 100000
set_option maxHeartbeats 4000000
namespace Go.Proofs.YtbnjllkkhhkkaaaGreatDoor
open Tryz
open Go.RowKit
theorem Ft {l : List UInt8} {ts : List Tok} (h : Wb l = .inl ts) : Ui l = Uj (Uv ts (Yw ts ts.length 101 false 0 0)) := by
 unfold Ui Uj
 rw [h]
 simp only
 cases Uv ts (Yw ts ts.length 101 false 0 0) <;> rfl
theorem O9 {w : World} {pb tb cap a d b : Nat} {ts : List Tok} (h : Ps w pb tb cap ts a d) (h1 : b ≠ pb) (h2 : b ≠ tb) (x : NV) : Ps (put8 w b x) pb tb cap ts a d :=
 ⟨(Xq (x := x) (fun e => h1 e.symm)).trans h.blk, h.tlt, Wj h.toks (Xq (x := x) (fun e => h2 e.symm)), h.lt⟩
theorem Zv.drew {lo : Nat} {w : World} {x : NV} {D : Ty} (h : Zv lo w x D) : Zv lo w.drew x D := h.keep (xR) fun _ _ _ => rfl
theorem Zv.set4 {lo b : Nat} {w : World} {x : NV} {D : Ty} (h : Zv lo w x D) (hb : b < lo) (x0 x1 x2 x3 : Value) : Zv lo ((((w.setCell ⟨b, 0, none⟩ x0).setCell ⟨b, 1, none⟩ x1).setCell ⟨b, 2, none⟩ x2).setCell ⟨b, 3, none⟩ x3) x D :=
 (((h.set1 hb 0 _).set1 hb 1 _).set1 hb 2 _).set1 hb 3 _
theorem zhf (S : ByteArray) (hS : S.size ≤ 140737488351232) (w : World) (hw : Lx.Words w) :
  Calls prog 22 #[.string S, .func (.func 23) #[] #[]] w (Tx w Ze.val Zo (Ui S.data.toList)) := by
 have hmf : ∀ (fn : Fn) (first cap : Array Value) (w : World), (Instr.makeFunc fn first cap).run prog w = .ok (.func fn first cap) w := fun _ _ _ _ => rfl
 have HX := Za (fun wx (hb : Below w.heap.size w wx) => Lx.lex_c S hS wx (hw.below hb))
 have hen := Gq
 clear hw
 go_enter_defers func22, ntmps22
 go_wp2_with fail
 refine (HX.o _ (Zn (Zl _ _) (Zl _ _))).mono ?_
 intro e w2 zhm
 obtain ⟨hb2, hm⟩ := zhm
 have HB2 := Za (Zn (Zn (Zl _ _) (Zl _ _)) hb2)
 have HA := Za ((hb2.block w.heap.size (by rw [xS, xS]; omega)).trans ((xA (by rw [xS]; omega)).trans (xL w _)))
 have HD := Za ((hb2.block (w.heap.size + 1) (by rw [xS, xS]; omega)).trans (Wn w _ _))
 clear hb2
 obtain ⟨⟨a0, a1, a2, a3, a4, a5, a6, a7⟩, ⟨z0, z1, z2, z3, z4, z5, z6, z7⟩, hla⟩ := Zh (x := Ze) HA.o
 obtain ⟨⟨d0, d1, d2, d3⟩, ⟨g0, g1, g2, g3⟩, hld⟩ := Zr HD.o
 cases hl : Wb S.data.toList with
 | inr p =>
  obtain ⟨x, li, co⟩ := p
  rw [hl] at hm
  simp only at hm
  subst hm
  have hx0 : (x != 0) = true := by simpa using K2 hl
  have HE : xQ (Ui S.data.toList = .inr (x, li, co)) := by show _ = _; unfold Ui; rw [hl]
  clear hl
  unfold Lx.diagA
  go_wp2_with fail
  go_region
  all_goals
   go_wp2_with fail
   have hh1 := Yn (w := w2) (b := w.heap.size + 1) (i := w.heap.size) (by omega) (.int .i64 0) (.int .i64 li) (.int .i64 co) (.int .i64 x)
   have hga := Yj (x := Ze) (y := Ze) (hh1.trans HA.o)
   have hgd := set4 ((Xq (x := Ze) (b := w.heap.size) (i := w.heap.size + 1) (by omega)).trans (set4 HD.o (.int .i64 0) (.int .i64 li) (.int .i64 co) (.int .i64 x))) (.int .i64 0) (.int .i64 li) (.int .i64 co) (.int .i64 x)
   refine ⟨.tuple #[Ze.val, Vx li co x], N2 rfl _ rfl ((Yn (b := w.heap.size + 1) (i := w.heap.size) (by omega) (.int .i64 0) (.int .i64 li) (.int .i64 co) (.int .i64 x)).trans hga) underlying27 (by kernel_rfl) rfl hgd underlying30 (by kernel_rfl), ?_⟩
   rw [HE.o]
   exact ⟨(Xd (Ni (Xd HB2.o (by omega) _ _ _ _) (xR) Ze) (by omega) _ _ _ _).drew, rfl⟩
 | inl ts =>
  rw [hl] at hm
  obtain ⟨g, cap, rfl, hown⟩ := hm
  have OK := Za (Lk hl)
  have HE := Za (Ft hl)
  have HTc := Za (Kq hown)
  have hgl : g < w2.heap.size ∧ w.heap.size + 2 ≤ g := by
   have := hown.lt g rfl
   rw [xS, xS] at this
   omega
  obtain ⟨hgl1, hgl2⟩ := hgl
  obtain ⟨Wd, hWd⟩ := xE ((((w2.setCell ⟨w.heap.size + 1, 0, none⟩ (.int .i64 0)).setCell ⟨w.heap.size + 1, 1, none⟩ (.int .i64 0)).setCell ⟨w.heap.size + 1, 2, none⟩ (.int .i64 0)).setCell ⟨w.heap.size + 1, 3, none⟩ (.int .i64 0))
  have hWs : Wd.heap.size = w2.heap.size := by rw [hWd, Vj]
  have HAd : xQ (Wd.heap[w.heap.size]? = some Ze.obj) := by rw [hWd]; exact (Yn (by omega) _ _ _ _).trans HA.o
  have HDd : xQ (Wd.heap[w.heap.size + 1]? = some (.cells #[.int .i64 0, .int .i64 0, .int .i64 0, .int .i64 0] 30)) := by rw [hWd]; exact set4 HD.o _ _ _ _
  have HTd : xQ (Q7 Wd g ts) := Wj HTc.o (by rw [hWd]; exact Yn (by omega) _ _ _ _)
  have HBd : xQ (Below w.heap.size w Wd) := by rw [hWd]; exact Xd HB2.o (by omega) _ _ _ _
  clear hl hown
  unfold Lx.diagA
  go_wp2_with fail
  rw [← hWd, ← hWs]
  have P0 : Ps (Wd.alloc (.cells #[.slice (some ⟨g, 0, none⟩) ts.length cap, .int .i64 0, .int .i64 0] 103)) Wd.heap.size g cap ts 0 0 :=
   ⟨xL _ _, by omega, Wj HTd.o (xA (by omega)), OK.o.pos⟩
  have HP0 := Za P0
  clear P0
  refine (Bz Wd.heap.size g cap ts OK.o 101 0 rfl (by omega) 0 _ HP0.o).1.mono ?_
  intro e w3 zhm
  have HPo := Za zhm
  have hst0 := zhm.1
  have HA3 := Za ((hst0.below.block w.heap.size (by omega)).trans ((xA (by omega)).trans HAd.o))
  have HD3 := Za ((hst0.below.block (w.heap.size + 1) (by omega)).trans ((xA (by omega)).trans HDd.o))
  have HB3 : xQ (Below w.heap.size w w3) := (HBd.o.alloc (by omega) _).trans (hst0.below.mono (by omega))
  have HS3 := Za hst0.size
  clear zhm hst0 a0 a1 a2 a3 a4 a5 a6 a7 z0 z1 z2 z3 z4 z5 z6 z7 d0 d1 d2 d3 g0 g1 g2 g3
  rcases Zy HPo.o with ⟨er, li, co, hr, rfl, hst⟩ | ⟨D, b, v, hr, rfl, hst, hps, x, rfl, hv⟩
  ·have HE2 : xQ (Ui S.data.toList = .inr (er, li, co)) := by rw [HE.o, hr]; exact rfl
   clear hr hst
   go_wp2_with fail
   refine leaves_cons (f := 54) (args := #[.pointer (some ⟨w.heap.size, 0, none⟩), .pointer (some ⟨w.heap.size + 1, 0, none⟩)]) (by simp) (by simp [go_sem]) ?_
   refine (Gw w.heap.size (w.heap.size + 1) li co er [] w3 Ze _ _ _ _ HA3.o HD3.o (by omega)).mono ?_
   rintro e u' w4 ⟨rfl, rfl, ⟨h1, h2⟩, h3⟩
   show ∃ v, _
   refine ⟨_, Up rfl _ rfl h1 underlying27 (by kernel_rfl) rfl h2 underlying30 (by kernel_rfl), ?_⟩
   rw [HE2.o]
   exact ⟨HB3.o.trans (h3.o _ (xR) (by omega)), rfl⟩
  ·have HV := Za hv
   have HPs := Za hps
   have HK := Za hr
   obtain ⟨⟨a0, a1, a2, a3, a4, a5, a6, a7⟩, ⟨z0, z1, z2, z3, z4, z5, z6, z7⟩, hla3⟩ := Zh (x := Ze) HA3.o
   obtain ⟨⟨d0, d1, d2, d3⟩, ⟨g0, g1, g2, g3⟩, hld3⟩ := Zr HD3.o
   rw [hWs] at HPs
   obtain ⟨We, hWe⟩ := xE (put8 w3 w.heap.size x)
   have HPe : xQ (Ps We w2.heap.size g cap ts b 0) := by rw [hWe]; exact O9 HPs.o (by omega) (by omega) x
   have HAe : xQ (We.heap[w.heap.size]? = some x.obj) := by rw [hWe]; exact Yj (y := Ze) HA3.o
   have HDe : xQ (We.heap[w.heap.size + 1]? = some (.cells #[.int .i64 0, .int .i64 0, .int .i64 0, .int .i64 0] 30)) := by rw [hWe]; exact (Xq (x := x) (by omega)).trans HD3.o
   have HBe : xQ (Below w.heap.size w We) := by rw [hWe]; exact Ni HB3.o (xR) x
   have HVe : xQ (Zv (Wd.heap.size + 1) We x D) := by rw [hWe]; have := HV.o; rw [xS] at this; exact this.put8 (by omega) x
   have HSe : xQ (We.heap.size = w3.heap.size) := by rw [hWe]; exact Wr (x := x)
   unfold put8 at hWe
   clear hr hst hps hv
   go_wp2_with fail
   rw [← hWe]
   clear hWe a0 a1 a2 a3 a4 a5 a6 a7 z0 z1 z2 z3 z4 z5 z6 z7 d0 d1 d2 d3 g0 g1 g2 g3
   refine (H4 w2.heap.size g cap b 0 ts _ HPe.o).mono ?_
   intro e w4 zhm
   have hst0 := zhm.1
   have hpe := HPe.o.ltp
   have HA4 := Za ((hst0.below.block w.heap.size (by omega)).trans HAe.o)
   have HD4 := Za ((hst0.below.block (w.heap.size + 1) (by omega)).trans HDe.o)
   have HB4 : xQ (Below w.heap.size w w4) := HBe.o.trans (hst0.below.mono (by omega))
   have HV4 : xQ (Zv (w2.heap.size + 1) w4 x D) := by
    have := HVe.o
    rw [hWs] at this
    exact this.stay hst0 (by omega)
   have HPo4 := Za zhm
   clear zhm hst0
   rcases Zy HPo4.o with ⟨er, li, co, hr, rfl, hst⟩ | ⟨u, b', v, hr, rfl, hst, hps, hv⟩
   ·have HE2 : xQ (Ui S.data.toList = .inr (er, li, co)) := by
     rw [HE.o, HK.o]
     show Uj (if (Zg ts b).kind == 0 then .inl (D, b) else Ys ts 7 b) = _
     by_cases h0 : ((Zg ts b).kind == 0) = true
     ·rw [if_pos h0] at hr; cases hr
     ·rw [if_neg h0] at hr ⊢
      injection hr with hr
      exact congrArg Sum.inr hr
    clear hr hst
    go_wp2_with fail
    refine leaves_cons (f := 54) (args := #[.pointer (some ⟨w.heap.size, 0, none⟩), .pointer (some ⟨w.heap.size + 1, 0, none⟩)]) (by simp) (by simp [go_sem]) ?_
    refine (Gw w.heap.size (w.heap.size + 1) li co er [] w4 x _ _ _ _ HA4.o HD4.o (by omega)).mono ?_
    rintro e u' w5 ⟨rfl, rfl, ⟨h1, h2⟩, h3⟩
    show ∃ v, _
    refine ⟨_, Up rfl _ rfl h1 underlying27 (by kernel_rfl) rfl h2 underlying30 (by kernel_rfl), ?_⟩
    rw [HE2.o]
    exact ⟨HB4.o.trans (h3.o _ (xR) (by omega)), rfl⟩
   ·have HE2 : xQ (Ui S.data.toList = .inl D) := by
     rw [HE.o, HK.o]
     show Uj (if (Zg ts b).kind == 0 then .inl (D, b) else Ys ts 7 b) = _
     by_cases h0 : ((Zg ts b).kind == 0) = true
     ·rw [if_pos h0]; exact rfl
     ·rw [if_neg h0] at hr; cases hr
    obtain ⟨⟨a0, a1, a2, a3, a4, a5, a6, a7⟩, ⟨z0, z1, z2, z3, z4, z5, z6, z7⟩, hla4⟩ := Zh (x := x) HA4.o
    obtain ⟨⟨d0, d1, d2, d3⟩, ⟨g0, g1, g2, g3⟩, hld4⟩ := Zr HD4.o
    clear hr hst hps hv
    go_wp2_with fail
    go_region
    all_goals
     go_wp2_with fail
     have hga := (Yn (b := w.heap.size + 1) (i := w.heap.size) (by omega) (.int .i64 0) (.int .i64 0) (.int .i64 0) (.int .i64 0)).trans (Yj (x := x) (y := x) HA4.o)
     have hgd := set4 ((Xq (x := x) (b := w.heap.size) (i := w.heap.size + 1) (by omega)).trans HD4.o) (.int .i64 0) (.int .i64 0) (.int .i64 0) (.int .i64 0)
     have hT := ((HV4.o.put8 (b := w.heap.size) (by omega) x).set4 (b := w.heap.size + 1) (by omega) (.int .i64 0) (.int .i64 0) (.int .i64 0) (.int .i64 0)).lower (lo' := w.heap.size) (by omega)
     have hBf := Xd (Ni HB4.o (xR) x) (show w.heap.size ≤ w.heap.size + 1 by omega) (.int .i64 0) (.int .i64 0) (.int .i64 0) (.int .i64 0)
     generalize hWf : (((((put8 w4 w.heap.size x).setCell ⟨w.heap.size + 1, 0, none⟩ (.int .i64 0)).setCell ⟨w.heap.size + 1, 1, none⟩ (.int .i64 0)).setCell ⟨w.heap.size + 1, 2, none⟩ (.int .i64 0)).setCell ⟨w.heap.size + 1, 3, none⟩ (.int .i64 0)) = Wf at hga hgd hT hBf
     refine leaves_cons (f := 54) (args := #[.pointer (some ⟨w.heap.size, 0, none⟩), .pointer (some ⟨w.heap.size + 1, 0, none⟩)]) (by simp) (by simp [go_sem]) ?_
     refine (zal ⟨w.heap.size, 0, none⟩ ⟨w.heap.size + 1, 0, none⟩ _).mono ?_
     rintro e u' w5 ⟨rfl, rfl, rfl⟩
     show ∃ v, _
     refine ⟨_, N2 rfl _ rfl hga underlying27 (by kernel_rfl) rfl hgd underlying30 (by kernel_rfl), ?_⟩
     rw [HE2.o]
     exact ⟨hBf.drew, _, rfl, x, rfl, hT.drew⟩
theorem Gh (S : ByteArray) (hS : S.size ≤ 140737488351232) (w : World) (hw : Lx.Words w) :
  Calls prog 9 #[.string S] w (Tx w Ze.val Zo (Ui S.data.toList)) := by
 have HW := Za (zhf S hS _ (hw.below (Zn (Zl w Ze.obj) (Zl _ (.cells #[.int .i64 0, .int .i64 0, .int .i64 0, .int .i64 0] 30)))))
 obtain ⟨R, hR⟩ := xE (Ui S.data.toList)
 rw [← hR] at HW ⊢
 clear hw hR
 go_enter func9, ntmps9
 go_wp2_with fail
 refine HW.o.mono ?_
 intro e w2 zhm
 obtain ⟨hb2, hm⟩ := zhm
 have HB2 := Za (Zn (Zn (Zl _ _) (Zl _ _)) hb2)
 have HA := Za ((hb2.block w.heap.size (by rw [xS, xS]; omega)).trans ((xA (by rw [xS]; omega)).trans (xL w _)))
 have HD := Za ((hb2.block (w.heap.size + 1) (by rw [xS, xS]; omega)).trans (Wn w _ _))
 clear hb2
 obtain ⟨⟨a0, a1, a2, a3, a4, a5, a6, a7⟩, ⟨z0, z1, z2, z3, z4, z5, z6, z7⟩, hla⟩ := Zh (x := Ze) HA.o
 obtain ⟨⟨d0, d1, d2, d3⟩, ⟨g0, g1, g2, g3⟩, hld⟩ := Zr HD.o
 rw [xS, xS] at hm
 rcases R with D | ⟨er, li, co⟩
 ·obtain ⟨v, rfl, x, rfl, hv⟩ := hm
  have HV := Za hv
  clear hv
  go_wp2_with fail
  have hga := (Yn (b := w.heap.size + 1) (i := w.heap.size) (by omega) (.int .i64 0) (.int .i64 0) (.int .i64 0) (.int .i64 0)).trans (Yj (x := x) (y := Ze) HA.o)
  have hgd := set4 ((Xq (x := x) (b := w.heap.size) (i := w.heap.size + 1) (by omega)).trans HD.o) (.int .i64 0) (.int .i64 0) (.int .i64 0) (.int .i64 0)
  refine bodyPost_ret (Up rfl _ rfl hga underlying27 (by kernel_rfl) rfl hgd underlying30 (by kernel_rfl)) rfl ⟨Xd (Ni HB2.o (xR) x) (by omega) _ _ _ _, _, rfl, x, rfl, ?_⟩
  exact ((HV.o.put8 (b := w.heap.size) (by omega) x).set4 (b := w.heap.size + 1) (by omega) _ _ _ _).lower (by omega)
 ·subst hm
  go_wp2_with fail
  have hga := (Yn (b := w.heap.size + 1) (i := w.heap.size) (by omega) (.int .i64 0) (.int .i64 li) (.int .i64 co) (.int .i64 er)).trans (Yj (x := Ze) (y := Ze) HA.o)
  have hgd := set4 ((Xq (x := Ze) (b := w.heap.size) (i := w.heap.size + 1) (by omega)).trans HD.o) (.int .i64 0) (.int .i64 li) (.int .i64 co) (.int .i64 er)
  refine bodyPost_ret (Up rfl _ rfl hga underlying27 (by kernel_rfl) rfl hgd underlying30 (by kernel_rfl)) rfl ⟨Xd (Ni HB2.o (xR) Ze) (by omega) _ _ _ _, rfl⟩
def StrsE (lo : Nat) (w : World) (v : Value) (xs : List (List UInt8)) : Prop := ∃ cs, Z8 Va lo 9 1 none w v cs xs
structure Em (m : String) : Prop where
 meth : ∀ n pb w, (method (n + 1) 57 (.pointer (some ⟨pb, 0, none⟩)) m).run prog w = .ok (142, .pointer (some ⟨pb, 0, none⟩)) w
theorem Si (pb tb cap d : Nat) (ts : List Tok) (sep : List UInt8) (m0 : String) (hm0 : Em m0)
  (f a : Nat) (hf : ts.length ≤ a + (f + 1)) (w : World) (h : Ps w pb tb cap ts a d) (ok : Z0 ts) :
  Calls prog 143 #[.pointer (some ⟨pb, 0, none⟩), .string ⟨sep.toArray⟩, .func (.methodOf 57 m0) #[] #[]] w (Zs pb tb cap ts d w StrsE (Z1 ts (Zm ts) sep (f + 1) a)) := by
 have H := Za h
 have OK := Za ok
 have hen := hm0.meth
 clear h ok hm0
 have HO := Za (Ts pb tb cap a d ts w H.o OK.o)
 have HF := Za hf
 clear hf
 cases ho : Zm ts a with
 | inr x =>
  obtain ⟨er, li, co⟩ := x
  rw [Ks ho]
  rw [ho] at HO
  clear ho
  go_enter func143, ntmps143
  go_wp2_with fail
  refine HO.o.mono ?_
  rintro e w1 ⟨hst, rfl⟩
  have HST := Za hst
  clear hst
  go_wp2_with fail
  exact ⟨rfl, HST.o, rfl⟩
 | inl x =>
  obtain ⟨D0, a1⟩ := x
  have HM := Za (Km (ts := ts) (sep := sep) (f := f) ho)
  have HU := Za (Pb ho)
  rw [ho] at HO
  clear ho
  obtain ⟨R, hR⟩ := xE (Z1 ts (Zm ts) sep (f + 1) a)
  rw [← hR] at HM ⊢
  clear hR
  obtain ⟨i0, hi, hz0, hz1, hz2⟩ := info_parts B5
  go_enter func143, ntmps143
  go_wp2_with fail
  refine HO.o.mono ?_
  rintro e w1 ⟨hst, hps, v, rfl, hv⟩
  subst hv
  have HR1 := Za (Mp (B := w.heap.size) (et := 9) (k := 1) (rep := Va) (x := D0) (c := [.string ⟨D0.toArray⟩]) (lo := w.heap.size) rfl (xR) hst.size rfl)
  have HST := Za (hst.alloc H.o.ltp (.cells #[.string ⟨D0.toArray⟩] 9))
  have HP := Za (hps.alloc (.cells #[.string ⟨D0.toArray⟩] 9))
  clear hst hps
  have HL0 : xQ (ts.length ≤ a1 + (f + 1)) := by have := HF.o; have := HU.o; show _ ≤ _; omega
  go_wp2_with fail
  go_loopg [7] (ts.length - a1) (fun gk s wr => ∃ (b m : Nat) (cs : List (List Value)) (acc : List (List UInt8)), xQ (Z8 Va w.heap.size 9 1 none wr s cs acc) ∧ xQ (Zj pb w wr) ∧ xQ (Ps wr pb tb cap ts b d) ∧ xQ (Tk ts (Zm ts) sep R acc m b) ∧ xQ (ts.length ≤ b + (m + 1)) ∧ xQ (acc.length ≤ b + 1) ∧ ts.length - b ≤ gk)
  case atStart => exact ⟨a1, f, _, _, HR1, HST, HP, HM, HL0, (show 1 ≤ a1 + 1 by omega), xR⟩
  case round =>
   clear HR1 HST HP HM HL0 HU HO
   obtain ⟨b, m, cs, acc, HRw, HSt, HPs, HMa, HLe, HAc, hgk⟩ := hrel
   have HT := Za (Xb pb tb cap b d ts sep wr HPs.o OK.o)
   cases hs : Zc ts b sep with
   | false =>
    have HE := Za (Kj HMa.o hs)
    rw [hs, if_neg (by simp)] at HT
    clear hs
    go_wp2_with fail
    refine HT.o.mono ?_
    rintro e w2 ⟨rfl, hst, hps⟩
    have HST := Za (HSt.o.trans hst)
    have HPS := Za hps
    have HRW := Za (HRw.o.stay hst H.o.ltp)
    clear hst hps
    go_wp2_with fail
    go_ret
    rw [HE.o]
    exact ⟨HST.o, HPS.o, _, rfl, _, HRW.o⟩
   | true =>
    have hbl : b + 1 < ts.length := Wz OK.o.ends HPs.o.lt hs
    obtain ⟨m, rfl⟩ : ∃ q, m = q + 1 := ⟨m - 1, by have := HLe.o; omega⟩
    have HSe := Za hs
    rw [hs, if_pos rfl] at HT
    clear hs
    go_wp2_with fail
    refine HT.o.mono ?_
    rintro e w2 ⟨rfl, hst, hps⟩
    have HST := Za (HSt.o.trans hst)
    have HPS := Za hps
    have HRW := Za (HRw.o.stay hst H.o.ltp)
    clear hst hps
    have HO := Za (Ts pb tb cap (b + 1) d ts w2 HPS.o OK.o)
    cases ho : Zm ts (b + 1) with
    | inr x =>
     obtain ⟨er, li, co⟩ := x
     have HE := Za (Ka HMa.o HSe.o ho)
     rw [ho] at HO
     clear ho
     go_wp2_with fail
     refine HO.o.mono ?_
     rintro e w3 ⟨hst, rfl⟩
     have HST3 := Za (HST.o.trans hst)
     clear hst
     go_wp2_with fail
     rw [HE.o]
     exact ⟨rfl, HST3.o, rfl⟩
    | inl x =>
     obtain ⟨D1, b1⟩ := x
     have HM2 := Za (Kv HMa.o HSe.o ho)
     have HU2 := Za (Pb ho)
     rw [ho] at HO
     clear ho
     obtain ⟨av, cv, rfl⟩ := Vb HRW.o.ow
     go_wp2_with fail
     refine HO.o.mono ?_
     rintro e w3 ⟨hst, hps, v, rfl, hv⟩
     subst hv
     have HST3 := Za (HST.o.trans hst)
     have HPS3 := Za hps
     have HS23 := Za hst
     have HRW3 := Za (HRW.o.stay hst H.o.ltp)
     clear hst hps
     have hac : acc.length ≤ 8193 := by have := HAc.o; have := OK.o.len; omega
     go_wp2_with (at_builtin; refine wpList_append_own_at _ rfl (.tmp 17) (.tmp 21) 24 rfl w.heap.size 9 i0 _ 1 16 underlying24 hi hz0 hz1 hz2 rfl (by decide) _ _ _ rfl (HRW3.o.ow.alloc _) ⟨_, 0, none⟩ 1 1 [.string ⟨D1.toArray⟩] rfl rfl (Uq _ _ _) (by simp [Value.oneCell']) (by unfold maxLen; omega) (by omega) (by have := HST3.o.size; simp; omega) ?_)
     intro v' w4 zho zhn _ hloc
     have HR4 : xQ (Z8 Va w.heap.size 9 1 none w4 v' (cs ++ [[.string ⟨D1.toArray⟩]]) (acc ++ [D1])) :=
      HRW3.o.put zho zhn (hloc.imp_right fun e => ⟨_, e, by simp⟩) ((Zj.refl pb w3).alloc HPS3.o.ltp _) H.o.ltp rfl ((Xg.new (rep := Va) (lo := w2.heap.size) (x := D1) rfl HST.o.size fun q hq => HRW.o.all q hq).stay ((Zj.refl pb w3).alloc HPS3.o.ltp _) H.o.ltp)
     have HST4 : xQ (Zj pb w w4) := (HST3.o.alloc H.o.ltp _).grown zhn H.o.ltp fun q hq => (HRW3.o.own q hq).1
     have HPS4 : xQ (Ps w4 pb tb cap ts b1 d) := (HPS3.o.alloc _).grown zhn fun q hq => xT H.o.ltp (HRW3.o.own q hq).1
     clear zho zhn hloc
     go_wp2_with fail
     go_roundg (ts.length - b1)
     case measure => have := HU2.o; have := HPS4.o.lt; omega
     case rel => exact ⟨b1, m, _, _, HR4, HST4, HPS4, HM2, (by have := HLe.o; have := HU2.o; show _ ≤ _; omega), (by have := HAc.o; have := HU2.o; show (acc ++ [D1]).length ≤ _; simp; omega), xR⟩
end Go.Proofs.YtbnjllkkhhkkaaaGreatDoor
namespace Go.Proofs.YtbnjllkkhhkkaaaGreatDoor
open Tryz
open Go.RowKit
attribute [local go_sem ↓] Go.wp_at_zero Go.wp_at_succ
theorem I9 (ts : List Tok) (K : Nat → Pr Ty) (a : Nat) : Qa ts K a = (Zm ts a).go fun s b => (Y2 ts K [60, 58] b).go fun x b => .inl ((s, x.1), b) := by
 unfold Qa Y2
 cases Zm ts a with
 | inr e => rfl
 | inl p =>
  show (if Zc ts p.2 [60, 58] then _ else _) = Pr.go (if Zc ts p.2 [60, 58] then _ else _) _
  by_cases h : Zc ts p.2 [60, 58] = true
  ·rw [if_pos h, if_pos h]
   cases K (p.2 + 1) <;> rfl
  ·rw [if_neg h, if_neg h]
   rfl
def Q2 (lo : Nat) (w : World) (c : List Value) (x : List UInt8 × Ty) : Prop := ∃ (k : Int) (nm : ByteArray) (na : Option Addr) (nl nc : Nat) (ka : Option Addr) (kl kc : Nat), c = [.string ⟨x.1.toArray⟩, .int .i64 k, .string nm, .slice na nl nc, .slice ka kl kc] ∧ Zt lo w (.agg #[.int .i64 k, .string nm, .slice na nl nc, .slice ka kl kc]) x.2
def VarE (lo : Nat) (w : World) (v : Value) (x : List UInt8 × Ty) : Prop := ∃ c : List Value, v = .agg c.toArray ∧ Q2 lo w c x
theorem Jr : Qj Q2 where
 keep := fun ⟨k, nm, na, nl, nc, ka, kl, kc, e, h⟩ hs hk => ⟨k, nm, na, nl, nc, ka, kl, kc, e, h.keep hs hk⟩
 lower := fun ⟨k, nm, na, nl, nc, ka, kl, kc, e, h⟩ hl => ⟨k, nm, na, nl, nc, ka, kl, kc, e, h.lower hl⟩
abbrev zVar : Obj := .cells #[.string ⟨#[]⟩, .int .i64 0, .string ⟨#[]⟩, .slice none 0 0, .slice none 0 0] 71
abbrev Ll (w : World) (b : Nat) (x0 x1 x2 x3 x4 : Value) : World := ((((w.setCell ⟨b, 0, none⟩ x0).setCell ⟨b, 1, none⟩ x1).setCell ⟨b, 2, none⟩ x2).setCell ⟨b, 3, none⟩ x3).setCell ⟨b, 4, none⟩ x4
section
variable {w w' : World} {b pb lo : Nat} {y0 y1 y2 y3 y4 : Value} {t : TypeId}
theorem zcj (h : w.heap[b]? = some (.cells #[y0, y1, y2, y3, y4] t)) (x0 x1 x2 x3 x4 : Value) : (Ll w b x0 x1 x2 x3 x4).heap[b]? = some (.cells #[x0, x1, x2, x3, x4] t) := by
 have h0 := Z9 (o := 0) (u := x0) h
 simp only [List.setIfInBounds_toArray, List.set_cons_zero] at h0
 have h1 := Z9 (o := 1) (u := x1) h0
 simp only [List.setIfInBounds_toArray, List.set_cons_zero, List.set_cons_succ] at h1
 have h2 := Z9 (o := 2) (u := x2) h1
 simp only [List.setIfInBounds_toArray, List.set_cons_zero, List.set_cons_succ] at h2
 have h3 := Z9 (o := 3) (u := x3) h2
 simp only [List.setIfInBounds_toArray, List.set_cons_zero, List.set_cons_succ] at h3
 have h4 := Z9 (o := 4) (u := x4) h3
 simp only [List.setIfInBounds_toArray, List.set_cons_zero, List.set_cons_succ] at h4
 exact h4
theorem zcw (h : Zj pb w w') (hp : pb < w.heap.size) (hb : w.heap.size ≤ b) (x0 x1 x2 x3 x4 : Value) : Zj pb w (Ll w' b x0 x1 x2 x3 x4) :=
 ((((h.own hp hb 0 _).own hp hb 1 _).own hp hb 2 _).own hp hb 3 _).own hp hb 4 _
theorem Es {tb cap a d : Nat} {ts : List Tok} (h : Ps w pb tb cap ts a d) (hb : pb < b) (x0 x1 x2 x3 x4 : Value) : Ps (Ll w b x0 x1 x2 x3 x4) pb tb cap ts a d :=
 ((((h.other hb 0 _).other hb 1 _).other hb 2 _).other hb 3 _).other hb 4 _
theorem zee {v : Value} {D : Ty} (h : Zt lo w v D) (hb : b < lo) (x0 x1 x2 x3 x4 : Value) : Zt lo (Ll w b x0 x1 x2 x3 x4) v D :=
 h.keep (by simp only [Zw]; exact xR) fun i hi _ => by
  unfold Ll
  have hne : i ≠ b := by omega
  rw [xH hne, xH hne, xH hne, xH hne, xH hne]
theorem box5 (h : w.heap[b]? = some (.cells #[y0, y1, y2, y3, y4] t)) : (w.cell? ⟨b, 0, none⟩ = some y0 ∧ w.cell? ⟨b, 1, none⟩ = some y1 ∧ w.cell? ⟨b, 2, none⟩ = some y2 ∧ w.cell? ⟨b, 3, none⟩ = some y3 ∧ w.cell? ⟨b, 4, none⟩ = some y4) ∧
  (w.frozen? ⟨b, 0, none⟩ = false ∧ w.frozen? ⟨b, 1, none⟩ = false ∧ w.frozen? ⟨b, 2, none⟩ = false ∧ w.frozen? ⟨b, 3, none⟩ = false ∧ w.frozen? ⟨b, 4, none⟩ = false) ∧ b < w.heap.size := by
 refine ⟨⟨?_, ?_, ?_, ?_, ?_⟩, ⟨?_, ?_, ?_, ?_, ?_⟩, xB h⟩
 all_goals first | (rw [cell_of_row _ _ _ _ _ _ h]; rfl) | simp [World.frozen?, h]
end
theorem zfw (pb tb cap d : Nat) (ts : List Tok) (K : Nat → Pr Ty) (hK : Yg pb tb cap d ts Zt 30 K) (ok : Z0 ts) (a : Nat) (w : World) (h : Ps w pb tb cap ts a d) :
  Calls prog 145 #[.pointer (some ⟨pb, 0, none⟩)] w (Zs pb tb cap ts d w VarE (Qa ts K a)) := by
 have H := Za h
 have OK := Za ok
 have hp := h.ltp
 have HK1 := Za hK
 have C0 := Za (Xa h zVar)
 obtain ⟨R, hR⟩ : ∃ R : Pr (List UInt8 × Ty), R = (Qa ts K a) := ⟨_, rfl⟩
 rw [← hR]
 rw [I9] at hR
 have HR1 := Za hR
 clear h ok hR hK
 go_enter func145, ntmps145
 go_wp2_with fail
 refine (Ts pb tb cap a d ts _ C0.o.ps OK.o).mono ?_
 intro e w2 zhm
 rcases Zy zhm with ⟨er, li, co, hr, rfl, hst⟩ | ⟨s, b2, v, hr, rfl, hst, hps, hv⟩
 ·have HE : xQ (R = .inr (er, li, co)) := by rw [HR1.o, hr]; exact rfl
  have HF := Za (C0.o.st.trans hst)
  clear hr hst zhm
  go_wp2_with fail
  exact ⟨rfl, HF.o, by rw [HE.o]⟩
 have HR2 : xQ (R = (Y2 ts K [60, 58] b2).go fun x b => .inl ((s, x.1), b)) := by rw [HR1.o, hr]; exact rfl
 subst hv
 have C2 := Za ((C0.o.step hst hps))
 clear hr hst hps zhm
 go_wp2_with fail
 refine (Nw pb tb cap d ts [60, 58] K HK1.o OK.o b2 _ C2.o.ps).mono ?_
 intro e w3 zhm
 rcases Zy zhm with ⟨er, li, co, hr, rfl, hst⟩ | ⟨x, b3, v, hr, rfl, hst, hps, hv⟩
 ·have HE : xQ (R = .inr (er, li, co)) := by rw [HR2.o, hr]; exact rfl
  have HF := Za (C2.o.st.trans hst)
  clear hr hst zhm
  go_wp2_with fail
  exact ⟨rfl, HF.o, by rw [HE.o]⟩
 have HR3 : xQ (R = .inl ((s, x.1), b3)) := by rw [HR2.o, hr]; exact rfl
 obtain ⟨u3, rfl, hv⟩ := hv
 obtain ⟨k1, nm1, na1, nl1, nc1, ka1, kl1, kc1, rfl⟩ := hv.cells
 have C3 := Za ((C2.o.step hst hps).addT hv C2.o.sz)
 clear hr hst hps zhm hv
 have C4 := Za (C3.o.alloc (Zq k1 nm1 na1 nl1 nc1 ka1 kl1 kc1))
 obtain ⟨⟨r0, r1, r2, r3, r4⟩, ⟨f0, f1, f2, f3, f4⟩, hr1⟩ := box5 C4.o.b1
 obtain ⟨⟨q0, q1, q2, q3⟩, _, hq1⟩ := Zr C4.o.b0
 have hne : ¬ w3.heap.size = w.heap.size := by have := C3.o.sz; omega
 go_wp2_with fail
 rw [HR3.o]
 refine bodyPost_ret (results_cell_row rfl _ _ w.heap.size 71 _ (0, 0) _ rfl (zcj C4.o.b1 _ _ _ _ _) underlying71 rfl (by kernel_rfl)) rfl ⟨zcw C4.o.st hp (xR) _ _ _ _ _, Es C4.o.ps hp _ _ _ _ _, _, rfl, [_, _, _, _, _], rfl, k1, nm1, na1, nl1, nc1, ka1, kl1, kc1, rfl, ?_⟩
 exact (zee C4.o.t0 (xU _) _ _ _ _ _).lower (Nat.le_succ _)
end Go.Proofs.YtbnjllkkhhkkaaaGreatDoor
namespace Go.Proofs.YtbnjllkkhhkkaaaGreatDoor
open Tryz
open Go.RowKit
def Fp (lo : Nat) (w : World) (v : Value) (xs : List (List UInt8 × Ty)) : Prop := ∃ cs, Z8 Q2 lo 71 5 none w v cs xs
theorem zfx : (prog.info? 71).map (fun i => (i.zero, i.size, i.bytes)) = some (some (.agg #[.string ⟨#[]⟩, .int .i64 0, .string ⟨#[]⟩, .slice none 0 0, .slice none 0 0]), 5, 88) := by kernel_rfl
theorem zbf (pb tb cap d : Nat) (ts : List Tok) (sep : List UInt8) (g : Nat) (one : Nat → Pr (List UInt8 × Ty)) (hg : Yg pb tb cap d ts VarE g one)
  (f a : Nat) (hf : ts.length ≤ a + (f + 1)) (w : World) (h : Ps w pb tb cap ts a d) (ok : Z0 ts) :
  Calls prog 144 #[.pointer (some ⟨pb, 0, none⟩), .string ⟨sep.toArray⟩, .func (.func g) #[] #[]] w (Zs pb tb cap ts d w Fp (Z1 ts one sep (f + 1) a)) := by
 have H := Za h
 have OK := Za ok
 have HG := Za hg
 have hen := hg.enters
 clear h ok hg
 have HO := Za (HG.o.calls a w H.o)
 have HF := Za hf
 clear hf
 cases ho : one a with
 | inr x =>
  obtain ⟨er, li, co⟩ := x
  rw [Ks ho]
  rw [ho] at HO
  clear ho
  go_enter func144, ntmps144
  go_wp2_with fail
  refine HO.o.mono ?_
  rintro e w1 ⟨hst, rfl⟩
  have HST := Za hst
  clear hst
  go_wp2_with fail
  exact ⟨rfl, HST.o, rfl⟩
 | inl x =>
  obtain ⟨D0, a1⟩ := x
  have HM := Za (Km (ts := ts) (sep := sep) (f := f) ho)
  have HU := Za (HG.o.up _ _ _ ho)
  rw [ho] at HO
  clear ho
  obtain ⟨R, hR⟩ := xE (Z1 ts one sep (f + 1) a)
  rw [← hR] at HM ⊢
  clear hR
  obtain ⟨i0, hi, hz0, hz1, hz2⟩ := info_parts zfx
  go_enter func144, ntmps144
  go_wp2_with fail
  refine HO.o.mono ?_
  rintro e w1 ⟨hst, hps, v, rfl, hv⟩
  obtain ⟨_, rfl, k1, nm1, na1, nl1, nc1, ka1, kl1, kc1, rfl, hT⟩ := hv
  have hv : Q2 _ _ _ _ := ⟨k1, nm1, na1, nl1, nc1, ka1, kl1, kc1, rfl, hT⟩
  have HR1 := Za (Mp (B := w.heap.size) (et := 71) (k := 5) (rep := Q2) (c := [.string ⟨D0.1.toArray⟩, .int .i64 k1, .string nm1, .slice na1 nl1 nc1, .slice ka1 kl1 kc1]) hv (xR) hst.size rfl)
  have HST := Za (hst.alloc H.o.ltp (.cells #[.string ⟨D0.1.toArray⟩, .int .i64 k1, .string nm1, .slice na1 nl1 nc1, .slice ka1 kl1 kc1] 71))
  have HP := Za (hps.alloc (.cells #[.string ⟨D0.1.toArray⟩, .int .i64 k1, .string nm1, .slice na1 nl1 nc1, .slice ka1 kl1 kc1] 71))
  clear hst hps hv hT
  have HL0 : xQ (ts.length ≤ a1 + (f + 1)) := by have := HF.o; have := HU.o; show _ ≤ _; omega
  go_wp2_with fail
  go_loopg [7] (ts.length - a1) (fun gk s wr => ∃ (b m : Nat) (cs : List (List Value)) (acc : List (List UInt8 × Ty)), xQ (Z8 Q2 w.heap.size 71 5 none wr s cs acc) ∧ xQ (Zj pb w wr) ∧ xQ (Ps wr pb tb cap ts b d) ∧ xQ (Tk ts one sep R acc m b) ∧ xQ (ts.length ≤ b + (m + 1)) ∧ xQ (acc.length ≤ b + 1) ∧ ts.length - b ≤ gk)
  case atStart => exact ⟨a1, f, _, _, HR1, HST, HP, HM, HL0, (show 1 ≤ a1 + 1 by omega), xR⟩
  case round =>
   clear HR1 HST HP HM HL0 HU HO
   obtain ⟨b, m, cs, acc, HRw, HSt, HPs, HMa, HLe, HAc, hgk⟩ := hrel
   have HT := Za (Xb pb tb cap b d ts sep wr HPs.o OK.o)
   cases hs : Zc ts b sep with
   | false =>
    have HE := Za (Kj HMa.o hs)
    rw [hs, if_neg (by simp)] at HT
    clear hs
    go_wp2_with fail
    refine HT.o.mono ?_
    rintro e w2 ⟨rfl, hst, hps⟩
    have HST := Za (HSt.o.trans hst)
    have HPS := Za hps
    have HRW := Za (HRw.o.stay hst H.o.ltp)
    clear hst hps
    go_wp2_with fail
    go_ret
    rw [HE.o]
    exact ⟨HST.o, HPS.o, _, rfl, _, HRW.o⟩
   | true =>
    have hbl : b + 1 < ts.length := Wz OK.o.ends HPs.o.lt hs
    obtain ⟨m, rfl⟩ : ∃ q, m = q + 1 := ⟨m - 1, by have := HLe.o; omega⟩
    have HSe := Za hs
    rw [hs, if_pos rfl] at HT
    clear hs
    go_wp2_with fail
    refine HT.o.mono ?_
    rintro e w2 ⟨rfl, hst, hps⟩
    have HST := Za (HSt.o.trans hst)
    have HPS := Za hps
    have HRW := Za (HRw.o.stay hst H.o.ltp)
    clear hst hps
    have HO := Za (HG.o.calls (b + 1) w2 HPS.o)
    cases ho : one (b + 1) with
    | inr x =>
     obtain ⟨er, li, co⟩ := x
     have HE := Za (Ka HMa.o HSe.o ho)
     rw [ho] at HO
     clear ho
     go_wp2_with fail
     refine HO.o.mono ?_
     rintro e w3 ⟨hst, rfl⟩
     have HST3 := Za (HST.o.trans hst)
     clear hst
     go_wp2_with fail
     rw [HE.o]
     exact ⟨rfl, HST3.o, rfl⟩
    | inl x =>
     obtain ⟨D1, b1⟩ := x
     have HM2 := Za (Kv HMa.o HSe.o ho)
     have HU2 := Za (HG.o.up _ _ _ ho)
     rw [ho] at HO
     clear ho
     obtain ⟨av, cv, rfl⟩ := Vb HRW.o.ow
     go_wp2_with fail
     refine HO.o.mono ?_
     rintro e w3 ⟨hst, hps, v, rfl, hv⟩
     obtain ⟨_, rfl, k1, nm1, na1, nl1, nc1, ka1, kl1, kc1, rfl, hT⟩ := hv
     have hv : Q2 _ _ _ _ := ⟨k1, nm1, na1, nl1, nc1, ka1, kl1, kc1, rfl, hT⟩
     have HST3 := Za (HST.o.trans hst)
     have HPS3 := Za hps
     have HS23 := Za hst
     have HV := Za hv
     have HRW3 := Za (HRW.o.stay hst H.o.ltp)
     clear hst hps hv hT
     have hac : acc.length ≤ 8193 := by have := HAc.o; have := OK.o.len; omega
     go_wp2_with (at_builtin; refine wpList_append_own_at _ rfl (.tmp 17) (.tmp 21) 50 rfl w.heap.size 71 i0 _ 5 88 underlying50 hi hz0 hz1 hz2 rfl (by decide) _ _ _ rfl (HRW3.o.ow.alloc _) ⟨_, 0, none⟩ 1 1 [.string ⟨D1.1.toArray⟩, .int .i64 k1, .string nm1, .slice na1 nl1 nc1, .slice ka1 kl1 kc1] rfl rfl (Uq _ _ _) (by simp [Value.oneCell']) (by unfold maxLen; omega) (by omega) (by have := HST3.o.size; simp; omega) ?_)
     intro v' w4 zho zhn _ hloc
     have HR4 : xQ (Z8 Q2 w.heap.size 71 5 none w4 v' (cs ++ [[.string ⟨D1.1.toArray⟩, .int .i64 k1, .string nm1, .slice na1 nl1 nc1, .slice ka1 kl1 kc1]]) (acc ++ [D1])) :=
      HRW3.o.put zho zhn (hloc.imp_right fun e => ⟨_, e, by simp⟩) ((Zj.refl pb w3).alloc HPS3.o.ltp _) H.o.ltp rfl ((Xg.new (rep := Q2) HV.o HST.o.size fun q hq => HRW.o.all q hq).stay ((Zj.refl pb w3).alloc HPS3.o.ltp _) H.o.ltp)
     have HST4 : xQ (Zj pb w w4) := (HST3.o.alloc H.o.ltp _).grown zhn H.o.ltp fun q hq => (HRW3.o.own q hq).1
     have HPS4 : xQ (Ps w4 pb tb cap ts b1 d) := (HPS3.o.alloc _).grown zhn fun q hq => xT H.o.ltp (HRW3.o.own q hq).1
     clear zho zhn hloc
     go_wp2_with fail
     go_roundg (ts.length - b1)
     case measure => have := HU2.o; have := HPS4.o.lt; omega
     case rel => exact ⟨b1, m, _, _, HR4, HST4, HPS4, HM2, (by have := HLe.o; have := HU2.o; show _ ≤ _; omega), (by have := HAc.o; have := HU2.o; show (acc ++ [D1]).length ≤ _; simp; omega), xR⟩
end Go.Proofs.YtbnjllkkhhkkaaaGreatDoor
namespace Go.Proofs.YtbnjllkkhhkkaaaGreatDoor
open Tryz
open Go.RowKit
attribute [local go_sem ↓] Go.wp_at_zero Go.wp_at_succ
abbrev Lj (s : List UInt8) (na : Option Addr) (nl nc li co : Nat) : Obj := .cells #[.string ⟨s.toArray⟩, .slice na nl nc, .int .i64 li, .int .i64 co] 68
abbrev T7 : Obj := .cells #[.string ⟨#[]⟩, .slice none 0 0, .int .i64 0, .int .i64 0] 68
def Pg (ts : List Tok) (a : Nat) : Pr Ty := (Zb ts a [105, 109, 112, 111, 114, 116]).go fun _ b => (Zm ts b).go fun s b => (Zb ts b [58]).go fun _ b => (Z1 ts (Zm ts) [44] ts.length b).go fun l b => (Zb ts b [59]).go fun _ b => .inl (Ql s l (Zx ts a) (Zz ts a), b)
def U8 (lo : Nat) (w : World) (c : List Value) (D : Ty) : Prop := ∃ (s : List UInt8) (l : List (List UInt8)) (na : Option Addr) (nc li co : Nat), c = [.string ⟨s.toArray⟩, .slice na l.length nc, .int .i64 li, .int .i64 co] ∧ D = Ql s l li co ∧ l.length ≤ 8193 ∧ Uc w lo na l
def ImpE (lo : Nat) (w : World) (v : Value) (D : Ty) : Prop := ∃ c : List Value, v = .agg c.toArray ∧ U8 lo w c D
theorem R0 (pb tb cap d : Nat) (ts : List Tok) (ok : Z0 ts) (a : Nat) (w : World) (h : Ps w pb tb cap ts a d) :
  Calls prog 84 #[.pointer (some ⟨pb, 0, none⟩)] w (Zs pb tb cap ts d w ImpE (Pg ts a)) := by
 have H := Za h
 have OK := Za ok
 have hp := h.ltp
 have C0 := Za (Xa h T7)
 obtain ⟨R, hR⟩ : ∃ R : Pr Ty, R = (Pg ts a) := ⟨_, rfl⟩
 rw [← hR]
 unfold Pg at hR
 have HR0 := Za hR
 clear h ok hR
 go_enter func84, ntmps84
 go_wp2_with fail
 refine (Y6 pb tb cap a d ts [105, 109, 112, 111, 114, 116] _ C0.o.ps OK.o).mono ?_
 intro e w1 zhm
 rcases Zy zhm with ⟨er, li, co, hr, rfl, hst⟩ | ⟨u, b1, v, hr, rfl, hst, hps, hv⟩
 ·have HE : xQ (R = .inr (er, li, co)) := by rw [HR0.o, hr]; exact rfl
  have HF := Za (C0.o.st.trans hst)
  clear hr hst zhm
  go_wp2_with fail
  exact ⟨rfl, HF.o, by rw [HE.o]⟩
 obtain ⟨t, ht⟩ := xE (Zg ts a)
 have HR1 : xQ (R = (Zm ts b1).go fun s b => (Zb ts b [58]).go fun _ b => (Z1 ts (Zm ts) [44] ts.length b).go fun l b => (Zb ts b [59]).go fun _ b => .inl (Ql s l t.line t.col, b)) := by rw [HR0.o, hr, ht]; exact rfl
 rw [← ht] at hv
 subst hv
 have C1 := Za ((C0.o.step hst hps))
 have C2 := Za (C1.o.alloc (Zk t))
 clear hr hst hps zhm ht
 go_wp2_with fail
 have hS0 : (((w1.alloc (Zk t)).drew).cell? ⟨w1.heap.size, 0, none⟩ = some (.int .i64 t.kind) ∧ ((w1.alloc (Zk t)).drew).cell? ⟨w1.heap.size, 1, none⟩ = some (.string ⟨t.text.toArray⟩) ∧ ((w1.alloc (Zk t)).drew).cell? ⟨w1.heap.size, 2, none⟩ = some (.int .i64 t.line) ∧ ((w1.alloc (Zk t)).drew).cell? ⟨w1.heap.size, 3, none⟩ = some (.int .i64 t.col)) := (Z7 (C2.o.drew.b0))
 have HS00 : xQ (∀ o, ((((w1.alloc (Zk t)).alloc o).drew).cell? ⟨w1.heap.size, 0, none⟩ = some (.int .i64 t.kind) ∧ (((w1.alloc (Zk t)).alloc o).drew).cell? ⟨w1.heap.size, 1, none⟩ = some (.string ⟨t.text.toArray⟩) ∧ (((w1.alloc (Zk t)).alloc o).drew).cell? ⟨w1.heap.size, 2, none⟩ = some (.int .i64 t.line) ∧ (((w1.alloc (Zk t)).alloc o).drew).cell? ⟨w1.heap.size, 3, none⟩ = some (.int .i64 t.col))) := (fun o => Z7 ((C2.o.alloc o).drew.has (w1.heap.size, Zk t) (by simp)).1)
 have HC : xQ (∀ wa bx, Z5 pb tb cap d ts w wa b1 bx [] [] → (w1.heap.size, Zk t) ∈ bx → Calls prog 142 #[.pointer (some ⟨pb, 0, none⟩)] wa fun e w9 => (∃ chain, e = .panicked chain ∧ Zs pb tb cap ts d w ImpE R e w9) ∨ ∃ (s : List UInt8) (b2 : Nat), e = .returned (.string ⟨s.toArray⟩) ∧ (w9.cell? ⟨w1.heap.size, 0, none⟩ = some (.int .i64 t.kind) ∧ w9.cell? ⟨w1.heap.size, 1, none⟩ = some (.string ⟨t.text.toArray⟩) ∧ w9.cell? ⟨w1.heap.size, 2, none⟩ = some (.int .i64 t.line) ∧ w9.cell? ⟨w1.heap.size, 3, none⟩ = some (.int .i64 t.col)) ∧ xQ (R = ((Zb ts b2 [58]).go fun _ b => (Z1 ts (Zm ts) [44] ts.length b).go fun l b => (Zb ts b [59]).go fun _ b => .inl (Ql s l t.line t.col, b)) ∧ Z5 pb tb cap d ts w w9 b2 bx [] [])) := by
  intro wa bx CA m0
  refine (Ts pb tb cap b1 d ts _ CA.ps OK.o).mono ?_
  intro e w9 zhm
  rcases Zy zhm with ⟨er, li, co, hr, rfl, hst⟩ | ⟨s, b2, v, hr, rfl, hst, hps, hv⟩
  ·exact .inl ⟨_, rfl, CA.st.trans hst, by rw [HR1.o, hr]; rfl⟩
  subst hv
  have CN := (CA.step hst hps)
  exact .inr ⟨s, b2, rfl, Z7 ((CN).has (w1.heap.size, Zk t) m0).1, by rw [HR1.o, hr]; rfl, CN⟩
 go_region_held (fun W => (W.cell? ⟨w1.heap.size, 0, none⟩ = some (.int .i64 t.kind) ∧ W.cell? ⟨w1.heap.size, 1, none⟩ = some (.string ⟨t.text.toArray⟩) ∧ W.cell? ⟨w1.heap.size, 2, none⟩ = some (.int .i64 t.line) ∧ W.cell? ⟨w1.heap.size, 3, none⟩ = some (.int .i64 t.col))) (first | with_reducible assumption | with_reducible exact HS00.o _ | with_reducible exact HS3.o _ | with_reducible exact HS4.o _ _ _ _ | with_reducible exact HS5.o _ _ _ _) (first
  | (go_at_call 142; refine (HC.o _ _ C2.o.drew (by simp)).mono ?_; rintro e w9 (⟨ch, rfl, hf⟩ | ⟨s, b2, rfl, t5, HX⟩); exact ⟨rfl, hf⟩; have HS3 : xQ (∀ o, (((w9.alloc o)).cell? ⟨w1.heap.size, 0, none⟩ = some (.int .i64 t.kind) ∧ ((w9.alloc o)).cell? ⟨w1.heap.size, 1, none⟩ = some (.string ⟨t.text.toArray⟩) ∧ ((w9.alloc o)).cell? ⟨w1.heap.size, 2, none⟩ = some (.int .i64 t.line) ∧ ((w9.alloc o)).cell? ⟨w1.heap.size, 3, none⟩ = some (.int .i64 t.col))) := (fun o => Z7 ((HX.o.2.alloc o).has (w1.heap.size, Zk t) (by simp)).1); have HBX := Za (Zr (HX.o.2.alloc T7).b0); obtain ⟨⟨i0, i1, i2, i3⟩, ⟨j0, j1, j2, j3⟩, hil⟩ := HBX.o; have HNE : xQ (w1.heap.size ≠ w9.heap.size) := (by have := xB HX.o.2.b0; show _ ≠ _; omega); have HS5 : xQ (∀ v0 v1 v2 v3, (((((((w9.alloc T7).setCell ⟨w9.heap.size, 0, none⟩ v0).setCell ⟨w9.heap.size, 1, none⟩ v1).setCell ⟨w9.heap.size, 2, none⟩ v2).setCell ⟨w9.heap.size, 3, none⟩ v3)).cell? ⟨w1.heap.size, 0, none⟩ = some (.int .i64 t.kind) ∧ ((((((w9.alloc T7).setCell ⟨w9.heap.size, 0, none⟩ v0).setCell ⟨w9.heap.size, 1, none⟩ v1).setCell ⟨w9.heap.size, 2, none⟩ v2).setCell ⟨w9.heap.size, 3, none⟩ v3)).cell? ⟨w1.heap.size, 1, none⟩ = some (.string ⟨t.text.toArray⟩) ∧ ((((((w9.alloc T7).setCell ⟨w9.heap.size, 0, none⟩ v0).setCell ⟨w9.heap.size, 1, none⟩ v1).setCell ⟨w9.heap.size, 2, none⟩ v2).setCell ⟨w9.heap.size, 3, none⟩ v3)).cell? ⟨w1.heap.size, 2, none⟩ = some (.int .i64 t.line) ∧ ((((((w9.alloc T7).setCell ⟨w9.heap.size, 0, none⟩ v0).setCell ⟨w9.heap.size, 1, none⟩ v1).setCell ⟨w9.heap.size, 2, none⟩ v2).setCell ⟨w9.heap.size, 3, none⟩ v3)).cell? ⟨w1.heap.size, 3, none⟩ = some (.int .i64 t.col))) := (fun v0 v1 v2 v3 => Z7 ((Yn HNE.o v0 v1 v2 v3).trans ((HX.o.2.alloc T7).has (w1.heap.size, Zk t) (by simp)).1)))
  | (go_at_call 142; refine (HC.o _ _ (C2.o.alloc T7).drew (by simp)).mono ?_; rintro e w9 (⟨ch, rfl, hf⟩ | ⟨s, b2, rfl, t5, HX⟩); exact ⟨rfl, hf⟩; have HBX := Za (Zr (show w9.heap[w1.heap.size + 1]? = some T7 from (by have h := HX.o.2.b0; simp only [xS] at h; exact h))); obtain ⟨⟨i0, i1, i2, i3⟩, ⟨j0, j1, j2, j3⟩, hil⟩ := HBX.o; have HS4 : xQ (∀ v0 v1 v2 v3, ((((((w9.setCell ⟨w1.heap.size + 1, 0, none⟩ v0).setCell ⟨w1.heap.size + 1, 1, none⟩ v1).setCell ⟨w1.heap.size + 1, 2, none⟩ v2).setCell ⟨w1.heap.size + 1, 3, none⟩ v3)).cell? ⟨w1.heap.size, 0, none⟩ = some (.int .i64 t.kind) ∧ (((((w9.setCell ⟨w1.heap.size + 1, 0, none⟩ v0).setCell ⟨w1.heap.size + 1, 1, none⟩ v1).setCell ⟨w1.heap.size + 1, 2, none⟩ v2).setCell ⟨w1.heap.size + 1, 3, none⟩ v3)).cell? ⟨w1.heap.size, 1, none⟩ = some (.string ⟨t.text.toArray⟩) ∧ (((((w9.setCell ⟨w1.heap.size + 1, 0, none⟩ v0).setCell ⟨w1.heap.size + 1, 1, none⟩ v1).setCell ⟨w1.heap.size + 1, 2, none⟩ v2).setCell ⟨w1.heap.size + 1, 3, none⟩ v3)).cell? ⟨w1.heap.size, 2, none⟩ = some (.int .i64 t.line) ∧ (((((w9.setCell ⟨w1.heap.size + 1, 0, none⟩ v0).setCell ⟨w1.heap.size + 1, 1, none⟩ v1).setCell ⟨w1.heap.size + 1, 2, none⟩ v2).setCell ⟨w1.heap.size + 1, 3, none⟩ v3)).cell? ⟨w1.heap.size, 3, none⟩ = some (.int .i64 t.col))) := (fun v0 v1 v2 v3 => Z7 ((Yn (by omega) v0 v1 v2 v3).trans (HX.o.2.has (w1.heap.size, Zk t) (by simp)).1))))
 ·have C3 := Za (HX.o.2.alloc (Lj s none 0 0 t.line t.col))
  have HIb : xQ (w.heap.size + 1 ≤ w9.heap.size) := HX.o.2.sz
  have HR2 := Za HX.o.1
  clear HX HS3 HS5 HBX i0 i1 i2 i3 j0 j1 j2 j3 hil HNE t5 HC HS00 hS0 C0 C1 C2 HR0 HR1
  generalize w9.alloc (Lj s none 0 0 t.line t.col) = W3 at C3 ⊢
  generalize w9.heap.size = ib at C3 HIb ⊢
  go_wp2_with fail
  refine (Y6 pb tb cap b2 d ts [58] _ C3.o.ps OK.o).mono ?_
  intro e w4 zhm
  rcases Zy zhm with ⟨er, li, co, hr, rfl, hst⟩ | ⟨u4, b4, v4, hr, rfl, hst, hps, hv⟩
  ·have HE : xQ (R = .inr (er, li, co)) := by rw [HR2.o, hr]; exact rfl
   have HF := Za (C3.o.st.trans hst)
   clear hr hst zhm
   go_wp2_with fail
   exact ⟨rfl, HF.o, by rw [HE.o]⟩
  obtain ⟨f, hf⟩ : ∃ f, ts.length = f + 1 := ⟨ts.length - 1, by have := OK.o.pos; omega⟩
  have HR3 : xQ (R = (Z1 ts (Zm ts) [44] (f + 1) b4).go fun l b => (Zb ts b [59]).go fun _ b => .inl (Ql s l t.line t.col, b)) := by rw [HR2.o, hr, hf]; exact rfl
  have C4 := Za (C3.o.step hst hps)
  clear hr hst hps zhm hv
  go_wp2_with fail
  refine (Si pb tb cap d ts [44] _ ⟨fun _ _ _ => by kernel_rfl⟩ f b4 (by omega) _ C4.o.ps OK.o).mono ?_
  intro e w5 zhm
  rcases Zy zhm with ⟨er, li, co, hr, rfl, hst⟩ | ⟨l, b5, v, hr, rfl, hst, hps, hv⟩
  ·have HE : xQ (R = .inr (er, li, co)) := by rw [HR3.o, hr]; exact rfl
   have HF := Za (C4.o.st.trans hst)
   clear hr hst zhm
   go_wp2_with fail
   exact ⟨rfl, HF.o, by rw [HE.o]⟩
  have HR4 : xQ (R = (Zb ts b5 [59]).go fun _ b => .inl (Ql s l t.line t.col, b)) := by rw [HR3.o, hr]; exact rfl
  have HLen : xQ (l.length ≤ 8193) := by have := Nb _ hr; have := OK.o.len; show _ ≤ _; omega
  obtain ⟨cs, hv⟩ := hv
  obtain ⟨na, nc, rfl, hnc, hnm⟩ := Le hv
  have HN5 := Za hnm
  have HL4 : xQ (ib < w4.heap.size) := xB C4.o.b0
  have C5 := Za (C4.o.step hst hps)
  clear hr hst hps zhm hv hnm
  obtain ⟨⟨i0, i1, i2, i3⟩, ⟨j0, j1, j2, j3⟩, hil⟩ := Zr C5.o.b0
  go_wp2_with fail
  have C6 : xQ (Z5 pb tb cap d ts w (w5.setCell ⟨ib, 1, none⟩ (.slice na l.length nc)) b5 [(ib, Lj s na l.length nc t.line t.col), (w.heap.size, T7)] [] []) := by
   have := HIb.o
   refine ⟨C5.o.st.own hp (by omega) 1 _, C5.o.ps.other (by omega) 1 _, hp, by rw [Zw]; exact C5.o.sz, fun p hm => ?_, (fun _ h => nomatch h), (fun _ h => nomatch h)⟩
   rcases List.mem_cons.1 hm with rfl | hm
   ·have h1 := Z9 (o := 1) (u := .slice na l.length nc) C5.o.b0
    simp only [List.setIfInBounds_toArray, List.set_cons_zero, List.set_cons_succ] at h1
    exact ⟨h1, by show pb < ib; omega⟩
   ·rw [List.mem_singleton.1 hm]
    exact ⟨(xH (by show w.heap.size ≠ ib; omega)).trans C5.o.b2, hp⟩
  have HN6 : xQ (Uc (w5.setCell ⟨ib, 1, none⟩ (.slice na l.length nc)) w4.heap.size na l) := Pj HN5.o (by rw [Zw]; exact xR) fun i hi _ => xH (by show i ≠ ib; have := HL4.o; omega)
  clear C5 HN5 i0 i1 i2 i3 j0 j1 j2 j3 hil
  generalize w5.setCell ⟨ib, 1, none⟩ (.slice na l.length nc) = W6 at C6 HN6 ⊢
  refine (Y6 pb tb cap b5 d ts [59] _ C6.o.ps OK.o).mono ?_
  intro e w7 zhm
  rcases Zy zhm with ⟨er, li, co, hr, rfl, hst⟩ | ⟨u7, b7, v7, hr, rfl, hst, hps, hv⟩
  ·have HE : xQ (R = .inr (er, li, co)) := by rw [HR4.o, hr]; exact rfl
   have HF := Za (C6.o.st.trans hst)
   clear hr hst zhm
   go_wp2_with fail
   exact ⟨rfl, HF.o, by rw [HE.o]⟩
  have HR5 : xQ (R = .inl (Ql s l t.line t.col, b7)) := by rw [HR4.o, hr]; exact rfl
  have C7 := Za (C6.o.step hst hps)
  have HN7 : xQ (Uc w7 w4.heap.size na l) := Pj HN6.o hst.size fun i hi hl => hst.keep i (by have := HL4.o; have := HIb.o; omega) hl
  clear hr hst hps zhm hv
  obtain ⟨⟨i0, i1, i2, i3⟩, _, hil⟩ := Zr C7.o.b0
  obtain ⟨⟨r0, r1, r2, r3⟩, ⟨f0, f1, f2, f3⟩, hr1⟩ := Zr C7.o.b1
  have hne : ¬ ib = w.heap.size := by have := HIb.o; omega
  go_wp2_with fail
  rw [HR5.o]
  refine bodyPost_ret (results_cell_row rfl _ _ w.heap.size 68 _ (0, 0) _ rfl (set4 C7.o.b1 _ _ _ _) underlying68 rfl (by kernel_rfl)) rfl ⟨Xs C7.o.st hp (xR) _ _ _ _, V6 C7.o.ps hp _ _ _ _, _, rfl, [_, _, _, _], rfl, s, l, na, nc, t.line, t.col, rfl, rfl, HLen.o, ?_⟩
  refine L7 (lo := w4.heap.size) (Pj HN7.o (by rw [Vj]; exact xR) fun i hi _ => Yn (by have := HL4.o; have := HIb.o; omega) _ _ _ _) (by have := HL4.o; have := HIb.o; omega)
 ·have C3 : xQ (Z5 pb tb cap d ts w ((((w9.setCell ⟨w1.heap.size + 1, 0, none⟩ (.string ⟨s.toArray⟩)).setCell ⟨w1.heap.size + 1, 1, none⟩ (.slice none 0 0)).setCell ⟨w1.heap.size + 1, 2, none⟩ (.int .i64 t.line)).setCell ⟨w1.heap.size + 1, 3, none⟩ (.int .i64 t.col)) b2 [(w1.heap.size + 1, Lj s none 0 0 t.line t.col), (w1.heap.size, Zk t), (w.heap.size, T7)] [] []) := by
   have hx := HX.o.2
   simp only [xS] at hx
   have := C1.o.sz
   refine ⟨Xs hx.st hp (by omega) _ _ _ _, V6 hx.ps (by omega) _ _ _ _, hp, by rw [Vj]; exact hx.sz, fun p hm => ?_, (fun _ h => nomatch h), (fun _ h => nomatch h)⟩
   rcases List.mem_cons.1 hm with rfl | hm
   ·exact ⟨set4 hx.b0 _ _ _ _, by show pb < _ + 1; omega⟩
   ·rcases List.mem_cons.1 hm with rfl | hm
    ·exact ⟨(Yn (by show _ ≠ _ + 1; omega) _ _ _ _).trans hx.b1, by show pb < _; omega⟩
    ·rw [List.mem_singleton.1 hm]
     exact ⟨(Yn (by show _ ≠ _ + 1; omega) _ _ _ _).trans hx.b2, hp⟩
  have HIb : xQ (w.heap.size + 1 ≤ w1.heap.size + 1) := by have := C1.o.sz; show _ ≤ _; omega
  have HR2 := Za HX.o.1
  clear HX HS4 HBX i0 i1 i2 i3 j0 j1 j2 j3 hil t5 HC HS00 hS0 C0 C1 C2 HR0 HR1
  generalize ((((w9.setCell ⟨w1.heap.size + 1, 0, none⟩ (.string ⟨s.toArray⟩)).setCell ⟨w1.heap.size + 1, 1, none⟩ (.slice none 0 0)).setCell ⟨w1.heap.size + 1, 2, none⟩ (.int .i64 t.line)).setCell ⟨w1.heap.size + 1, 3, none⟩ (.int .i64 t.col)) = W3 at C3 ⊢
  generalize w1.heap.size + 1 = ib at C3 HIb ⊢
  go_wp2_with fail
  refine (Y6 pb tb cap b2 d ts [58] _ C3.o.ps OK.o).mono ?_
  intro e w4 zhm
  rcases Zy zhm with ⟨er, li, co, hr, rfl, hst⟩ | ⟨u4, b4, v4, hr, rfl, hst, hps, hv⟩
  ·have HE : xQ (R = .inr (er, li, co)) := by rw [HR2.o, hr]; exact rfl
   have HF := Za (C3.o.st.trans hst)
   clear hr hst zhm
   go_wp2_with fail
   exact ⟨rfl, HF.o, by rw [HE.o]⟩
  obtain ⟨f, hf⟩ : ∃ f, ts.length = f + 1 := ⟨ts.length - 1, by have := OK.o.pos; omega⟩
  have HR3 : xQ (R = (Z1 ts (Zm ts) [44] (f + 1) b4).go fun l b => (Zb ts b [59]).go fun _ b => .inl (Ql s l t.line t.col, b)) := by rw [HR2.o, hr, hf]; exact rfl
  have C4 := Za (C3.o.step hst hps)
  clear hr hst hps zhm hv
  go_wp2_with fail
  refine (Si pb tb cap d ts [44] _ ⟨fun _ _ _ => by kernel_rfl⟩ f b4 (by omega) _ C4.o.ps OK.o).mono ?_
  intro e w5 zhm
  rcases Zy zhm with ⟨er, li, co, hr, rfl, hst⟩ | ⟨l, b5, v, hr, rfl, hst, hps, hv⟩
  ·have HE : xQ (R = .inr (er, li, co)) := by rw [HR3.o, hr]; exact rfl
   have HF := Za (C4.o.st.trans hst)
   clear hr hst zhm
   go_wp2_with fail
   exact ⟨rfl, HF.o, by rw [HE.o]⟩
  have HR4 : xQ (R = (Zb ts b5 [59]).go fun _ b => .inl (Ql s l t.line t.col, b)) := by rw [HR3.o, hr]; exact rfl
  have HLen : xQ (l.length ≤ 8193) := by have := Nb _ hr; have := OK.o.len; show _ ≤ _; omega
  obtain ⟨cs, hv⟩ := hv
  obtain ⟨na, nc, rfl, hnc, hnm⟩ := Le hv
  have HN5 := Za hnm
  have HL4 : xQ (ib < w4.heap.size) := xB C4.o.b0
  have C5 := Za (C4.o.step hst hps)
  clear hr hst hps zhm hv hnm
  obtain ⟨⟨i0, i1, i2, i3⟩, ⟨j0, j1, j2, j3⟩, hil⟩ := Zr C5.o.b0
  go_wp2_with fail
  have C6 : xQ (Z5 pb tb cap d ts w (w5.setCell ⟨ib, 1, none⟩ (.slice na l.length nc)) b5 [(ib, Lj s na l.length nc t.line t.col), (w.heap.size, T7)] [] []) := by
   have := HIb.o
   refine ⟨C5.o.st.own hp (by omega) 1 _, C5.o.ps.other (by omega) 1 _, hp, by rw [Zw]; exact C5.o.sz, fun p hm => ?_, (fun _ h => nomatch h), (fun _ h => nomatch h)⟩
   rcases List.mem_cons.1 hm with rfl | hm
   ·have h1 := Z9 (o := 1) (u := .slice na l.length nc) C5.o.b0
    simp only [List.setIfInBounds_toArray, List.set_cons_zero, List.set_cons_succ] at h1
    exact ⟨h1, by show pb < ib; omega⟩
   ·rw [List.mem_singleton.1 hm]
    exact ⟨(xH (by show w.heap.size ≠ ib; omega)).trans C5.o.b2, hp⟩
  have HN6 : xQ (Uc (w5.setCell ⟨ib, 1, none⟩ (.slice na l.length nc)) w4.heap.size na l) := Pj HN5.o (by rw [Zw]; exact xR) fun i hi _ => xH (by show i ≠ ib; have := HL4.o; omega)
  clear C5 HN5 i0 i1 i2 i3 j0 j1 j2 j3 hil
  generalize w5.setCell ⟨ib, 1, none⟩ (.slice na l.length nc) = W6 at C6 HN6 ⊢
  refine (Y6 pb tb cap b5 d ts [59] _ C6.o.ps OK.o).mono ?_
  intro e w7 zhm
  rcases Zy zhm with ⟨er, li, co, hr, rfl, hst⟩ | ⟨u7, b7, v7, hr, rfl, hst, hps, hv⟩
  ·have HE : xQ (R = .inr (er, li, co)) := by rw [HR4.o, hr]; exact rfl
   have HF := Za (C6.o.st.trans hst)
   clear hr hst zhm
   go_wp2_with fail
   exact ⟨rfl, HF.o, by rw [HE.o]⟩
  have HR5 : xQ (R = .inl (Ql s l t.line t.col, b7)) := by rw [HR4.o, hr]; exact rfl
  have C7 := Za (C6.o.step hst hps)
  have HN7 : xQ (Uc w7 w4.heap.size na l) := Pj HN6.o hst.size fun i hi hl => hst.keep i (by have := HL4.o; have := HIb.o; omega) hl
  clear hr hst hps zhm hv
  obtain ⟨⟨i0, i1, i2, i3⟩, _, hil⟩ := Zr C7.o.b0
  obtain ⟨⟨r0, r1, r2, r3⟩, ⟨f0, f1, f2, f3⟩, hr1⟩ := Zr C7.o.b1
  have hne : ¬ ib = w.heap.size := by have := HIb.o; omega
  go_wp2_with fail
  rw [HR5.o]
  refine bodyPost_ret (results_cell_row rfl _ _ w.heap.size 68 _ (0, 0) _ rfl (set4 C7.o.b1 _ _ _ _) underlying68 rfl (by kernel_rfl)) rfl ⟨Xs C7.o.st hp (xR) _ _ _ _, V6 C7.o.ps hp _ _ _ _, _, rfl, [_, _, _, _], rfl, s, l, na, nc, t.line, t.col, rfl, rfl, HLen.o, ?_⟩
  refine L7 (lo := w4.heap.size) (Pj HN7.o (by rw [Vj]; exact xR) fun i hi _ => Yn (by have := HL4.o; have := HIb.o; omega) _ _ _ _) (by have := HL4.o; have := HIb.o; omega)
end Go.Proofs.YtbnjllkkhhkkaaaGreatDoor
namespace Go.Proofs.YtbnjllkkhhkkaaaGreatDoor
open Tryz
open Go.RowKit
abbrev Bb (w : World) (b : Nat) (x0 x1 x2 x3 x4 x5 x6 x7 x8 x9 x10 x11 x12 x13 x14 : Value) : World := (((((((((((((((w.setCell ⟨b, 0, none⟩ x0).setCell ⟨b, 1, none⟩ x1).setCell ⟨b, 2, none⟩ x2).setCell ⟨b, 3, none⟩ x3).setCell ⟨b, 4, none⟩ x4).setCell ⟨b, 5, none⟩ x5).setCell ⟨b, 6, none⟩ x6).setCell ⟨b, 7, none⟩ x7).setCell ⟨b, 8, none⟩ x8).setCell ⟨b, 9, none⟩ x9).setCell ⟨b, 10, none⟩ x10).setCell ⟨b, 11, none⟩ x11).setCell ⟨b, 12, none⟩ x12).setCell ⟨b, 13, none⟩ x13).setCell ⟨b, 14, none⟩ x14)
section
variable {w w' : World} {b pb lo : Nat} {y0 y1 y2 y3 y4 y5 y6 y7 y8 y9 y10 y11 y12 y13 y14 : Value} {t : TypeId}
theorem Gr (h : w.heap[b]? = some (.cells #[y0, y1, y2, y3, y4, y5, y6, y7, y8, y9, y10, y11, y12, y13, y14] t)) (x0 x1 x2 x3 x4 x5 x6 x7 x8 x9 x10 x11 x12 x13 x14 : Value) : (Bb w b x0 x1 x2 x3 x4 x5 x6 x7 x8 x9 x10 x11 x12 x13 x14).heap[b]? = some (.cells #[x0, x1, x2, x3, x4, x5, x6, x7, x8, x9, x10, x11, x12, x13, x14] t) := by
 have h0 := Z9 (o := 0) (u := x0) h
 simp only [List.setIfInBounds_toArray, List.set_cons_zero] at h0
 have h1 := Z9 (o := 1) (u := x1) h0
 simp only [List.setIfInBounds_toArray, List.set_cons_zero, List.set_cons_succ] at h1
 have h2 := Z9 (o := 2) (u := x2) h1
 simp only [List.setIfInBounds_toArray, List.set_cons_zero, List.set_cons_succ] at h2
 have h3 := Z9 (o := 3) (u := x3) h2
 simp only [List.setIfInBounds_toArray, List.set_cons_zero, List.set_cons_succ] at h3
 have h4 := Z9 (o := 4) (u := x4) h3
 simp only [List.setIfInBounds_toArray, List.set_cons_zero, List.set_cons_succ] at h4
 have h5 := Z9 (o := 5) (u := x5) h4
 simp only [List.setIfInBounds_toArray, List.set_cons_zero, List.set_cons_succ] at h5
 have h6 := Z9 (o := 6) (u := x6) h5
 simp only [List.setIfInBounds_toArray, List.set_cons_zero, List.set_cons_succ] at h6
 have h7 := Z9 (o := 7) (u := x7) h6
 simp only [List.setIfInBounds_toArray, List.set_cons_zero, List.set_cons_succ] at h7
 have h8 := Z9 (o := 8) (u := x8) h7
 simp only [List.setIfInBounds_toArray, List.set_cons_zero, List.set_cons_succ] at h8
 have h9 := Z9 (o := 9) (u := x9) h8
 simp only [List.setIfInBounds_toArray, List.set_cons_zero, List.set_cons_succ] at h9
 have h10 := Z9 (o := 10) (u := x10) h9
 simp only [List.setIfInBounds_toArray, List.set_cons_zero, List.set_cons_succ] at h10
 have h11 := Z9 (o := 11) (u := x11) h10
 simp only [List.setIfInBounds_toArray, List.set_cons_zero, List.set_cons_succ] at h11
 have h12 := Z9 (o := 12) (u := x12) h11
 simp only [List.setIfInBounds_toArray, List.set_cons_zero, List.set_cons_succ] at h12
 have h13 := Z9 (o := 13) (u := x13) h12
 simp only [List.setIfInBounds_toArray, List.set_cons_zero, List.set_cons_succ] at h13
 have h14 := Z9 (o := 14) (u := x14) h13
 simp only [List.setIfInBounds_toArray, List.set_cons_zero, List.set_cons_succ] at h14
 exact h14
theorem Ny (x0 x1 x2 x3 x4 x5 x6 x7 x8 x9 x10 x11 x12 x13 x14 : Value) : (Bb w b x0 x1 x2 x3 x4 x5 x6 x7 x8 x9 x10 x11 x12 x13 x14).heap.size = w.heap.size := by simp only [Zw]
theorem Bg {i : Nat} (hi : i ≠ b) (x0 x1 x2 x3 x4 x5 x6 x7 x8 x9 x10 x11 x12 x13 x14 : Value) : (Bb w b x0 x1 x2 x3 x4 x5 x6 x7 x8 x9 x10 x11 x12 x13 x14).heap[i]? = w.heap[i]? := by
 unfold Bb
 rw [xH hi, xH hi, xH hi, xH hi, xH hi, xH hi, xH hi, xH hi, xH hi, xH hi, xH hi, xH hi, xH hi, xH hi, xH hi]
theorem Fe (h : Zj pb w w') (hp : pb < w.heap.size) (hb : w.heap.size ≤ b) (x0 x1 x2 x3 x4 x5 x6 x7 x8 x9 x10 x11 x12 x13 x14 : Value) : Zj pb w (Bb w' b x0 x1 x2 x3 x4 x5 x6 x7 x8 x9 x10 x11 x12 x13 x14) := (((((((((((((((h.own hp hb 0 _).own hp hb 1 _).own hp hb 2 _).own hp hb 3 _).own hp hb 4 _).own hp hb 5 _).own hp hb 6 _).own hp hb 7 _).own hp hb 8 _).own hp hb 9 _).own hp hb 10 _).own hp hb 11 _).own hp hb 12 _).own hp hb 13 _).own hp hb 14 _)
theorem Ro {tb cap a d : Nat} {ts : List Tok} (h : Ps w pb tb cap ts a d) (hb : pb < b) (x0 x1 x2 x3 x4 x5 x6 x7 x8 x9 x10 x11 x12 x13 x14 : Value) : Ps (Bb w b x0 x1 x2 x3 x4 x5 x6 x7 x8 x9 x10 x11 x12 x13 x14) pb tb cap ts a d := (((((((((((((((h.other hb 0 _).other hb 1 _).other hb 2 _).other hb 3 _).other hb 4 _).other hb 5 _).other hb 6 _).other hb 7 _).other hb 8 _).other hb 9 _).other hb 10 _).other hb 11 _).other hb 12 _).other hb 13 _).other hb 14 _)
theorem Tn (h : w.heap[b]? = some (.cells #[y0, y1, y2, y3, y4, y5, y6, y7, y8, y9, y10, y11, y12, y13, y14] t)) : (w.cell? ⟨b, 0, none⟩ = some y0 ∧ w.cell? ⟨b, 1, none⟩ = some y1 ∧ w.cell? ⟨b, 2, none⟩ = some y2 ∧ w.cell? ⟨b, 3, none⟩ = some y3 ∧ w.cell? ⟨b, 4, none⟩ = some y4 ∧ w.cell? ⟨b, 5, none⟩ = some y5 ∧ w.cell? ⟨b, 6, none⟩ = some y6 ∧ w.cell? ⟨b, 7, none⟩ = some y7 ∧ w.cell? ⟨b, 8, none⟩ = some y8 ∧ w.cell? ⟨b, 9, none⟩ = some y9 ∧ w.cell? ⟨b, 10, none⟩ = some y10 ∧ w.cell? ⟨b, 11, none⟩ = some y11 ∧ w.cell? ⟨b, 12, none⟩ = some y12 ∧ w.cell? ⟨b, 13, none⟩ = some y13 ∧ w.cell? ⟨b, 14, none⟩ = some y14) ∧ (w.frozen? ⟨b, 0, none⟩ = false ∧ w.frozen? ⟨b, 1, none⟩ = false ∧ w.frozen? ⟨b, 2, none⟩ = false ∧ w.frozen? ⟨b, 3, none⟩ = false ∧ w.frozen? ⟨b, 4, none⟩ = false ∧ w.frozen? ⟨b, 5, none⟩ = false ∧ w.frozen? ⟨b, 6, none⟩ = false ∧ w.frozen? ⟨b, 7, none⟩ = false ∧ w.frozen? ⟨b, 8, none⟩ = false ∧ w.frozen? ⟨b, 9, none⟩ = false ∧ w.frozen? ⟨b, 10, none⟩ = false ∧ w.frozen? ⟨b, 11, none⟩ = false ∧ w.frozen? ⟨b, 12, none⟩ = false ∧ w.frozen? ⟨b, 13, none⟩ = false ∧ w.frozen? ⟨b, 14, none⟩ = false) ∧ b < w.heap.size := by
 refine ⟨⟨?_, ?_, ?_, ?_, ?_, ?_, ?_, ?_, ?_, ?_, ?_, ?_, ?_, ?_, ?_⟩, ⟨?_, ?_, ?_, ?_, ?_, ?_, ?_, ?_, ?_, ?_, ?_, ?_, ?_, ?_, ?_⟩, xB h⟩
 all_goals first | (rw [cell_of_row _ _ _ _ _ _ h]; rfl) | simp [World.frozen?, h]
end
def U1 (lo : Nat) (w : World) (a : Option Addr) (vs : List (List UInt8 × Ty)) : Prop := vs = [] ∨ ∃ g, a = some ⟨g, 0, none⟩ ∧ lo ≤ g ∧ V5 w g ∧
  ∀ i (hi : i < vs.length), ∃ c : List Value, c.length = 5 ∧ (∀ j, j < 5 → w.cell? ⟨g, i * 5 + j, none⟩ = c[j]?) ∧ Q2 lo w c vs[i]
theorem Jc {lo lo' : Nat} {w : World} {a : Option Addr} {vs : List (List UInt8 × Ty)} (h : U1 lo w a vs) (hl : lo' ≤ lo) : U1 lo' w a vs := by
 rcases h with h | ⟨g, e, hg, hc, hr⟩
 ·exact .inl h
 ·refine .inr ⟨g, e, Nat.le_trans hl hg, hc, fun i hi => ?_⟩
  obtain ⟨c, h1, h2, h3⟩ := hr i hi
  exact ⟨c, h1, h2, Jr.lower h3 hl⟩
theorem Wu {lo : Nat} {w w' : World} {a : Option Addr} {vs : List (List UInt8 × Ty)} (h : U1 lo w a vs) (hs : w.heap.size ≤ w'.heap.size) (hk : ∀ b, lo ≤ b → b < w.heap.size → w'.heap[b]? = w.heap[b]?) : U1 lo w' a vs := by
 rcases h with h | ⟨g, e, hg, hc, hr⟩
 ·exact .inl h
 ·obtain ⟨cs, ty, hh⟩ := hc
  have hgk := hk g hg (xB hh)
  refine .inr ⟨g, e, hg, ⟨cs, ty, hgk.trans hh⟩, fun i hi => ?_⟩
  obtain ⟨c, h1, h2, h3⟩ := hr i hi
  refine ⟨c, h1, fun j hj => ?_, Jr.keep h3 hs hk⟩
  have := h2 j hj
  unfold World.cell? at this ⊢
  simp only at this ⊢
  rw [hgk]
  exact this
theorem zfr {lo : Nat} {w : World} {v : Value} {vs : List (List UInt8 × Ty)} (h : Fp lo w v vs) : ∃ a cap, v = .slice a vs.length cap ∧ vs.length ≤ cap ∧ U1 lo w a vs := by
 obtain ⟨cs, h⟩ := h
 obtain ⟨a, cap, e, hc, hr⟩ := h.form Jr
 exact ⟨a, cap, e, hc, hr⟩
theorem zdp {ts : List Tok} {K : Nat → Pr Ty} {s : List UInt8} {a b : Nat} {t : Ty} (h : Y2 ts K s a = .inl ((t, false), b)) : t = Z6 0 [] [] [] := by
 unfold Y2 at h
 split at h
 ·cases hk : K (a + 1) with
  | inr e => rw [hk] at h; cases h
  | inl p => rw [hk] at h; injection h with h; injection h with h _; injection h with _ h; cases h
 ·injection h with h
  injection h with h _
  injection h with h _
  exact h.symm
theorem Ga (ts : List Tok) (a : Nat) : Qy ts a =
  (Zb ts (if Zc ts a [101, 120, 112, 111, 114, 116] then a + 1 else a) [102, 110]).go fun _ b => (Zm ts b).go fun s b => (M0 ts (Yk ts ts.length 101 0) ts.length b).go fun vs b => (Ue ts (Yk ts ts.length 101 0) b).go fun h b => (Y2 ts (Yk ts ts.length 101 0) [58] b).go fun y b => (Zb ts b [61]).go fun _ b => (Yw ts ts.length 101 false 0 b).go fun x b => (Zb ts b [59]).go fun _ b =>
   .inl (Vq s (Zc ts a [101, 120, 112, 111, 114, 116]) vs h.1 [h.2, y.1] x (Zx ts (if Zc ts a [101, 120, 112, 111, 114, 116] then a + 1 else a)) (Zz ts (if Zc ts a [101, 120, 112, 111, 114, 116] then a + 1 else a)), b) := by
 unfold Qy
 simp only
 congr 1
 funext _ b
 congr 1
 funext s b
 congr 1
 funext vs b
 rw [← A3]
 congr 1
 funext h b
 cases hb : Y2 ts (Yk ts ts.length 101 0) [58] b with
 | inr e => rfl
 | inl p =>
  obtain ⟨⟨y, q⟩, c⟩ := p
  cases q with
  | false => rw [zdp hb]; rfl
  | true => rfl
end Go.Proofs.YtbnjllkkhhkkaaaGreatDoor
