/- Part. -/
import Derived.Test.YtfoejkhfdiodhaaGreatDoorPart6
set_option maxRecDepth 100000
set_option maxHeartbeats 4000000
namespace Go.Proofs.YtfoejkhfdiodhaaGreatDoor
open Go.Proofs.Tryz
open Go.RowKit
attribute [local go_sem ↓] Go.wp_at_zero Go.wp_at_succ
abbrev Rj (t : Tok) (ta : Option Addr) (tl tc : Nat) : NV := ⟨19, ⟨t.text.toArray⟩, 0, t.line, t.col, ta, tl, tc, none, 0, 0, none, 0, 0⟩
theorem kJ {pb lo n : Nat} {w w' : World} {ka : Option Addr} {ks : List Ty} (h : Ut w lo n ka ks) (hs : Zl pb w w') (hp : pb < lo) : Ut w' lo n ka ks := Ni h hs.size fun b hb hl => hs.keep b (by omega) hl
def Aj (ts : List Tok) (K : Nat -> Pr Ty) (f a : Nat) : Pr Ty := if Zh ts (a + 1) [91] then (Yd ts K [44] f (a + 2)).go fun l b => (Ze ts b [93]).go fun _ b => .inl (Zn 19 (Zk ts a).text 0 (Zk ts a).line (Zk ts a).col l [] [], b) else .inl (Zn 4 (Zk ts a).text 0 (Zk ts a).line (Zk ts a).col [] [] [], a + 1)
theorem jT (pb tb cap d : Nat) (ts : List Tok) (K : Nat -> Pr Ty) (hK : Xg pb tb cap d ts Yb 21 K) (ok : Yh ts) (a : Nat) (hn : a + 1 < ts.length) (w : World) (h : Ps w pb tb cap ts a d) :
  Calls prog 188 #[pP pb] w (Z7 pb tb cap ts d w Z4 (Aj ts K ts.length a)) := by
 have H := Za h
 have OK := Za ok
 have hp := h.ltp
 have Py := Za hK
 have C0 := Za (Vz h Zi.obj)
 have HC := Za (Bq pb tb cap a d ts _ C0.o.ps hn ok.len)
 obtain ⟨f, hf⟩ : ∃ f, f + 1 = ts.length := ⟨ts.length - 1, by omega⟩
 obtain ⟨t, ht⟩ := xE (Zk ts a)
 unfold Aj
 rw [<- ht] at HC ⊢
 clear ht
 obtain ⟨R, hR⟩ : ∃ R : Pr Ty, R = (if Zh ts (a + 1) [91] then (Yd ts K [44] ts.length (a + 2)).go fun l b => (Ze ts b [93]).go fun _ b => .inl (Zn 19 t.text 0 t.line t.col l [] [], b) else .inl (Zn 4 t.text 0 t.line t.col [] [] [], a + 1)) := ⟨_, rfl⟩
 rw [<- hR]
 have Z9 := Za hR
 clear h ok hR hK
 go_enter func188, ntmps188
 go_wp2_with fail
 refine (HC.o).mono ?_
 rintro e w1 ⟨rfl, Zb, Zc⟩
 have C1 := Za (C0.o.step Zb Zc)
 have C2 := Za (C1.o.alloc (Zp t))
 clear Zb Zc
 go_wp2_with fail
 have HT := Za (V6 pb tb cap (a + 1) d ts [91] _ C2.o.ps OK.o)
 cases hs : Zh ts (a + 1) [91] with
 | false =>
  rw [hs, if_neg (by simp)] at HT
  have Yk : xQ (R = .inl (Zn 4 t.text 0 t.line t.col [] [] [], a + 1)) := by rw [Z9.o, if_neg (by simp [hs])]; exact rfl
  clear hs;refine (HT.o).mono ?_;rintro e w2 ⟨rfl, Zb, Zc⟩;have C3 := Za (C2.o.step Zb Zc);clear Zb Zc;obtain ⟨⟨k0, k1, k2, k3⟩, _, P8⟩ := Z6 C3.o.b0;go_wp2_with fail;refine (Nl t ⟨4, ⟨t.text.toArray⟩, 0, 0, 0, none, 0, 0, none, 0, 0, none, 0, 0⟩ _).mono ?_;rintro e w3 ⟨rfl, hb⟩;have C4 := Za (C3.o.below hb);clear hb;obtain ⟨⟨r0, r1, r2, r3, r4, r5, r6, r7⟩, ⟨f0, f1, f2, f3, f4, f5, f6, f7⟩, Yn⟩ := Zm (x := Zi) (C4.o.b1)
  go_wp2_with fail;rw [Yk.o];refine r38 rfl rfl (Xn (x := Wi 4 t.text 0 t) C4.o.b1) rfl ⟨Wg C4.o.st hp (xR) (Wi 4 t.text 0 t), Wn C4.o.ps hp (Wi 4 t.text 0 t), _, rfl, Wi 4 t.text 0 t, rfl, ?_⟩;exact ((Dr _ _ 4 t.text 0 t).put8 (xU _) (Wi 4 t.text 0 t)).lower (Nat.le_succ _)
 | true =>
  rw [hs, if_pos rfl] at HT
  have Yk : xQ (R = (Yd ts K [44] (f + 1) (a + 2)).go fun l b => (Ze ts b [93]).go fun _ b => .inl (Zn 19 t.text 0 t.line t.col l [] [], b)) := by rw [Z9.o, if_pos hs, hf]; exact rfl
  clear hs;refine (HT.o).mono ?_;rintro e w2 ⟨rfl, Zb, Zc⟩;have C3 := Za (C2.o.step Zb Zc);clear Zb Zc;go_wp2_with fail;refine (uO pb tb cap d ts [44] _ K Py.o f (a + 2) (by omega) _ C3.o.ps OK.o).mono ?_;intro e w3 Zg;rcases Yj Zg with ⟨er, li, co, hr, rfl, Zb⟩ | ⟨l, b, v, hr, rfl, Zb, Zc, hv⟩
  ·have HE : xQ (R = .inr (er, li, co)) := by rw [Yk.o, hr]; exact rfl
   have HF := Za (C3.o.st.trans Zb);clear hr Zb Zg;go_wp2_with fail;exact ⟨rfl, HF.o, by rw [HE.o]⟩
  have Zz : xQ (R = (Ze ts b [93]).go fun _ b => .inl (Zn 19 t.text 0 t.line t.col l [] [], b)) := by rw [Yk.o, hr]; exact rfl
  obtain ⟨cs, hv⟩ := hv;obtain ⟨av, cv, m, rfl, hcv, hk⟩ := G3 hv;have HKi := Za (Ae hk C3.o.sz)
  have Sc : xQ (l.length <= 8193) := by have := Fv _ hr; have := OK.o.len; show _ <= _; omega
  have C4 := Za ((C3.o.step Zb Zc));clear hr Zb Zc Zg hv hk;go_wp2_with fail;refine (Vw pb tb cap b d ts [93] _ C4.o.ps OK.o).mono ?_;intro e w4 Zg;rcases Yj Zg with ⟨er, li, co, hr, rfl, Zb⟩ | ⟨u, b3, v, hr, rfl, Zb, Zc, hv⟩
  ·have HE : xQ (R = .inr (er, li, co)) := by rw [Zz.o, hr]; exact rfl
   have HF := Za (C4.o.st.trans Zb);clear hr Zb Zg;go_wp2_with fail;exact ⟨rfl, HF.o, by rw [HE.o]⟩
  have Yt : xQ (R = .inl (Zn 19 t.text 0 t.line t.col l [] [], b3)) := by rw [Zz.o, hr]; exact rfl
  have HKj := Za (kJ HKi.o Zb (by omega));have C5 := Za ((C4.o.step Zb Zc));clear hr Zb Zc Zg hv;obtain ⟨⟨k0, k1, k2, k3⟩, _, P8⟩ := Z6 C5.o.b0;go_wp2_with fail;refine (Nl t ⟨19, ⟨t.text.toArray⟩, 0, 0, 0, av, l.length, cv, none, 0, 0, none, 0, 0⟩ _).mono ?_;rintro e w6 ⟨rfl, hb⟩;have C6 := Za (C5.o.below hb)
  have HN : xQ (Yi (w.heap.size + 1) w6 (Rj t av l.length cv) (Zn 19 t.text 0 t.line t.col l [] [])) := ⟨m + 1, l, [], [], rfl, ⟨rfl, rfl, rfl⟩, ⟨(by have := Sc.o; omega), xZ _, xZ _⟩, kK HKj.o hb, .inl rfl, .inl rfl⟩
  clear hb;obtain ⟨⟨r0, r1, r2, r3, r4, r5, r6, r7⟩, ⟨f0, f1, f2, f3, f4, f5, f6, f7⟩, Yn⟩ := Zm (x := Zi) (C6.o.b1);go_wp2_with fail;rw [Yt.o];refine r38 rfl rfl (Xn (x := Rj t av l.length cv) C6.o.b1) rfl ⟨Wg C6.o.st hp (xR) (Rj t av l.length cv), Wn C6.o.ps hp (Rj t av l.length cv), _, rfl, Rj t av l.length cv, rfl, ?_⟩;exact ((HN.o).put8 (xU _) (Rj t av l.length cv)).lower (Nat.le_succ _)
theorem qH {fn : Func} {p u : Tmp} {ty : TypeId} (h : fn.results = #[.cell p ty, .tmp u]) (tmps : Array Value) {P : Program} {w : World} {g : Nat} {t : TypeId} {cs : Array Value} {fr : Nat × Nat} {fs : Array Field}
  (hp : tmps.getD p undef = .pointer (some ⟨g, 0, none⟩)) (hg : w.heap[g]? = some (.cells cs t fr))
  (hu : P.underlying ty = some (.struct fs)) (hi : (P.info? ty).map (·.size) = some cs.size) :
  (results fn tmps).run P w = .ok (.tuple #[.agg cs, tmps.getD u undef]) w := dK h tmps hp hg hu hi
def Vi (ts : List Tok) (K : Nat -> Pr Ty) (s : List UInt8) (a : Nat) : Pr (Ty × Bool) := if Zh ts a s then (K (a + 1)).go fun t b => .inl ((t, true), b) else .inl ((Yq 0 [] [] [], false), a)
def TyBE (lo : Nat) (w : World) (v : Value) (x : Ty × Bool) : Prop := ∃ u, v = .tuple #[u, .bool x.2] /\ Yb lo w u x.1
theorem A5 (pb tb cap d : Nat) (ts : List Tok) (s : List UInt8) (K : Nat -> Pr Ty) (hK : Xg pb tb cap d ts Yb 21 K) (ok : Yh ts) (a : Nat) (w : World) (h : Ps w pb tb cap ts a d) :
  Calls prog 73 #[pP pb, .string ⟨s.toArray⟩] w (Z7 pb tb cap ts d w TyBE (Vi ts K s a)) := by
 have H := Za h
 have OK := Za ok
 have hp := h.ltp
 have Py := Za hK
 have C0 := Za (Vz h Xt)
 obtain ⟨R, hR⟩ : ∃ R : Pr (Ty × Bool), R = (Vi ts K s a) := ⟨_, rfl⟩
 rw [<- hR]
 have Z9 := Za hR
 clear h ok hR hK
 go_enter func73, ntmps73
 go_wp2_with fail
 have HT := Za (V6 pb tb cap a d ts s _ C0.o.ps OK.o)
 cases hs : Zh ts a s with
 | false =>
  rw [hs, if_neg (by simp)] at HT
  have Yk : xQ (R = .inl ((Yq 0 [] [] [], false), a)) := by rw [Z9.o, Vi, if_neg (by simp [hs])]; exact rfl
  clear hs;refine (HT.o).mono ?_;rintro e w1 ⟨rfl, Zb, Zc⟩;have C1 := Za (C0.o.step Zb Zc);clear Zb Zc;obtain ⟨⟨r0, r1, r2, r3⟩, ⟨f0, f1, f2, f3⟩, Yn⟩ := Z6 C1.o.b0;go_wp2_with fail;rw [Yk.o];refine bodyPost_ret (qH rfl _ rfl (set4 C1.o.b0 _ _ _ _) underlying42 F4) rfl ⟨Ta C1.o.st hp (xR) _ _ _ _, Br C1.o.ps hp _ _ _ _, _, rfl, _, rfl, ?_⟩;exact Av _ _ 0 ⟨#[]⟩ (by decide) (by decide)
 | true =>
  rw [hs, if_pos rfl] at HT
  have Yk : xQ (R = (K (a + 1)).go fun t b => .inl ((t, true), b)) := by rw [Z9.o, Vi, if_pos hs]; exact rfl
  clear hs;refine (HT.o).mono ?_;rintro e w1 ⟨rfl, Zb, Zc⟩;have C1 := Za (C0.o.step Zb Zc);clear Zb Zc;go_wp2_with fail;refine (Py.o.calls (a + 1) _ C1.o.ps).mono ?_;intro e w2 Zg;rcases Yj Zg with ⟨er, li, co, hr, rfl, Zb⟩ | ⟨D, b, v, hr, rfl, Zb, Zc, hv⟩
  ·have HE : xQ (R = .inr (er, li, co)) := by rw [Yk.o, hr]; exact rfl
   have HF := Za (C1.o.st.trans Zb);clear hr Zb Zg;go_wp2_with fail;exact ⟨rfl, HF.o, by rw [HE.o]⟩
  have Zz : xQ (R = .inl ((D, true), b)) := by rw [Yk.o, hr]; exact rfl
  obtain ⟨k1, nm1, na1, nl1, nc1, ka1, kl1, kc1, rfl⟩ := hv.cells;have C2 := Za ((C1.o.step Zb Zc).addT hv C1.o.sz);clear hr Zb Zc Zg hv;obtain ⟨⟨r0, r1, r2, r3⟩, ⟨f0, f1, f2, f3⟩, Yn⟩ := Z6 C2.o.b0;go_wp2_with fail;rw [Zz.o];refine bodyPost_ret (qH rfl _ rfl (set4 C2.o.b0 _ _ _ _) underlying42 F4) rfl ⟨Ta C2.o.st hp (xR) _ _ _ _, Br C2.o.ps hp _ _ _ _, _, rfl, _, rfl, ?_⟩;exact (C2.o.t0.set4 (xU _) _ _ _ _).lower (Nat.le_succ _)
theorem dL {fn : Func} {p u : Tmp} {ty : TypeId} (h : fn.results = #[.tmp u, .cell p ty]) (tmps : Array Value) {P : Program} {w : World} {g : Nat} {t : TypeId} {cs : Array Value} {fr : Nat × Nat} {fs : Array Field}
  (hp : tmps.getD p undef = .pointer (some ⟨g, 0, none⟩)) (hg : w.heap[g]? = some (.cells cs t fr))
  (hu : P.underlying ty = some (.struct fs)) (hi : (P.info? ty).map (·.size) = some cs.size) :
  (results fn tmps).run P w = .ok (.tuple #[tmps.getD u undef, .agg cs]) w := by
 have hp' : tmps[p]?.getD undef = .pointer (some ⟨g, 0, none⟩) := by simpa using hp
 simp [results, h, hp', asAddr, run_loadVar_row w g t ty cs fr _ hg hu rfl hi]
def Bp (ts : List Tok) (K : Nat -> Pr Ty) (a : Nat) : Pr (List UInt8 × Ty) := (Ze ts a [40]).go fun _ b => (Zr ts b).go fun s b => (Vi ts K [58] b).go fun x b => (Ze ts b [41]).go fun _ b => .inl ((s, x.1), b)
def ParE (lo : Nat) (w : World) (v : Value) (x : List UInt8 × Ty) : Prop := ∃ u, v = .tuple #[.string ⟨x.1.toArray⟩, u] /\ Yb lo w u x.2
theorem zV (pb tb cap d : Nat) (ts : List Tok) (K : Nat -> Pr Ty) (hK : Xg pb tb cap d ts Yb 21 K) (ok : Yh ts) (a : Nat) (w : World) (h : Ps w pb tb cap ts a d) :
  Calls prog 72 #[pP pb] w (Z7 pb tb cap ts d w ParE (Bp ts K a)) := by
 have H := Za h
 have OK := Za ok
 have hp := h.ltp
 have Py := Za hK
 have C0 := Za (Vz h Xt)
 obtain ⟨R, hR⟩ : ∃ R : Pr (List UInt8 × Ty), R = (Bp ts K a) := ⟨_, rfl⟩
 rw [<- hR]
 unfold Bp at hR
 have Z9 := Za hR
 clear h ok hR hK
 go_enter func72, ntmps72
 go_wp2_with fail
 refine (Vw pb tb cap a d ts [40] _ C0.o.ps OK.o).mono ?_
 intro e w1 Zg
 rcases Yj Zg with ⟨er, li, co, hr, rfl, Zb⟩ | ⟨u, b1, v, hr, rfl, Zb, Zc, hv⟩
 ·have HE : xQ (R = .inr (er, li, co)) := by rw [Z9.o, hr]; exact rfl
  have HF := Za (C0.o.st.trans Zb);clear hr Zb Zg;go_wp2_with fail;exact ⟨rfl, HF.o, by rw [HE.o]⟩
 have Yk : xQ (R = (Zr ts b1).go fun s b => (Vi ts K [58] b).go fun x b => (Ze ts b [41]).go fun _ b => .inl ((s, x.1), b)) := by rw [Z9.o, hr]; exact rfl
 have C1 := Za ((C0.o.step Zb Zc))
 clear hr Zb Zc Zg hv
 go_wp2_with fail
 refine (Jo pb tb cap b1 d ts _ C1.o.ps OK.o).mono ?_
 intro e w2 Zg
 rcases Yj Zg with ⟨er, li, co, hr, rfl, Zb⟩ | ⟨s, b2, v, hr, rfl, Zb, Zc, hv⟩
 ·have HE : xQ (R = .inr (er, li, co)) := by rw [Yk.o, hr]; exact rfl
  have HF := Za (C1.o.st.trans Zb);clear hr Zb Zg;go_wp2_with fail;exact ⟨rfl, HF.o, by rw [HE.o]⟩
 have Zz : xQ (R = (Vi ts K [58] b2).go fun x b => (Ze ts b [41]).go fun _ b => .inl ((s, x.1), b)) := by rw [Yk.o, hr]; exact rfl
 subst hv
 have C2 := Za ((C1.o.step Zb Zc))
 clear hr Zb Zc Zg  
 go_wp2_with fail
 refine (A5 pb tb cap d ts [58] K Py.o OK.o b2 _ C2.o.ps).mono ?_
 intro e w3 Zg
 rcases Yj Zg with ⟨er, li, co, hr, rfl, Zb⟩ | ⟨x, b3, v, hr, rfl, Zb, Zc, hv⟩
 ·have HE : xQ (R = .inr (er, li, co)) := by rw [Zz.o, hr]; exact rfl
  have HF := Za (C2.o.st.trans Zb);clear hr Zb Zg;go_wp2_with fail;exact ⟨rfl, HF.o, by rw [HE.o]⟩
 have Yt : xQ (R = (Ze ts b3 [41]).go fun _ b => .inl ((s, x.1), b)) := by rw [Zz.o, hr]; exact rfl
 obtain ⟨u3, rfl, hv⟩ := hv
 obtain ⟨k1, nm1, na1, nl1, nc1, ka1, kl1, kc1, rfl⟩ := hv.cells
 have C3 := Za ((C2.o.step Zb Zc).addT hv C2.o.sz)
 clear hr Zb Zc Zg hv
 go_wp2_with fail
 have C4 := Za (C3.o.alloc (Z5 k1 nm1 na1 nl1 nc1 ka1 kl1 kc1))
 refine (Vw pb tb cap b3 d ts [41] _ C4.o.ps OK.o).mono ?_
 intro e w4 Zg
 rcases Yj Zg with ⟨er, li, co, hr, rfl, Zb⟩ | ⟨u4, b4, v4, hr, rfl, Zb, Zc, hv⟩
 ·have HE : xQ (R = .inr (er, li, co)) := by rw [Yt.o, hr]; exact rfl
  have HF := Za (C4.o.st.trans Zb);clear hr Zb Zg;go_wp2_with fail;exact ⟨rfl, HF.o, by rw [HE.o]⟩
 have Xi : xQ (R = .inl ((s, x.1), b4)) := by rw [Yt.o, hr]; exact rfl
 have C5 := Za ((C4.o.step Zb Zc))
 clear hr Zb Zc Zg hv
 obtain ⟨⟨r0, r1, r2, r3⟩, ⟨f0, f1, f2, f3⟩, Yn⟩ := Z6 C5.o.b1
 obtain ⟨⟨q0, q1, q2, q3⟩, _, hq1⟩ := Z6 C5.o.b0
 have Z3 : ¬ w3.heap.size = w.heap.size := by have := C3.o.sz; omega
 go_wp2_with fail
 go_region
 all_goals
  go_wp2_with fail;rw [Xi.o];refine bodyPost_ret (dL rfl _ rfl (set4 C5.o.b1 _ _ _ _) underlying42 F4) rfl ⟨(Ta C5.o.st hp (xR) _ _ _ _).drew, (Br C5.o.ps hp _ _ _ _).drew, _, rfl, _, rfl, ?_⟩;exact (((C5.o.t0.set4 (xU _) _ _ _ _).lower (Nat.le_succ _)).keep (xR) fun _ _ _ => rfl)
theorem Nz {lo kb : Nat} {w : World} {x : NV} {D1 : Ty} (h1 : Yi lo w x D1) (hk : w.heap[kb]? = some x.obj) (Tj : lo <= kb)
  (z : NV) (tys : List Ty) (ns : List (List UInt8)) (hz : z.ka = some ⟨kb, 0, none⟩ /\ z.kl = 1) (ht : z.tl = tys.length /\ tys.length <= 100000 /\ ∃ m, Ut w lo m z.ta tys) (hn : z.nl = ns.length /\ ns.length <= 100000 /\ Ba w lo z.na ns) :
  Yi lo w z (Zn z.k z.tx.data.toList z.N z.li z.co tys ns [D1]) := by
 obtain ⟨m1, h1⟩ := h1
 obtain ⟨t1, t2, m3, t3⟩ := ht
 refine ⟨max m1 m3 + 1, tys, ns, [D1], rfl, ⟨t1, hn.1, hz.2⟩, ⟨t2, hn.2.1, (by show 1 <= _; omega)⟩, E1 t3 (Nat.le_max_right _ _), hn.2.2, .inr ⟨kb, 0, hz.1, Tj, ⟨_, _, hk⟩, fun i hi => ?_⟩⟩
 match i, hi with
 | 0, _ => exact ⟨x, ⟨by rw [cell_of_row _ _ _ _ _ _ hk]; rfl, by rw [cell_of_row _ _ _ _ _ _ hk]; rfl, by rw [cell_of_row _ _ _ _ _ _ hk]; rfl, by rw [cell_of_row _ _ _ _ _ _ hk]; rfl, by rw [cell_of_row _ _ _ _ _ _ hk]; rfl, by rw [cell_of_row _ _ _ _ _ _ hk]; rfl, by rw [cell_of_row _ _ _ _ _ _ hk]; rfl, by rw [cell_of_row _ _ _ _ _ _ hk]; rfl⟩, Ga h1 (Nat.le_max_left _ _)⟩
abbrev Yo (w : World) (b : Nat) (v0 v1 v2 v3 v4 v5 v6 v7 : Value) : World := (((((((w.setCell ⟨b, 0, none⟩ v0).setCell ⟨b, 1, none⟩ v1).setCell ⟨b, 2, none⟩ v2).setCell ⟨b, 3, none⟩ v3).setCell ⟨b, 4, none⟩ v4).setCell ⟨b, 5, none⟩ v5).setCell ⟨b, 6, none⟩ v6).setCell ⟨b, 7, none⟩ v7
theorem Bs {w : World} {b i : Nat} (hi : i ≠ b) (v0 v1 v2 v3 v4 v5 v6 v7 : Value) : (Yo w b v0 v1 v2 v3 v4 v5 v6 v7).heap[i]? = w.heap[i]? := by
 unfold Yo
 rw [xH hi, xH hi, xH hi, xH hi, xH hi, xH hi, xH hi, xH hi]
abbrev Hr (k : Int) (t : Tok) (kb : Nat) : NV := ⟨k, ⟨#[]⟩, 0, t.line, t.col, none, 0, 0, none, 0, 0, some ⟨kb, 0, none⟩, 1, 1⟩
theorem rQ (pb tb cap d : Nat) (ts : List Tok) (U : Nat -> Pr Ty) (hU : Xg pb tb cap d ts Z4 178 U) (ok : Yh ts) (a : Nat) (hs : Zh ts a [45] = true) (w : World) (h : Ps w pb tb cap ts a d) :
  Calls prog 179 #[pP pb] w (Z7 pb tb cap ts d w Z4 ((U (a + 1)).go fun x b => .inl (Zn 16 [] 0 (Zk ts a).line (Zk ts a).col [] [] [x], b))) := by
 have H := Za h
 have OK := Za ok
 have hp := h.ltp
 have HU1 := Za hU
 have C0 := Za (Vz h Zi.obj)
 have HN := Za (Q4 ok.ends h.lt hs)
 have HS := Za hs
 have Mm := Za (fun w h => Bq pb tb cap a d ts w h HN.o ok.len)
 obtain ⟨t, ht⟩ := xE (Zk ts a)
 rw [<- ht] at Mm ⊢
 clear ht hs
 obtain ⟨R, hR⟩ : ∃ R : Pr Ty, R = ((U (a + 1)).go fun x b => .inl (Zn 16 [] 0 t.line t.col [] [] [x], b)) := ⟨_, rfl⟩
 rw [<- hR]
 have Z9 := Za hR
 clear h ok hR hU
 go_enter func179, ntmps179
 go_wp2_with fail
 refine (Vo pb tb cap a _ 1 ts [[45]] _ _ C0.o.ps.rd (by simp) (by simp)).mono ?_
 rw [Ul, HS.o]
 rintro e w1 ⟨rfl, hb⟩
 have C1 := Za (C0.o.below hb)
 clear hb
 go_wp2_with fail
 refine (Mm.o _ C1.o.ps).mono ?_
 rintro e w2 ⟨rfl, Zb, Zc⟩
 have C2 := Za (C1.o.step Zb Zc)
 have C3 := Za (C2.o.alloc (Zp t))
 clear Zb Zc
 obtain ⟨⟨k0, k1, k2, k3⟩, _, P8⟩ := Z6 C3.o.b0
 go_wp2_with fail
 have Nh : w2.heap.size ≠ w.heap.size := by have := C2.o.sz; omega
 have Vx : (((w2.alloc (Zp t)).drew).cell? ⟨w2.heap.size, 0, none⟩ = some (.int .i64 t.kind) /\ ((w2.alloc (Zp t)).drew).cell? ⟨w2.heap.size, 1, none⟩ = some (.string ⟨t.text.toArray⟩) /\ ((w2.alloc (Zp t)).drew).cell? ⟨w2.heap.size, 2, none⟩ = some (.int .i64 t.line) /\ ((w2.alloc (Zp t)).drew).cell? ⟨w2.heap.size, 3, none⟩ = some (.int .i64 t.col)) := (Y1 (C3.o.drew.b0))
 have HC : xQ (Calls prog 178 #[pP pb] (w2.alloc (Zp t)).drew fun e w9 => (∃ chain, e = .panicked chain /\ Z7 pb tb cap ts d w Z4 R e w9) ∨ ∃ (y : NV) (D : Ty) (b2 : Nat), e = .returned (y.val) /\ ((w9.cell? ⟨w2.heap.size, 0, none⟩ = some (.int .i64 t.kind) /\ w9.cell? ⟨w2.heap.size, 1, none⟩ = some (.string ⟨t.text.toArray⟩) /\ w9.cell? ⟨w2.heap.size, 2, none⟩ = some (.int .i64 t.line) /\ w9.cell? ⟨w2.heap.size, 3, none⟩ = some (.int .i64 t.col))) /\ xQ (R = .inl (Zn 16 [] 0 t.line t.col [] [] [D], b2) /\ Yy pb tb cap d ts w w9 b2 [(w2.heap.size, Zp t), (w.heap.size, Zi.obj)] [(y, D)] [])) := by
  refine (HU1.o.calls (a + 1) _ C3.o.drew.ps).mono ?_;intro e w9 Zg;rcases Yj Zg with ⟨er, li, co, hr, rfl, Zb⟩ | ⟨D, b2, v, hr, rfl, Zb, Zc, hv⟩
  ·exact .inl ⟨_, rfl, C3.o.drew.st.trans Zb, by rw [Z9.o, hr]; rfl⟩
  obtain ⟨y, rfl, hv⟩ := hv;have CN := (C3.o.drew.step Zb Zc).addN hv C3.o.drew.sz;exact .inr ⟨y, D, b2, rfl, (Y1 (CN.b0)), by rw [Z9.o, hr]; rfl, CN⟩
 go_wp2_with fail
 go_region_held (fun W => (W.cell? ⟨w2.heap.size, 0, none⟩ = some (.int .i64 t.kind) /\ W.cell? ⟨w2.heap.size, 1, none⟩ = some (.string ⟨t.text.toArray⟩) /\ W.cell? ⟨w2.heap.size, 2, none⟩ = some (.int .i64 t.line) /\ W.cell? ⟨w2.heap.size, 3, none⟩ = some (.int .i64 t.col))) (first | with_reducible assumption | with_reducible exact Wt.o _ | with_reducible exact Xp.o _ _ _ _ _ _ _ _) (first
  | (go_at_call 178; refine HC.o.mono ?_; rintro e w9 (⟨ch, rfl, hf⟩ | ⟨y, D, b2, rfl, t5, HX⟩); exact ⟨rfl, hf⟩; have Wt : xQ (∀ o, (((w9.alloc o)).cell? ⟨w2.heap.size, 0, none⟩ = some (.int .i64 t.kind) /\ ((w9.alloc o)).cell? ⟨w2.heap.size, 1, none⟩ = some (.string ⟨t.text.toArray⟩) /\ ((w9.alloc o)).cell? ⟨w2.heap.size, 2, none⟩ = some (.int .i64 t.line) /\ ((w9.alloc o)).cell? ⟨w2.heap.size, 3, none⟩ = some (.int .i64 t.col))) := (fun o => (Y1 ((HX.o.2.alloc o).b1))))
  | (go_at_call 123; refine (Nl t ⟨16, ⟨#[]⟩, 0, 0, 0, none, 0, 0, none, 0, 0, some ⟨w9.heap.size, 0, none⟩, 1, 1⟩ _).mono ?_; rintro e w10 ⟨rfl, hb⟩; have Zv := Za ((HX.o.2.alloc _).below hb); have t6 : (w10.cell? ⟨w2.heap.size, 0, none⟩ = some (.int .i64 t.kind) /\ w10.cell? ⟨w2.heap.size, 1, none⟩ = some (.string ⟨t.text.toArray⟩) /\ w10.cell? ⟨w2.heap.size, 2, none⟩ = some (.int .i64 t.line) /\ w10.cell? ⟨w2.heap.size, 3, none⟩ = some (.int .i64 t.col)) := (Y1 (Zv.o.b1)); have Tm := Za (Zm (x := Zi) (Zv.o.b2)); obtain ⟨⟨r0, r1, r2, r3, r4, r5, r6, r7⟩, ⟨f0, f1, f2, f3, f4, f5, f6, f7⟩, Yn⟩ := Tm.o; have Xp : xQ (∀ v0 v1 v2 v3 v4 v5 v6 v7, (((Yo w10 w.heap.size v0 v1 v2 v3 v4 v5 v6 v7)).cell? ⟨w2.heap.size, 0, none⟩ = some (.int .i64 t.kind) /\ ((Yo w10 w.heap.size v0 v1 v2 v3 v4 v5 v6 v7)).cell? ⟨w2.heap.size, 1, none⟩ = some (.string ⟨t.text.toArray⟩) /\ ((Yo w10 w.heap.size v0 v1 v2 v3 v4 v5 v6 v7)).cell? ⟨w2.heap.size, 2, none⟩ = some (.int .i64 t.line) /\ ((Yo w10 w.heap.size v0 v1 v2 v3 v4 v5 v6 v7)).cell? ⟨w2.heap.size, 3, none⟩ = some (.int .i64 t.col))) := (fun v0 v1 v2 v3 v4 v5 v6 v7 => (Y1 ((Bs Nh v0 v1 v2 v3 v4 v5 v6 v7).trans (Zv.o.b1)))); clear hb))
 all_goals
  go_wp2_with fail;rw [HX.o.1];refine r38 rfl rfl (Xn (x := Hr 16 t w9.heap.size) Zv.o.b2) rfl ⟨Wg Zv.o.st hp (xR) (Hr 16 t w9.heap.size), Wn Zv.o.ps hp (Hr 16 t w9.heap.size), _, rfl, Hr 16 t w9.heap.size, rfl, ?_⟩;exact ((Nz Zv.o.n0 Zv.o.b0 (by have := HX.o.2.sz; omega) (Hr 16 t w9.heap.size) [] [] ⟨rfl, rfl⟩ ⟨rfl, xZ _, 0, .inl rfl⟩ ⟨rfl, xZ _, .inl rfl⟩).put8 (xU _) (Hr 16 t w9.heap.size)).lower (Nat.le_succ _)
theorem rR (pb tb cap d : Nat) (ts : List Tok) (U : Nat -> Pr Ty) (hU : Xg pb tb cap d ts Z4 178 U) (ok : Yh ts) (a : Nat) (hs : Zh ts a [110, 111, 116] = true) (w : World) (h : Ps w pb tb cap ts a d) :
  Calls prog 179 #[pP pb] w (Z7 pb tb cap ts d w Z4 ((U (a + 1)).go fun x b => .inl (Zn 15 [] 0 (Zk ts a).line (Zk ts a).col [] [] [x], b))) := by
 have H := Za h
 have OK := Za ok
 have hp := h.ltp
 have HU1 := Za hU
 have C0 := Za (Vz h Zi.obj)
 have HN := Za (Q4 ok.ends h.lt hs)
 have Nn := Za (Kn hs (show ([110, 111, 116] : List UInt8) ≠ [45] by decide))
 have HS := Za hs
 have Mm := Za (fun w h => Bq pb tb cap a d ts w h HN.o ok.len)
 obtain ⟨t, ht⟩ := xE (Zk ts a)
 rw [<- ht] at Mm ⊢
 clear ht hs
 obtain ⟨R, hR⟩ : ∃ R : Pr Ty, R = ((U (a + 1)).go fun x b => .inl (Zn 15 [] 0 t.line t.col [] [] [x], b)) := ⟨_, rfl⟩
 rw [<- hR]
 have Z9 := Za hR
 clear h ok hR hU
 go_enter func179, ntmps179
 go_wp2_with fail
 refine (Vo pb tb cap a _ 1 ts [[45]] _ _ C0.o.ps.rd (by simp) (by simp)).mono ?_
 rw [Ul, Nn.o]
 rintro e w1 ⟨rfl, hb⟩
 have C1 := Za (C0.o.below hb)
 clear hb
 go_wp2_with fail
 refine (Vo pb tb cap a _ 1 ts [[110, 111, 116]] _ _ C1.o.ps.rd (by simp) (by simp)).mono ?_
 rw [Ul, HS.o]
 rintro e w2 ⟨rfl, hb⟩
 have C2 := Za (C1.o.below hb)
 clear hb
 go_wp2_with fail
 refine (Mm.o _ C2.o.ps).mono ?_
 rintro e w3 ⟨rfl, Zb, Zc⟩
 have C3 := Za (C2.o.step Zb Zc)
 have C4 := Za (C3.o.alloc (Zp t))
 clear Zb Zc
 obtain ⟨⟨k0, k1, k2, k3⟩, _, P8⟩ := Z6 C4.o.b0
 go_wp2_with fail
 have Nh : w3.heap.size ≠ w.heap.size := by have := C3.o.sz; omega
 have Vx : (((w3.alloc (Zp t)).drew).cell? ⟨w3.heap.size, 0, none⟩ = some (.int .i64 t.kind) /\ ((w3.alloc (Zp t)).drew).cell? ⟨w3.heap.size, 1, none⟩ = some (.string ⟨t.text.toArray⟩) /\ ((w3.alloc (Zp t)).drew).cell? ⟨w3.heap.size, 2, none⟩ = some (.int .i64 t.line) /\ ((w3.alloc (Zp t)).drew).cell? ⟨w3.heap.size, 3, none⟩ = some (.int .i64 t.col)) := (Y1 (C4.o.drew.b0))
 have HC : xQ (Calls prog 178 #[pP pb] (w3.alloc (Zp t)).drew fun e w9 => (∃ chain, e = .panicked chain /\ Z7 pb tb cap ts d w Z4 R e w9) ∨ ∃ (y : NV) (D : Ty) (b2 : Nat), e = .returned (y.val) /\ ((w9.cell? ⟨w3.heap.size, 0, none⟩ = some (.int .i64 t.kind) /\ w9.cell? ⟨w3.heap.size, 1, none⟩ = some (.string ⟨t.text.toArray⟩) /\ w9.cell? ⟨w3.heap.size, 2, none⟩ = some (.int .i64 t.line) /\ w9.cell? ⟨w3.heap.size, 3, none⟩ = some (.int .i64 t.col))) /\ xQ (R = .inl (Zn 15 [] 0 t.line t.col [] [] [D], b2) /\ Yy pb tb cap d ts w w9 b2 [(w3.heap.size, Zp t), (w.heap.size, Zi.obj)] [(y, D)] [])) := by
  refine (HU1.o.calls (a + 1) _ C4.o.drew.ps).mono ?_;intro e w9 Zg;rcases Yj Zg with ⟨er, li, co, hr, rfl, Zb⟩ | ⟨D, b2, v, hr, rfl, Zb, Zc, hv⟩
  ·exact .inl ⟨_, rfl, C4.o.drew.st.trans Zb, by rw [Z9.o, hr]; rfl⟩
  obtain ⟨y, rfl, hv⟩ := hv;have CN := (C4.o.drew.step Zb Zc).addN hv C4.o.drew.sz;exact .inr ⟨y, D, b2, rfl, (Y1 (CN.b0)), by rw [Z9.o, hr]; rfl, CN⟩
 go_wp2_with fail
 go_region_held (fun W => (W.cell? ⟨w3.heap.size, 0, none⟩ = some (.int .i64 t.kind) /\ W.cell? ⟨w3.heap.size, 1, none⟩ = some (.string ⟨t.text.toArray⟩) /\ W.cell? ⟨w3.heap.size, 2, none⟩ = some (.int .i64 t.line) /\ W.cell? ⟨w3.heap.size, 3, none⟩ = some (.int .i64 t.col))) (first | with_reducible assumption | with_reducible exact Wt.o _ | with_reducible exact Xp.o _ _ _ _ _ _ _ _) (first
  | (go_at_call 178; refine HC.o.mono ?_; rintro e w9 (⟨ch, rfl, hf⟩ | ⟨y, D, b2, rfl, t5, HX⟩); exact ⟨rfl, hf⟩; have Wt : xQ (∀ o, (((w9.alloc o)).cell? ⟨w3.heap.size, 0, none⟩ = some (.int .i64 t.kind) /\ ((w9.alloc o)).cell? ⟨w3.heap.size, 1, none⟩ = some (.string ⟨t.text.toArray⟩) /\ ((w9.alloc o)).cell? ⟨w3.heap.size, 2, none⟩ = some (.int .i64 t.line) /\ ((w9.alloc o)).cell? ⟨w3.heap.size, 3, none⟩ = some (.int .i64 t.col))) := (fun o => (Y1 ((HX.o.2.alloc o).b1))))
  | (go_at_call 123; refine (Nl t ⟨15, ⟨#[]⟩, 0, 0, 0, none, 0, 0, none, 0, 0, some ⟨w9.heap.size, 0, none⟩, 1, 1⟩ _).mono ?_; rintro e w10 ⟨rfl, hb⟩; have Zv := Za ((HX.o.2.alloc _).below hb); have t6 : (w10.cell? ⟨w3.heap.size, 0, none⟩ = some (.int .i64 t.kind) /\ w10.cell? ⟨w3.heap.size, 1, none⟩ = some (.string ⟨t.text.toArray⟩) /\ w10.cell? ⟨w3.heap.size, 2, none⟩ = some (.int .i64 t.line) /\ w10.cell? ⟨w3.heap.size, 3, none⟩ = some (.int .i64 t.col)) := (Y1 (Zv.o.b1)); have Tm := Za (Zm (x := Zi) (Zv.o.b2)); obtain ⟨⟨r0, r1, r2, r3, r4, r5, r6, r7⟩, ⟨f0, f1, f2, f3, f4, f5, f6, f7⟩, Yn⟩ := Tm.o; have Xp : xQ (∀ v0 v1 v2 v3 v4 v5 v6 v7, (((Yo w10 w.heap.size v0 v1 v2 v3 v4 v5 v6 v7)).cell? ⟨w3.heap.size, 0, none⟩ = some (.int .i64 t.kind) /\ ((Yo w10 w.heap.size v0 v1 v2 v3 v4 v5 v6 v7)).cell? ⟨w3.heap.size, 1, none⟩ = some (.string ⟨t.text.toArray⟩) /\ ((Yo w10 w.heap.size v0 v1 v2 v3 v4 v5 v6 v7)).cell? ⟨w3.heap.size, 2, none⟩ = some (.int .i64 t.line) /\ ((Yo w10 w.heap.size v0 v1 v2 v3 v4 v5 v6 v7)).cell? ⟨w3.heap.size, 3, none⟩ = some (.int .i64 t.col))) := (fun v0 v1 v2 v3 v4 v5 v6 v7 => (Y1 ((Bs Nh v0 v1 v2 v3 v4 v5 v6 v7).trans (Zv.o.b1)))); clear hb))
 all_goals
  go_wp2_with fail;rw [HX.o.1];refine r38 rfl rfl (Xn (x := Hr 15 t w9.heap.size) Zv.o.b2) rfl ⟨Wg Zv.o.st hp (xR) (Hr 15 t w9.heap.size), Wn Zv.o.ps hp (Hr 15 t w9.heap.size), _, rfl, Hr 15 t w9.heap.size, rfl, ?_⟩;exact ((Nz Zv.o.n0 Zv.o.b0 (by have := HX.o.2.sz; omega) (Hr 15 t w9.heap.size) [] [] ⟨rfl, rfl⟩ ⟨rfl, xZ _, 0, .inl rfl⟩ ⟨rfl, xZ _, .inl rfl⟩).put8 (xU _) (Hr 15 t w9.heap.size)).lower (Nat.le_succ _)
theorem rS (pb tb cap d : Nat) (ts : List Tok) (P : Nat -> Pr Ty) (hP : Xg pb tb cap d ts Z4 180 P) (ok : Yh ts) (a : Nat) (h1 : Zh ts a [45] = false) (h2 : Zh ts a [110, 111, 116] = false) (w : World) (h : Ps w pb tb cap ts a d) :
  Calls prog 179 #[pP pb] w (Z7 pb tb cap ts d w Z4 ((P a).go fun x b => .inl (x, b))) := by
 have H := Za h
 have OK := Za ok
 have hp := h.ltp
 have HP1 := Za hP
 have Y7 := Za h1
 have P3 := Za h2
 have C0 := Za (Vz h Zi.obj)
 obtain ⟨R, hR⟩ : ∃ R : Pr Ty, R = ((P a).go fun x b => .inl (x, b)) := ⟨_, rfl⟩
 rw [<- hR]
 have Z9 := Za hR
 clear h ok hR hP h1 h2
 go_enter func179, ntmps179
 go_wp2_with fail
 refine (Vo pb tb cap a _ 1 ts [[45]] _ _ C0.o.ps.rd (by simp) (by simp)).mono ?_
 rw [Ul, Y7.o]
 rintro e w1 ⟨rfl, hb⟩
 have C1 := Za (C0.o.below hb)
 clear hb
 go_wp2_with fail
 refine (Vo pb tb cap a _ 1 ts [[110, 111, 116]] _ _ C1.o.ps.rd (by simp) (by simp)).mono ?_
 rw [Ul, P3.o]
 rintro e w2 ⟨rfl, hb⟩
 have C2 := Za (C1.o.below hb)
 clear hb
 go_wp2_with fail
 refine (HP1.o.calls a _ C2.o.ps).mono ?_
 intro e w3 Zg
 rcases Yj Zg with ⟨er, li, co, hr, rfl, Zb⟩ | ⟨D, b, v, hr, rfl, Zb, Zc, hv⟩
 ·have HE : xQ (R = .inr (er, li, co)) := by rw [Z9.o, hr]; exact rfl
  have HF := Za (C2.o.st.trans Zb);clear hr Zb Zg;go_wp2_with fail;exact ⟨rfl, HF.o, by rw [HE.o]⟩
 have Yk : xQ (R = .inl (D, b)) := by rw [Z9.o, hr]; exact rfl
 obtain ⟨x, rfl, hv⟩ := hv
 have C3 := Za ((C2.o.step Zb Zc).addN hv C2.o.sz)
 clear hr Zb Zc Zg hv
 obtain ⟨⟨r0, r1, r2, r3, r4, r5, r6, r7⟩, ⟨f0, f1, f2, f3, f4, f5, f6, f7⟩, Yn⟩ := Zm (x := Zi) (C3.o.b0)
 go_wp2_with fail
 rw [Yk.o]
 refine r38 rfl rfl (Xn (x := x) C3.o.b0) rfl ⟨Wg C3.o.st hp (xR) (x), Wn C3.o.ps hp (x), _, rfl, x, rfl, ?_⟩
 exact ((C3.o.n0).put8 (xU _) (x)).lower (Nat.le_succ _)
theorem rN (pb tb cap d : Nat) (ts : List Tok) (U P : Nat -> Pr Ty) (hU : Xg pb tb cap d ts Z4 178 U) (hP : Xg pb tb cap d ts Z4 180 P) (ok : Yh ts) (a : Nat) (w : World) (h : Ps w pb tb cap ts a d) :
  Calls prog 179 #[pP pb] w (Z7 pb tb cap ts d w Z4 (if Zh ts a [45] then (U (a + 1)).go fun x b => .inl (Zn 16 [] 0 (Yg ts a) (Yf ts a) [] [] [x], b)
   else if Zh ts a [110, 111, 116] then (U (a + 1)).go fun x b => .inl (Zn 15 [] 0 (Yg ts a) (Yf ts a) [] [] [x], b) else P a)) := by
 by_cases h1 : Zh ts a [45] = true
 ·rw [if_pos h1]
  exact rQ pb tb cap d ts U hU ok a h1 w h
 ·rw [if_neg h1]
  by_cases h2 : Zh ts a [110, 111, 116] = true
  ·rw [if_pos h2]
   exact rR pb tb cap d ts U hU ok a h2 w h
  ·rw [if_neg h2]
   have := rS pb tb cap d ts P hP ok a (by simpa using h1) (by simpa using h2) w h
   cases hp : P a with
   | inl p => rw [hp] at this; exact this
   | inr p => rw [hp] at this; exact this
theorem tA {lo kb : Nat} {w : World} {x y u : NV} {D1 D2 D3 : Ty} (h1 : Yi lo w x D1) (h2 : Yi lo w y D2) (h3 : Yi lo w u D3) (hk : w.heap[kb]? = some (.cells #[.int .i64 x.k, .string x.tx, .int .i64 x.N, .int .i64 x.li, .int .i64 x.co, .slice x.ta x.tl x.tc, .slice x.na x.nl x.nc, .slice x.ka x.kl x.kc, .int .i64 y.k, .string y.tx, .int .i64 y.N, .int .i64 y.li, .int .i64 y.co, .slice y.ta y.tl y.tc, .slice y.na y.nl y.nc, .slice y.ka y.kl y.kc, .int .i64 u.k, .string u.tx, .int .i64 u.N, .int .i64 u.li, .int .i64 u.co, .slice u.ta u.tl u.tc, .slice u.na u.nl u.nc, .slice u.ka u.kl u.kc] 38)) (Tj : lo <= kb)
  (z : NV) (hz : z.ka = some ⟨kb, 0, none⟩ /\ z.kl = 3) (ht : z.tl = 0) (hn : z.nl = 0) :
  Yi lo w z (Zn z.k z.tx.data.toList z.N z.li z.co [] [] [D1, D2, D3]) := by
 obtain ⟨m1, h1⟩ := h1
 obtain ⟨m2, h2⟩ := h2
 obtain ⟨m3, h3⟩ := h3
 refine ⟨max (max m1 m2) m3 + 1, [], [], [D1, D2, D3], rfl, ⟨ht, hn, hz.2⟩, ⟨xZ _, xZ _, (by show 3 <= _; omega)⟩, .inl rfl, .inl rfl, .inr ⟨kb, 0, hz.1, Tj, ⟨_, _, hk⟩, fun i hi => ?_⟩⟩
 match i, hi with
 | 0, _ => exact ⟨x, ⟨by rw [cell_of_row _ _ _ _ _ _ hk]; rfl, by rw [cell_of_row _ _ _ _ _ _ hk]; rfl, by rw [cell_of_row _ _ _ _ _ _ hk]; rfl, by rw [cell_of_row _ _ _ _ _ _ hk]; rfl, by rw [cell_of_row _ _ _ _ _ _ hk]; rfl, by rw [cell_of_row _ _ _ _ _ _ hk]; rfl, by rw [cell_of_row _ _ _ _ _ _ hk]; rfl, by rw [cell_of_row _ _ _ _ _ _ hk]; rfl⟩, Ga h1 (Nat.le_trans (Nat.le_max_left _ _) (Nat.le_max_left _ _))⟩
 | 1, _ => exact ⟨y, ⟨by rw [cell_of_row _ _ _ _ _ _ hk]; rfl, by rw [cell_of_row _ _ _ _ _ _ hk]; rfl, by rw [cell_of_row _ _ _ _ _ _ hk]; rfl, by rw [cell_of_row _ _ _ _ _ _ hk]; rfl, by rw [cell_of_row _ _ _ _ _ _ hk]; rfl, by rw [cell_of_row _ _ _ _ _ _ hk]; rfl, by rw [cell_of_row _ _ _ _ _ _ hk]; rfl, by rw [cell_of_row _ _ _ _ _ _ hk]; rfl⟩, Ga h2 (Nat.le_trans (Nat.le_max_right _ _) (Nat.le_max_left _ _))⟩
 | 2, _ => exact ⟨u, ⟨by rw [cell_of_row _ _ _ _ _ _ hk]; rfl, by rw [cell_of_row _ _ _ _ _ _ hk]; rfl, by rw [cell_of_row _ _ _ _ _ _ hk]; rfl, by rw [cell_of_row _ _ _ _ _ _ hk]; rfl, by rw [cell_of_row _ _ _ _ _ _ hk]; rfl, by rw [cell_of_row _ _ _ _ _ _ hk]; rfl, by rw [cell_of_row _ _ _ _ _ _ hk]; rfl, by rw [cell_of_row _ _ _ _ _ _ hk]; rfl⟩, Ga h3 (Nat.le_max_right _ _)⟩
abbrev Rh (t : Tok) (kb : Nat) : NV := ⟨11, ⟨#[]⟩, 0, t.line, t.col, none, 0, 0, none, 0, 0, some ⟨kb, 0, none⟩, 3, 3⟩
theorem bQ (pb tb cap d : Nat) (ts : List Tok) (E : Nat -> Pr Ty) (hE : Xg pb tb cap d ts Z4 19 E) (ok : Yh ts) (a : Nat) (w : World) (h : Ps w pb tb cap ts a d) :
  Calls prog 82 #[pP pb] w (Z7 pb tb cap ts d w Z4 ((Ze ts a [105, 102]).go fun _ b => (E b).go fun c b => (Ze ts b [116, 104, 101, 110]).go fun _ b => (E b).go fun x b => (Ze ts b [101, 108, 115, 101]).go fun _ b => (E b).go fun y b => .inl (Zn 11 [] 0 (Zk ts a).line (Zk ts a).col [] [] [c, x, y], b))) := by
 have H := Za h
 have OK := Za ok
 have hp := h.ltp
 have Tn := Za hE
 have HM0 := Za (fun w h => Vw pb tb cap a d ts [105, 102] w h ok)
 obtain ⟨t, ht⟩ := xE (Zk ts a)
 rw [<- ht] at HM0 ⊢
 clear ht
 have C0 := Za (Vz h Zi.obj)
 obtain ⟨R, hR⟩ : ∃ R : Pr Ty, R = ((Ze ts a [105, 102]).go fun _ b => (E b).go fun c b => (Ze ts b [116, 104, 101, 110]).go fun _ b => (E b).go fun x b => (Ze ts b [101, 108, 115, 101]).go fun _ b => (E b).go fun y b => .inl (Zn 11 [] 0 t.line t.col [] [] [c, x, y], b)) := ⟨_, rfl⟩
 rw [<- hR]
 have Z9 := Za hR
 clear h ok hR hE
 go_enter func82, ntmps82
 go_wp2_with fail
 refine (HM0.o _ C0.o.ps).mono ?_
 intro e w1 Zg
 rcases Yj Zg with ⟨er, li, co, hr, rfl, Zb⟩ | ⟨u, b1, v, hr, rfl, Zb, Zc, hv⟩
 ·have HE : xQ (R = .inr (er, li, co)) := by rw [Z9.o, hr]; exact rfl
  have HF := Za (C0.o.st.trans Zb);clear hr Zb Zg;go_wp2_with fail;exact ⟨rfl, HF.o, by rw [HE.o]⟩
 have Yk : xQ (R = (E b1).go fun c b => (Ze ts b [116, 104, 101, 110]).go fun _ b => (E b).go fun x b => (Ze ts b [101, 108, 115, 101]).go fun _ b => (E b).go fun y b => .inl (Zn 11 [] 0 t.line t.col [] [] [c, x, y], b)) := by rw [Z9.o, hr]; exact rfl
 subst hv
 have C1 := Za ((C0.o.step Zb Zc))
 have C2 := Za (C1.o.alloc (Zp t))
 clear hr Zb Zc Zg  
 go_wp2_with fail
 refine (Tn.o.calls b1 _ C2.o.ps).mono ?_
 intro e w2 Zg
 rcases Yj Zg with ⟨er, li, co, hr, rfl, Zb⟩ | ⟨D1, b2, v, hr, rfl, Zb, Zc, hv⟩
 ·have HE : xQ (R = .inr (er, li, co)) := by rw [Yk.o, hr]; exact rfl
  have HF := Za (C2.o.st.trans Zb);clear hr Zb Zg;go_wp2_with fail;exact ⟨rfl, HF.o, by rw [HE.o]⟩
 have Zz : xQ (R = (Ze ts b2 [116, 104, 101, 110]).go fun _ b => (E b).go fun x b => (Ze ts b [101, 108, 115, 101]).go fun _ b => (E b).go fun y b => .inl (Zn 11 [] 0 t.line t.col [] [] [D1, x, y], b)) := by rw [Yk.o, hr]; exact rfl
 obtain ⟨x1, rfl, hv⟩ := hv
 have C3 := Za ((C2.o.step Zb Zc).addN hv C2.o.sz)
 have C4 := Za (C3.o.alloc (x1.obj))
 clear hr Zb Zc Zg hv
 go_wp2_with fail
 refine (Vw pb tb cap b2 d ts [116, 104, 101, 110] _ C4.o.ps OK.o).mono ?_
 intro e w3 Zg
 rcases Yj Zg with ⟨er, li, co, hr, rfl, Zb⟩ | ⟨u3, b3, v3, hr, rfl, Zb, Zc, hv⟩
 ·have HE : xQ (R = .inr (er, li, co)) := by rw [Zz.o, hr]; exact rfl
  have HF := Za (C4.o.st.trans Zb);clear hr Zb Zg;go_wp2_with fail;exact ⟨rfl, HF.o, by rw [HE.o]⟩
 have Yt : xQ (R = (E b3).go fun x b => (Ze ts b [101, 108, 115, 101]).go fun _ b => (E b).go fun y b => .inl (Zn 11 [] 0 t.line t.col [] [] [D1, x, y], b)) := by rw [Zz.o, hr]; exact rfl
 have C5 := Za ((C4.o.step Zb Zc))
 clear hr Zb Zc Zg hv
 go_wp2_with fail
 refine (Tn.o.calls b3 _ C5.o.ps).mono ?_
 intro e w4 Zg
 rcases Yj Zg with ⟨er, li, co, hr, rfl, Zb⟩ | ⟨D2, b4, v, hr, rfl, Zb, Zc, hv⟩
 ·have HE : xQ (R = .inr (er, li, co)) := by rw [Yt.o, hr]; exact rfl
  have HF := Za (C5.o.st.trans Zb);clear hr Zb Zg;go_wp2_with fail;exact ⟨rfl, HF.o, by rw [HE.o]⟩
 have Xi : xQ (R = (Ze ts b4 [101, 108, 115, 101]).go fun _ b => (E b).go fun y b => .inl (Zn 11 [] 0 t.line t.col [] [] [D1, D2, y], b)) := by rw [Yt.o, hr]; exact rfl
 obtain ⟨x2, rfl, hv⟩ := hv
 have C6 := Za ((C5.o.step Zb Zc).addN hv C5.o.sz)
 have C7 := Za (C6.o.alloc (x2.obj))
 clear hr Zb Zc Zg hv
 go_wp2_with fail
 refine (Vw pb tb cap b4 d ts [101, 108, 115, 101] _ C7.o.ps OK.o).mono ?_
 intro e w5 Zg
 rcases Yj Zg with ⟨er, li, co, hr, rfl, Zb⟩ | ⟨u5, b5, v5, hr, rfl, Zb, Zc, hv⟩
 ·have HE : xQ (R = .inr (er, li, co)) := by rw [Xi.o, hr]; exact rfl
  have HF := Za (C7.o.st.trans Zb);clear hr Zb Zg;go_wp2_with fail;exact ⟨rfl, HF.o, by rw [HE.o]⟩
 have Xq : xQ (R = (E b5).go fun y b => .inl (Zn 11 [] 0 t.line t.col [] [] [D1, D2, y], b)) := by rw [Xi.o, hr]; exact rfl
 have C8 := Za ((C7.o.step Zb Zc))
 clear hr Zb Zc Zg hv
 obtain ⟨⟨k0, k1, k2, k3⟩, _, P8⟩ := Z6 C8.o.b2
 obtain ⟨⟨n0, n1, n2, n3, n4, n5, n6, n7⟩, _, Kj⟩ := Zm (x := x1) C8.o.b1
 obtain ⟨⟨m0, m1, m2, m3, m4, m5, m6, m7⟩, _, B6⟩ := Zm (x := x2) C8.o.b0
 go_wp2_with fail
 have Nh : w1.heap.size ≠ w.heap.size := by have := C1.o.sz; omega
 have Vq : w2.heap.size ≠ w.heap.size := by have := C3.o.sz; omega
 have Wl : w4.heap.size ≠ w.heap.size := by have := C6.o.sz; omega
 have Vx : (((w5).drew).cell? ⟨w1.heap.size, 0, none⟩ = some (.int .i64 t.kind) /\ ((w5).drew).cell? ⟨w1.heap.size, 1, none⟩ = some (.string ⟨t.text.toArray⟩) /\ ((w5).drew).cell? ⟨w1.heap.size, 2, none⟩ = some (.int .i64 t.line) /\ ((w5).drew).cell? ⟨w1.heap.size, 3, none⟩ = some (.int .i64 t.col)) /\ (((w5).drew).cell? ⟨w2.heap.size, 0, none⟩ = some (.int .i64 x1.k) /\ ((w5).drew).cell? ⟨w2.heap.size, 1, none⟩ = some (.string x1.tx) /\ ((w5).drew).cell? ⟨w2.heap.size, 2, none⟩ = some (.int .i64 x1.N) /\ ((w5).drew).cell? ⟨w2.heap.size, 3, none⟩ = some (.int .i64 x1.li) /\ ((w5).drew).cell? ⟨w2.heap.size, 4, none⟩ = some (.int .i64 x1.co) /\ ((w5).drew).cell? ⟨w2.heap.size, 5, none⟩ = some (.slice x1.ta x1.tl x1.tc) /\ ((w5).drew).cell? ⟨w2.heap.size, 6, none⟩ = some (.slice x1.na x1.nl x1.nc) /\ ((w5).drew).cell? ⟨w2.heap.size, 7, none⟩ = some (.slice x1.ka x1.kl x1.kc)) /\ (((w5).drew).cell? ⟨w4.heap.size, 0, none⟩ = some (.int .i64 x2.k) /\ ((w5).drew).cell? ⟨w4.heap.size, 1, none⟩ = some (.string x2.tx) /\ ((w5).drew).cell? ⟨w4.heap.size, 2, none⟩ = some (.int .i64 x2.N) /\ ((w5).drew).cell? ⟨w4.heap.size, 3, none⟩ = some (.int .i64 x2.li) /\ ((w5).drew).cell? ⟨w4.heap.size, 4, none⟩ = some (.int .i64 x2.co) /\ ((w5).drew).cell? ⟨w4.heap.size, 5, none⟩ = some (.slice x2.ta x2.tl x2.tc) /\ ((w5).drew).cell? ⟨w4.heap.size, 6, none⟩ = some (.slice x2.na x2.nl x2.nc) /\ ((w5).drew).cell? ⟨w4.heap.size, 7, none⟩ = some (.slice x2.ka x2.kl x2.kc)) := ⟨(Y1 (C8.o.drew.b2)), (Zm (x := x1) (C8.o.drew.b1)).1, (Zm (x := x2) (C8.o.drew.b0)).1⟩
 have HC : xQ (Calls prog 19 #[pP pb] (w5).drew fun e w9 => (∃ chain, e = .panicked chain /\ Z7 pb tb cap ts d w Z4 R e w9) ∨ ∃ (y : NV) (D3 : Ty) (b6 : Nat), e = .returned (y.val) /\ ((w9.cell? ⟨w1.heap.size, 0, none⟩ = some (.int .i64 t.kind) /\ w9.cell? ⟨w1.heap.size, 1, none⟩ = some (.string ⟨t.text.toArray⟩) /\ w9.cell? ⟨w1.heap.size, 2, none⟩ = some (.int .i64 t.line) /\ w9.cell? ⟨w1.heap.size, 3, none⟩ = some (.int .i64 t.col)) /\ (w9.cell? ⟨w2.heap.size, 0, none⟩ = some (.int .i64 x1.k) /\ w9.cell? ⟨w2.heap.size, 1, none⟩ = some (.string x1.tx) /\ w9.cell? ⟨w2.heap.size, 2, none⟩ = some (.int .i64 x1.N) /\ w9.cell? ⟨w2.heap.size, 3, none⟩ = some (.int .i64 x1.li) /\ w9.cell? ⟨w2.heap.size, 4, none⟩ = some (.int .i64 x1.co) /\ w9.cell? ⟨w2.heap.size, 5, none⟩ = some (.slice x1.ta x1.tl x1.tc) /\ w9.cell? ⟨w2.heap.size, 6, none⟩ = some (.slice x1.na x1.nl x1.nc) /\ w9.cell? ⟨w2.heap.size, 7, none⟩ = some (.slice x1.ka x1.kl x1.kc)) /\ (w9.cell? ⟨w4.heap.size, 0, none⟩ = some (.int .i64 x2.k) /\ w9.cell? ⟨w4.heap.size, 1, none⟩ = some (.string x2.tx) /\ w9.cell? ⟨w4.heap.size, 2, none⟩ = some (.int .i64 x2.N) /\ w9.cell? ⟨w4.heap.size, 3, none⟩ = some (.int .i64 x2.li) /\ w9.cell? ⟨w4.heap.size, 4, none⟩ = some (.int .i64 x2.co) /\ w9.cell? ⟨w4.heap.size, 5, none⟩ = some (.slice x2.ta x2.tl x2.tc) /\ w9.cell? ⟨w4.heap.size, 6, none⟩ = some (.slice x2.na x2.nl x2.nc) /\ w9.cell? ⟨w4.heap.size, 7, none⟩ = some (.slice x2.ka x2.kl x2.kc))) /\ xQ (R = .inl (Zn 11 [] 0 t.line t.col [] [] [D1, D2, D3], b6) /\ Yy pb tb cap d ts w w9 b6 [(w4.heap.size, x2.obj), (w2.heap.size, x1.obj), (w1.heap.size, Zp t), (w.heap.size, Zi.obj)] [(y, D3), (x2, D2), (x1, D1)] [])) := by
  refine (Tn.o.calls b5 _ C8.o.drew.ps).mono ?_;intro e w9 Zg;rcases Yj Zg with ⟨er, li, co, hr, rfl, Zb⟩ | ⟨D3, b6, v, hr, rfl, Zb, Zc, hv⟩
  ·exact .inl ⟨_, rfl, C8.o.drew.st.trans Zb, by rw [Xq.o, hr]; rfl⟩
  obtain ⟨y, rfl, hv⟩ := hv;have CN := (C8.o.drew.step Zb Zc).addN hv C8.o.drew.sz;exact .inr ⟨y, D3, b6, rfl, ⟨(Y1 (CN.b2)), (Zm (x := x1) (CN.b1)).1, (Zm (x := x2) (CN.b0)).1⟩, by rw [Xq.o, hr]; rfl, CN⟩
 go_wp2_with fail
 go_region_held (fun W => (W.cell? ⟨w1.heap.size, 0, none⟩ = some (.int .i64 t.kind) /\ W.cell? ⟨w1.heap.size, 1, none⟩ = some (.string ⟨t.text.toArray⟩) /\ W.cell? ⟨w1.heap.size, 2, none⟩ = some (.int .i64 t.line) /\ W.cell? ⟨w1.heap.size, 3, none⟩ = some (.int .i64 t.col)) /\ (W.cell? ⟨w2.heap.size, 0, none⟩ = some (.int .i64 x1.k) /\ W.cell? ⟨w2.heap.size, 1, none⟩ = some (.string x1.tx) /\ W.cell? ⟨w2.heap.size, 2, none⟩ = some (.int .i64 x1.N) /\ W.cell? ⟨w2.heap.size, 3, none⟩ = some (.int .i64 x1.li) /\ W.cell? ⟨w2.heap.size, 4, none⟩ = some (.int .i64 x1.co) /\ W.cell? ⟨w2.heap.size, 5, none⟩ = some (.slice x1.ta x1.tl x1.tc) /\ W.cell? ⟨w2.heap.size, 6, none⟩ = some (.slice x1.na x1.nl x1.nc) /\ W.cell? ⟨w2.heap.size, 7, none⟩ = some (.slice x1.ka x1.kl x1.kc)) /\ (W.cell? ⟨w4.heap.size, 0, none⟩ = some (.int .i64 x2.k) /\ W.cell? ⟨w4.heap.size, 1, none⟩ = some (.string x2.tx) /\ W.cell? ⟨w4.heap.size, 2, none⟩ = some (.int .i64 x2.N) /\ W.cell? ⟨w4.heap.size, 3, none⟩ = some (.int .i64 x2.li) /\ W.cell? ⟨w4.heap.size, 4, none⟩ = some (.int .i64 x2.co) /\ W.cell? ⟨w4.heap.size, 5, none⟩ = some (.slice x2.ta x2.tl x2.tc) /\ W.cell? ⟨w4.heap.size, 6, none⟩ = some (.slice x2.na x2.nl x2.nc) /\ W.cell? ⟨w4.heap.size, 7, none⟩ = some (.slice x2.ka x2.kl x2.kc))) (first | with_reducible assumption | with_reducible exact Wt.o _ | with_reducible exact Xp.o _ _ _ _ _ _ _ _) (first
  | (go_at_call 19; refine HC.o.mono ?_; rintro e w9 (⟨ch, rfl, hf⟩ | ⟨y, D3, b6, rfl, t5, HX⟩); exact ⟨rfl, hf⟩; have Wt : xQ (∀ o, (((w9.alloc o)).cell? ⟨w1.heap.size, 0, none⟩ = some (.int .i64 t.kind) /\ ((w9.alloc o)).cell? ⟨w1.heap.size, 1, none⟩ = some (.string ⟨t.text.toArray⟩) /\ ((w9.alloc o)).cell? ⟨w1.heap.size, 2, none⟩ = some (.int .i64 t.line) /\ ((w9.alloc o)).cell? ⟨w1.heap.size, 3, none⟩ = some (.int .i64 t.col)) /\ (((w9.alloc o)).cell? ⟨w2.heap.size, 0, none⟩ = some (.int .i64 x1.k) /\ ((w9.alloc o)).cell? ⟨w2.heap.size, 1, none⟩ = some (.string x1.tx) /\ ((w9.alloc o)).cell? ⟨w2.heap.size, 2, none⟩ = some (.int .i64 x1.N) /\ ((w9.alloc o)).cell? ⟨w2.heap.size, 3, none⟩ = some (.int .i64 x1.li) /\ ((w9.alloc o)).cell? ⟨w2.heap.size, 4, none⟩ = some (.int .i64 x1.co) /\ ((w9.alloc o)).cell? ⟨w2.heap.size, 5, none⟩ = some (.slice x1.ta x1.tl x1.tc) /\ ((w9.alloc o)).cell? ⟨w2.heap.size, 6, none⟩ = some (.slice x1.na x1.nl x1.nc) /\ ((w9.alloc o)).cell? ⟨w2.heap.size, 7, none⟩ = some (.slice x1.ka x1.kl x1.kc)) /\ (((w9.alloc o)).cell? ⟨w4.heap.size, 0, none⟩ = some (.int .i64 x2.k) /\ ((w9.alloc o)).cell? ⟨w4.heap.size, 1, none⟩ = some (.string x2.tx) /\ ((w9.alloc o)).cell? ⟨w4.heap.size, 2, none⟩ = some (.int .i64 x2.N) /\ ((w9.alloc o)).cell? ⟨w4.heap.size, 3, none⟩ = some (.int .i64 x2.li) /\ ((w9.alloc o)).cell? ⟨w4.heap.size, 4, none⟩ = some (.int .i64 x2.co) /\ ((w9.alloc o)).cell? ⟨w4.heap.size, 5, none⟩ = some (.slice x2.ta x2.tl x2.tc) /\ ((w9.alloc o)).cell? ⟨w4.heap.size, 6, none⟩ = some (.slice x2.na x2.nl x2.nc) /\ ((w9.alloc o)).cell? ⟨w4.heap.size, 7, none⟩ = some (.slice x2.ka x2.kl x2.kc))) := (fun o => ⟨(Y1 ((HX.o.2.alloc o).b3)), (Zm (x := x1) ((HX.o.2.alloc o).b2)).1, (Zm (x := x2) ((HX.o.2.alloc o).b1)).1⟩))
  | (go_at_call 123; refine (Nl t ⟨11, ⟨#[]⟩, 0, 0, 0, none, 0, 0, none, 0, 0, some ⟨w9.heap.size, 0, none⟩, 3, 3⟩ _).mono ?_; rintro e w10 ⟨rfl, hb⟩; have Zv := Za ((HX.o.2.alloc _).below hb); have t6 : (w10.cell? ⟨w1.heap.size, 0, none⟩ = some (.int .i64 t.kind) /\ w10.cell? ⟨w1.heap.size, 1, none⟩ = some (.string ⟨t.text.toArray⟩) /\ w10.cell? ⟨w1.heap.size, 2, none⟩ = some (.int .i64 t.line) /\ w10.cell? ⟨w1.heap.size, 3, none⟩ = some (.int .i64 t.col)) /\ (w10.cell? ⟨w2.heap.size, 0, none⟩ = some (.int .i64 x1.k) /\ w10.cell? ⟨w2.heap.size, 1, none⟩ = some (.string x1.tx) /\ w10.cell? ⟨w2.heap.size, 2, none⟩ = some (.int .i64 x1.N) /\ w10.cell? ⟨w2.heap.size, 3, none⟩ = some (.int .i64 x1.li) /\ w10.cell? ⟨w2.heap.size, 4, none⟩ = some (.int .i64 x1.co) /\ w10.cell? ⟨w2.heap.size, 5, none⟩ = some (.slice x1.ta x1.tl x1.tc) /\ w10.cell? ⟨w2.heap.size, 6, none⟩ = some (.slice x1.na x1.nl x1.nc) /\ w10.cell? ⟨w2.heap.size, 7, none⟩ = some (.slice x1.ka x1.kl x1.kc)) /\ (w10.cell? ⟨w4.heap.size, 0, none⟩ = some (.int .i64 x2.k) /\ w10.cell? ⟨w4.heap.size, 1, none⟩ = some (.string x2.tx) /\ w10.cell? ⟨w4.heap.size, 2, none⟩ = some (.int .i64 x2.N) /\ w10.cell? ⟨w4.heap.size, 3, none⟩ = some (.int .i64 x2.li) /\ w10.cell? ⟨w4.heap.size, 4, none⟩ = some (.int .i64 x2.co) /\ w10.cell? ⟨w4.heap.size, 5, none⟩ = some (.slice x2.ta x2.tl x2.tc) /\ w10.cell? ⟨w4.heap.size, 6, none⟩ = some (.slice x2.na x2.nl x2.nc) /\ w10.cell? ⟨w4.heap.size, 7, none⟩ = some (.slice x2.ka x2.kl x2.kc)) := ⟨(Y1 (Zv.o.b3)), (Zm (x := x1) (Zv.o.b2)).1, (Zm (x := x2) (Zv.o.b1)).1⟩; have Tm := Za (Zm (x := Zi) (Zv.o.b4)); obtain ⟨⟨r0, r1, r2, r3, r4, r5, r6, r7⟩, ⟨f0, f1, f2, f3, f4, f5, f6, f7⟩, Yn⟩ := Tm.o; have Xp : xQ (∀ v0 v1 v2 v3 v4 v5 v6 v7, (((Yo w10 w.heap.size v0 v1 v2 v3 v4 v5 v6 v7)).cell? ⟨w1.heap.size, 0, none⟩ = some (.int .i64 t.kind) /\ ((Yo w10 w.heap.size v0 v1 v2 v3 v4 v5 v6 v7)).cell? ⟨w1.heap.size, 1, none⟩ = some (.string ⟨t.text.toArray⟩) /\ ((Yo w10 w.heap.size v0 v1 v2 v3 v4 v5 v6 v7)).cell? ⟨w1.heap.size, 2, none⟩ = some (.int .i64 t.line) /\ ((Yo w10 w.heap.size v0 v1 v2 v3 v4 v5 v6 v7)).cell? ⟨w1.heap.size, 3, none⟩ = some (.int .i64 t.col)) /\ (((Yo w10 w.heap.size v0 v1 v2 v3 v4 v5 v6 v7)).cell? ⟨w2.heap.size, 0, none⟩ = some (.int .i64 x1.k) /\ ((Yo w10 w.heap.size v0 v1 v2 v3 v4 v5 v6 v7)).cell? ⟨w2.heap.size, 1, none⟩ = some (.string x1.tx) /\ ((Yo w10 w.heap.size v0 v1 v2 v3 v4 v5 v6 v7)).cell? ⟨w2.heap.size, 2, none⟩ = some (.int .i64 x1.N) /\ ((Yo w10 w.heap.size v0 v1 v2 v3 v4 v5 v6 v7)).cell? ⟨w2.heap.size, 3, none⟩ = some (.int .i64 x1.li) /\ ((Yo w10 w.heap.size v0 v1 v2 v3 v4 v5 v6 v7)).cell? ⟨w2.heap.size, 4, none⟩ = some (.int .i64 x1.co) /\ ((Yo w10 w.heap.size v0 v1 v2 v3 v4 v5 v6 v7)).cell? ⟨w2.heap.size, 5, none⟩ = some (.slice x1.ta x1.tl x1.tc) /\ ((Yo w10 w.heap.size v0 v1 v2 v3 v4 v5 v6 v7)).cell? ⟨w2.heap.size, 6, none⟩ = some (.slice x1.na x1.nl x1.nc) /\ ((Yo w10 w.heap.size v0 v1 v2 v3 v4 v5 v6 v7)).cell? ⟨w2.heap.size, 7, none⟩ = some (.slice x1.ka x1.kl x1.kc)) /\ (((Yo w10 w.heap.size v0 v1 v2 v3 v4 v5 v6 v7)).cell? ⟨w4.heap.size, 0, none⟩ = some (.int .i64 x2.k) /\ ((Yo w10 w.heap.size v0 v1 v2 v3 v4 v5 v6 v7)).cell? ⟨w4.heap.size, 1, none⟩ = some (.string x2.tx) /\ ((Yo w10 w.heap.size v0 v1 v2 v3 v4 v5 v6 v7)).cell? ⟨w4.heap.size, 2, none⟩ = some (.int .i64 x2.N) /\ ((Yo w10 w.heap.size v0 v1 v2 v3 v4 v5 v6 v7)).cell? ⟨w4.heap.size, 3, none⟩ = some (.int .i64 x2.li) /\ ((Yo w10 w.heap.size v0 v1 v2 v3 v4 v5 v6 v7)).cell? ⟨w4.heap.size, 4, none⟩ = some (.int .i64 x2.co) /\ ((Yo w10 w.heap.size v0 v1 v2 v3 v4 v5 v6 v7)).cell? ⟨w4.heap.size, 5, none⟩ = some (.slice x2.ta x2.tl x2.tc) /\ ((Yo w10 w.heap.size v0 v1 v2 v3 v4 v5 v6 v7)).cell? ⟨w4.heap.size, 6, none⟩ = some (.slice x2.na x2.nl x2.nc) /\ ((Yo w10 w.heap.size v0 v1 v2 v3 v4 v5 v6 v7)).cell? ⟨w4.heap.size, 7, none⟩ = some (.slice x2.ka x2.kl x2.kc))) := (fun v0 v1 v2 v3 v4 v5 v6 v7 => ⟨(Y1 ((Bs Nh v0 v1 v2 v3 v4 v5 v6 v7).trans (Zv.o.b3))), (Zm (x := x1) ((Bs Vq v0 v1 v2 v3 v4 v5 v6 v7).trans (Zv.o.b2))).1, (Zm (x := x2) ((Bs Wl v0 v1 v2 v3 v4 v5 v6 v7).trans (Zv.o.b1))).1⟩); clear hb))
 all_goals
  go_wp2_with fail;rw [HX.o.1];refine r38 rfl rfl (Xn (x := Rh t w9.heap.size) Zv.o.b4) rfl ⟨Wg Zv.o.st hp (xR) (Rh t w9.heap.size), Wn Zv.o.ps hp (Rh t w9.heap.size), _, rfl, Rh t w9.heap.size, rfl, ?_⟩;exact ((tA Zv.o.n2 Zv.o.n1 Zv.o.n0 Zv.o.b0 (by have := HX.o.2.sz; omega) (Rh t w9.heap.size) ⟨rfl, rfl⟩ rfl rfl).put8 (xU _) (Rh t w9.heap.size)).lower (Nat.le_succ _)
end Go.Proofs.YtfoejkhfdiodhaaGreatDoor
