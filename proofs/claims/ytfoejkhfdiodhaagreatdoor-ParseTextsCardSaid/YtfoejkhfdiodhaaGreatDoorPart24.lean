/- Part. -/
import Derived.Test.YtfoejkhfdiodhaaGreatDoorPart23
import Derived.Test.YtfoejkhfdiodhaaGreatDoorPart17
set_option maxRecDepth 100000
set_option maxHeartbeats 4000000
namespace Go.Proofs.YtfoejkhfdiodhaaGreatDoor
open Go.Proofs.Tryz
open Go.RowKit
attribute [local go_sem ↓] Go.wp_at_zero Go.wp_at_succ
theorem B1 {α β : Type} (R : Pr α) (G : α -> Nat -> Pr β) (k : Ya -> Ya) (hk : ∀ p, k (.inr p) = .inr p) (h : ∀ x b, R = .inl (x, b) -> Zf (G x b) = k (.inl b)) : Zf (R.go G) = k (Zf R) := by
 cases R with
 | inr p => exact (hk p).symm
 | inl q => exact h q.1 q.2 rfl
theorem Ig {α β : Type} (R : Pr α) (G : α -> β) : Zf (R.go fun x b => (.inl (G x, b) : Pr β)) = Zf R := by cases R <;> rfl
theorem Pa {α β : Type} {R : Pr α} {G : α -> Nat -> Pr β} {D : β} {c : Nat} (h : R.go G = .inl (D, c)) : ∃ x b, R = .inl (x, b) /\ G x b = .inl (D, c) := by
 cases R with
 | inr p => cases h
 | inl q => exact ⟨q.1, q.2, rfl, h⟩
section
variable (ts : List Tok) (K E U : Nat -> Pr Ty) (f a : Nat)
def Cz : Pr Ty := (Zr ts (a + 1)).go fun s b => (Ve ts K b).go fun t b => (Ze ts b [61]).go fun _ b => (E b).go fun v b => (Ze ts b [59]).go fun _ b => (E b).go fun r b => .inl (Zn 5 s 0 (Yg ts a) (Yf ts a) t [] [v, r], b)
def Cy : Pr Ty := (E (a + 1)).go fun c b => (Ze ts b [116, 104, 101, 110]).go fun _ b => (E b).go fun x b => (Ze ts b [101, 108, 115, 101]).go fun _ b => (E b).go fun y b => .inl (Zn 11 [] 0 (Yg ts a) (Yf ts a) [] [] [c, x, y], b)
def Cx : Pr Ty := (Nb ts K (a + 1)).go fun h b => (Ze ts b [61, 62]).go fun _ b => (E b).go fun x b => .inl (Zn 6 h.1 0 (Yg ts a) (Yf ts a) h.2 [] [x], b)
def ex3 : Pr Ty := if Zh ts a [102, 110] then Cx ts K E a else Dy ts K U f a
def ex2 : Pr Ty := if Zh ts a [105, 102] then Cy ts E a else ex3 ts K E U f a
theorem Ia : P6 ts K E U f a = if Zh ts a [108, 101, 116] then Cz ts K E a else ex2 ts K E U f a := rfl
end
theorem gF {lo : Nat} {w' : World} {R : Pr (List Ty)} {e : Ending} (h : xG lo w' R e) : ∃ (av : Option Addr) (al ac : Nat) (cs : List (List Value)) (acc : List (Option Ty)), e = .returned (.slice av al ac) /\ Ym Uv lo 42 4 none w' (.slice av acc.length ac) cs acc /\ acc.length <= 1 /\ al = acc.length /\ ∀ l b, R = .inl (l, b) -> acc = l.map some := by
 rcases h with ⟨rfl, hn⟩ | ⟨g, k1, nm1, na1, nl1, nc1, ka1, kl1, kc1, x1, rfl, hg, hn⟩
 ·exact ⟨none, 0, 0, [], [], rfl, Lb Uv _ _ _ _, by simp, rfl, fun l b e => by rw [hn l b e]; rfl⟩
 ·refine ⟨some ⟨g, 0, none⟩, 1, 1, _, [x1], rfl, hg, by simp, rfl, fun l b e => ?_⟩
  obtain ⟨t, rfl, rfl⟩ := hn l b e;rfl
theorem dM (pb tb cap d : Nat) (ts : List Tok) (ok : Yh ts) (K E U : Nat -> Pr Ty) (f : Nat)
  (hK : ∀ S w, Z2 w pb tb cap ts d S -> Calls prog 77 #[pP pb] w (Pq pb tb cap ts d w (Zj K S)))
  (hE : ∀ S w, Z2 w pb tb cap ts d S -> Calls prog 37 #[pP pb] w (Vh pb tb cap ts d w (Zj E S)))
  (hO : ∀ S w, Z2 w pb tb cap ts d S -> Calls prog 122 #[pP pb, .int .i64 0] w (Vh pb tb cap ts d w (Zj (Dy ts K U f) S)))
  (S : Ya) (w : World) (h : Z2 w pb tb cap ts d S) :
  Calls prog 80 #[pP pb] w (Vh pb tb cap ts d w (Zj (P6 ts K E U f) S)) := by
 have OK := Za ok
 have HK := Za hK
 have HE := Za hE
 have HO := Za hO
 have X0 := Za (Lc h Zi.obj)
 have hp := h.ltp
 obtain ⟨R, hR⟩ := xE (Zj (P6 ts K E U f) S)
 rw [<- hR]
 have HR := Za hR
 clear h hR hE hO hK
 go_enter func80, ntmps80
 go_wp2_with fail
 refine (Am pb tb cap d ts S 5 _ X0.o.at_).mono ?_
 rintro e w1 ⟨li, co, rfl, Nf, Zb, Zd⟩
 have X1 := Za ((X0.o.step Zb Zd).alloc (Yc 5 li co).obj)
 have Pz := Za Nf
 have Xx := Zb.size
 rw [xS] at Xx
 clear Zb Zd Nf X0
 go_wp2_with fail
 obtain ⟨nb, Wb⟩ := xE w1.heap.size
 rw [<- Wb] at X1 Xx ⊢
 clear Wb
 generalize w1.alloc (.cells #[.int .i64 5, .string ⟨#[]⟩, .int .i64 0, .int .i64 li, .int .i64 co, .slice none 0 0, .slice none 0 0, .slice none 0 0] 38) = W1 at X1 ⊢
 have hwn : w.heap.size < nb := Xx
 refine (Wq pb tb cap d ts S [108, 101, 116] _ X1.o.at_ OK.o).mono ?_
 rintro e wt ⟨rfl, Zb, Zd⟩
 have X := Za (X1.o.step Zb Zd)
 clear Zb Zd X1
 cases hs : Yw ts S [108, 101, 116] with
 | true =>
  rw [hs, if_pos rfl] at X
  obtain ⟨a, rfl⟩ : ∃ a, S = .inl a := by cases S with
   | inl a => exact ⟨a, rfl⟩
   | inr p => cases hs
  obtain ⟨hl, hc⟩ := Pz.o a rfl;have Xf := Za (And.intro hl hc);replace X : xQ (RX pb tb cap ts w wt d (.inl (a + 1)) [(nb, (Yc 5 li co).obj), (w.heap.size, Zi.obj)]) := X;clear hl hc Pz
  have Yr : xQ (R = Cz ts K E a) := by
   rw [HR.o];show P6 ts K E U f a = _;rw [Ia];exact if_pos hs
  clear hs HR;go_wp2_with fail;refine (L3 pb tb cap d ts (.inl (a + 1)) _ X.o.at_ OK.o).mono ?_;rintro e w2 ⟨rfl, Zb, Zd⟩;have X2 := Za (X.o.step Zb Zd);clear Zb Zd X;obtain ⟨R2, Uc⟩ := xE (Zr ts (a + 1));have e9 : Zj (Zr ts) (.inl (a + 1)) = R2 := Uc.symm;rw [e9] at X2 ⊢;have Zz := Za Uc;obtain ⟨s, hs⟩ := xE (Wm R2);rw [<- hs];have Jy := Za hs;clear hs e9 Uc;obtain ⟨⟨n0, n1, n2, n3, n4, n5, n6, n7⟩, ⟨g0, g1, g2, g3, g4, g5, g6, g7⟩, Y0⟩ := Zm (X2.o.box (p := (nb, (Yc 5 li co).obj)) (by simp))
  have X3 : xQ (RX pb tb cap ts w (w2.setCell ⟨nb, 1, none⟩ (.string ⟨s.toArray⟩)) d (Zf R2) [(nb, NV.obj ⟨5, ⟨s.toArray⟩, 0, li, co, none, 0, 0, none, 0, 0, none, 0, 0⟩), (w.heap.size, Zi.obj)]) := X2.o.setB (by simp; omega) 1 (.string ⟨s.toArray⟩);go_wp2_with fail;refine (yE pb tb cap d ts OK.o K HK.o (Zf R2) _ X3.o.at_).mono ?_;rintro e w3 ⟨Zb, Zd, hnote⟩;have hnw := xB (X3.o.box (p := (nb, NV.obj ⟨5, ⟨s.toArray⟩, 0, li, co, none, 0, 0, none, 0, 0, none, 0, 0⟩)) (by simp))
  obtain ⟨av, al, ac, cs, acc, rfl, Fs, hal2, hlen, Pv⟩ := gF hnote;have X4 := Za (X3.o.step Zb Zd);have Vp := Za (Fs.lowerB (B' := nb + 1) hnw);have Hx := Za Pv;subst hlen;clear Zb Zd X2 X3 Fs Pv hnote n0 n1 n2 n3 n4 n5 n6 n7 g0 g1 g2 g3 g4 g5 g6 g7 Y0;obtain ⟨R3, Qq⟩ := xE (Zj (Ve ts K) (Zf R2));rw [<- Qq] at X4 Hx;have Yt := Za Qq;clear Qq;obtain ⟨⟨n0, n1, n2, n3, n4, n5, n6, n7⟩, ⟨g0, g1, g2, g3, g4, g5, g6, g7⟩, Y0⟩ := Zm (X4.o.box (p := (nb, NV.obj ⟨5, ⟨s.toArray⟩, 0, li, co, none, 0, 0, none, 0, 0, none, 0, 0⟩)) (by simp))
  have X5 : xQ (RX pb tb cap ts w (w3.setCell ⟨nb, 5, none⟩ (.slice av acc.length ac)) d (Zf R3) [(nb, NV.obj ⟨5, ⟨s.toArray⟩, 0, li, co, av, acc.length, ac, none, 0, 0, none, 0, 0⟩), (w.heap.size, Zi.obj)]) := X4.o.setB (by simp; omega) 5 (.slice av acc.length ac);replace Vp := Za (Vp.o.stay (Ld w3 nb 5 (.slice av acc.length ac)) (xU _));go_wp2_with fail;refine (Ua pb tb cap d ts (Zf R3) [61] _ X5.o.at_ OK.o).mono ?_
  rintro e w5 ⟨rfl, Zb, Zd⟩;have X6 := Za (X5.o.step Zb Zd);replace Vp := Za (Vp.o.stay Zb (by omega));clear Zb Zd X4 X5 n0 n1 n2 n3 n4 n5 n6 n7 g0 g1 g2 g3 g4 g5 g6 g7 Y0;obtain ⟨S4, Pd⟩ := xE (Zf (Zj (fun a => Ze ts a [61]) (Zf R3)));rw [<- Pd] at X6;have Xp := Za Pd;clear Pd;go_wp2_with fail;refine (HE.o _ _ X6.o.at_).mono ?_;rintro e wv ⟨Zb, Zd, z, rfl, hv⟩;have X7 := Za ((X6.o.step Zb Zd).alloc z.obj)
  have Vc := xB (X6.o.box (p := (nb, _)) (xM));replace Vp := Za ((Vp.o.stay Zb (by omega)).stay ((Zl.refl pb wv).alloc (xT X6.o.at_.ltp Zb.size) z.obj) (by omega));have Y3 : xQ (Xo (nb + 1) (wv.alloc z.obj) z (Zj E S4)) := (Xo.lower hv Vc).below (Zq _ _);have Qj := Zb.size;clear Zb Zd hv X6;obtain ⟨R5, M8⟩ := xE (Zj E S4);rw [<- M8] at X7 Y3;have Xq := Za M8;clear M8;go_wp2_with fail;obtain ⟨kb, Wv⟩ := xE wv.heap.size
  rw [<- Wv] at X7 Qj ⊢;clear Wv;generalize wv.alloc (.cells #[.int .i64 z.k, .string z.tx, .int .i64 z.N, .int .i64 z.li, .int .i64 z.co, .slice z.ta z.tl z.tc, .slice z.na z.nl z.nc, .slice z.ka z.kl z.kc] 38) = W7 at X7 Y3 Vp ⊢
  have hnkb : nb < kb := by omega
  clear Vc Qj;go_wp2_with fail;refine (Ua pb tb cap d ts (Zf R5) [59] _ X7.o.at_ OK.o).mono ?_;rintro e w8 ⟨rfl, Zb, Zd⟩;have X8 := Za (X7.o.step Zb Zd);replace Vp := Za (Vp.o.stay Zb (by omega));replace Y3 := Za (Y3.o.stay Zb (by omega));clear Zb Zd X7;obtain ⟨S6, Pe⟩ := xE (Zf (Zj (fun a => Ze ts a [59]) (Zf R5)));rw [<- Pe] at X8;have M0 := Za Pe;clear Pe;replace X8 : xQ (RX pb tb cap ts w w8 d S6 [(nb, NV.obj ⟨5, ⟨s.toArray⟩, 0, li, co, av, acc.length, ac, none, 0, 0, none, 0, 0⟩), (kb, z.obj), (w.heap.size, Zi.obj)]) := X8.o.perm (by simp)
  go_wp2_with fail;refine (HE.o _ _ X8.o.at_).mono ?_;rintro e w9 ⟨Zb, Zd, u, rfl, hv⟩;have X9 := Za (X8.o.step Zb Zd);have Vc := xB (X8.o.box (p := (nb, _)) (xM));replace Vp := Za (Vp.o.stay Zb (by omega));replace Y3 := Za (Y3.o.stay Zb (by omega));have Tf : xQ (Xo (nb + 1) w9 u (Zj E S6)) := Xo.lower hv Vc;clear Zb Zd hv X8 Vc;obtain ⟨R7, Pc⟩ := xE (Zj E S6);rw [<- Pc] at X9 Tf;have Vs := Za Pc;clear Pc
  have Wy : xQ (Zf R = Zf R7) := by
   show _ = _;rw [Yr.o, Vs.o, M0.o, Xq.o, Xp.o, Yt.o, Zz.o];unfold Cz
   refine B1 _ _ (fun S => Zf (Zj E (Zf (Zj (fun a => Ze ts a [59]) (Zf (Zj E (Zf (Zj (fun a => Ze ts a [61]) (Zf (Zj (Ve ts K) S)))))))))) (fun _ => rfl) fun s b _ => ?_
   refine B1 _ _ (fun S => Zf (Zj E (Zf (Zj (fun a => Ze ts a [59]) (Zf (Zj E (Zf (Zj (fun a => Ze ts a [61]) S)))))))) (fun _ => rfl) fun l b _ => ?_
   refine B1 _ _ (fun S => Zf (Zj E (Zf (Zj (fun a => Ze ts a [59]) (Zf (Zj E S)))))) (fun _ => rfl) fun _ b _ => ?_
   refine B1 _ _ (fun S => Zf (Zj E (Zf (Zj (fun a => Ze ts a [59]) S)))) (fun _ => rfl) fun x b _ => ?_
   refine B1 _ _ (fun S => Zf (Zj E S)) (fun _ => rfl) fun _ b _ => ?_
   exact Ig (E b) fun r => Zn 5 s 0 (Yg ts a) (Yf ts a) l [] [x, r]
  have Q8 : xQ (∀ D c, R = .inl (D, c) -> ∃ s' b2 l b3 x b5 y b7, R2 = .inl (s', b2) /\ R3 = .inl (l, b3) /\ R5 = .inl (x, b5) /\ R7 = .inl (y, b7) /\ D = Zn 5 s' 0 (Yg ts a) (Yf ts a) l [] [x, y]) := fun D c e => by
   rw [Yr.o] at e;unfold Cz at e;obtain ⟨s', b2, h2, e⟩ := Pa e;obtain ⟨l, b3, h3, e⟩ := Pa e;obtain ⟨_, b4, h4, e⟩ := Pa e;obtain ⟨x, b5, h5, e⟩ := Pa e;obtain ⟨_, b6, h6, e⟩ := Pa e;obtain ⟨y, b7, h7, e⟩ := Pa e;injection e with e;injection e with e _
   have g2 : R2 = .inl (s', b2) := by rw [Zz.o, h2]
   have g3 : R3 = .inl (l, b3) := by rw [Yt.o, g2]; exact h3
   have g4 : S4 = .inl b4 := by rw [Xp.o, g3]; show Zf (Ze ts b3 [61]) = _; rw [h4]; rfl
   have g5 : R5 = .inl (x, b5) := by rw [Xq.o, g4]; exact h5
   have g6 : S6 = .inl b6 := by rw [M0.o, g5]; show Zf (Ze ts b5 [59]) = _; rw [h6]; rfl
   exact ⟨s', b2, l, b3, x, b5, y, b7, g2, g3, g5, by rw [Vs.o, g6]; exact h7, e.symm⟩
  obtain ⟨⟨z0, z1, z2, z3, z4, z5, z6, z7⟩, _, Qh⟩ := Zm (X9.o.box (p := (kb, z.obj)) (by simp))
  have Gu : ¬ kb = nb := by omega
  have Dl : ¬ kb = w.heap.size := by omega
  obtain ⟨⟨n0, n1, n2, n3, n4, n5, n6, n7⟩, ⟨g0, g1, g2, g3, g4, g5, g6, g7⟩, Y0⟩ := Zm (X9.o.box (p := (nb, NV.obj ⟨5, ⟨s.toArray⟩, 0, li, co, av, acc.length, ac, none, 0, 0, none, 0, 0⟩)) (by simp));obtain ⟨⟨r0, r1, r2, r3, r4, r5, r6, r7⟩, ⟨f0, f1, f2, f3, f4, f5, f6, f7⟩, Xu⟩ := Zm (X9.o.box (p := (w.heap.size, Zi.obj)) (by simp))
  have Vq : ¬ nb = w.heap.size := by omega
  have Wl : ¬ w.heap.size = nb := by omega
  go_wp2_with fail;obtain ⟨Wf, Zs⟩ := xE (((((((((((w9.setCell ⟨nb, 7, none⟩ (.slice (some ⟨w9.heap.size + 1, 0, none⟩) 2 2)).setCell ⟨w.heap.size, 0, none⟩ (.int .i64 5)).setCell ⟨w.heap.size, 1, none⟩ (.string ⟨s.toArray⟩)).setCell ⟨w.heap.size, 2, none⟩ (.int .i64 0)).setCell ⟨w.heap.size, 3, none⟩ (.int .i64 li)).setCell ⟨w.heap.size, 4, none⟩ (.int .i64 co)).setCell ⟨w.heap.size, 5, none⟩ (.slice av acc.length ac)).setCell ⟨w.heap.size, 6, none⟩ (.slice none 0 0)).setCell ⟨w.heap.size, 7, none⟩ (.slice (some ⟨w9.heap.size + 1, 0, none⟩) 2 2)).alloc (.cells #[.int .i64 u.k, .string u.tx, .int .i64 u.N, .int .i64 u.li, .int .i64 u.co, .slice u.ta u.tl u.tc, .slice u.na u.nl u.nc, .slice u.ka u.kl u.kc] 38)).alloc (.cells #[.int .i64 z.k, .string z.tx, .int .i64 z.N, .int .i64 z.li, .int .i64 z.co, .slice z.ta z.tl z.tc, .slice z.na z.nl z.nc, .slice z.ka z.kl z.kc, .int .i64 u.k, .string u.tx, .int .i64 u.N, .int .i64 u.li, .int .i64 u.co, .slice u.ta u.tl u.tc, .slice u.na u.nl u.nc, .slice u.ka u.kl u.kc] 38))
  rw [<- Zs]
  obtain ⟨Zw, Y6, Ue⟩ : Left pb tb cap ts w d (Zf R7) w.heap.size nb w9 Wf ⟨5, ⟨s.toArray⟩, 0, li, co, av, acc.length, ac, none, 0, 0, (some ⟨w9.heap.size + 1, 0, none⟩), 2, 2⟩ 2 := by rw [Zs]; exact Jl (Jl (B7 (rb := w.heap.size) X9.o (by simp) (by omega) (by omega) 7 (.slice (some ⟨w9.heap.size + 1, 0, none⟩) 2 2) ⟨5, ⟨s.toArray⟩, 0, li, co, av, acc.length, ac, none, 0, 0, (some ⟨w9.heap.size + 1, 0, none⟩), 2, 2⟩) (u.obj)) (Mh z u)
  have Yu : Wf.heap[w9.heap.size + 1]? = some (Mh z u) := by rw [Zs]; exact Ai (Jl (B7 (rb := w.heap.size) X9.o (by simp) (by omega) (by omega) 7 (.slice (some ⟨w9.heap.size + 1, 0, none⟩) 2 2) ⟨5, ⟨s.toArray⟩, 0, li, co, av, acc.length, ac, none, 0, 0, (some ⟨w9.heap.size + 1, 0, none⟩), 2, 2⟩) (u.obj)) (Mh z u) rfl
  clear Zs;replace Zw := Za Zw;refine Me rfl rfl (Zw.o.box xM) rfl ⟨Zw.o.st, ?_, ⟨5, ⟨s.toArray⟩, 0, li, co, av, acc.length, ac, none, 0, 0, (some ⟨w9.heap.size + 1, 0, none⟩), 2, 2⟩, rfl, fun D c e => ?_⟩
  ·rw [Wy.o]; exact Zw.o.at_
  ·obtain ⟨s', b2, l, b3, x, b5, y, b7, h2, h3, h5, h7, hD⟩ := Q8.o D c e
   have hss : s = s' := by rw [Jy.o, h2]; rfl
   have Dj := Hx.o l b3 h3
   have hz : Yi (nb + 1) Wf z x := (Y3.o x b5 h5).keep (by omega) fun c h6 h7 => Y6 c (by omega) (by omega) h7
   have hu : Yi (nb + 1) Wf u y := (Tf.o y b7 h7).keep (by omega) fun c h6 h7 => Y6 c (by omega) (by omega) h7
   have hr := Vp.o;rw [Dj] at hr;obtain ⟨a2, cap2, m, ea, Yz, hk⟩ := G3 (R0 hr);rw [List.length_map] at ea;injection ea with ea _ _;subst ea
   have Jd : acc.length = l.length := by rw [Dj, List.length_map]
   have Mq : Ut Wf (nb + 1) m av l := Ni hk (by omega) fun c h6 h7 => Y6 c (by omega) (by omega) h7
   have := (Jn (kb := w9.heap.size + 1) hz hu Yu (by omega) ⟨5, ⟨s.toArray⟩, 0, li, co, av, acc.length, ac, none, 0, 0, (some ⟨w9.heap.size + 1, 0, none⟩), 2, 2⟩ l [] ⟨rfl, rfl⟩ ⟨Jd, by omega, m, Mq⟩ ⟨rfl, xZ _, .inl rfl⟩).lower (show w.heap.size <= nb + 1 by omega);rw [hD, <- hss, <- Xf.o.1, <- Xf.o.2];exact this
 | false =>
 rw [hs, if_neg (by simp)] at X
 have T0 := Za hs
 clear hs
 obtain ⟨W10, hW10⟩ := xE wt
 subst hW10
 have X10 := X
 clear X
 go_wp2_with fail
 refine (Wq pb tb cap d ts S [105, 102] _ X10.o.at_ OK.o).mono ?_
 rintro e wt ⟨rfl, Zb, Zd⟩
 have X := Za (X10.o.step Zb Zd)
 clear Zb Zd X10
 cases hs : Yw ts S [105, 102] with
 | true =>
  rw [hs, if_pos rfl] at X
  obtain ⟨a, rfl⟩ : ∃ a, S = .inl a := by cases S with
   | inl a => exact ⟨a, rfl⟩
   | inr p => cases hs
  obtain ⟨hl, hc⟩ := Pz.o a rfl;have Xf := Za (And.intro hl hc);replace X : xQ (RX pb tb cap ts w wt d (.inl (a + 1)) [(nb, (Yc 5 li co).obj), (w.heap.size, Zi.obj)]) := X;clear hl hc Pz
  have Yr : xQ (R = Cy ts E a) := by
   rw [HR.o];show P6 ts K E U f a = _;rw [Ia, if_neg (by rw [show Zh ts a [108, 101, 116] = false from T0.o]; simp)];exact if_pos hs
  clear hs HR T0;obtain ⟨⟨n0, n1, n2, n3, n4, n5, n6, n7⟩, ⟨g0, g1, g2, g3, g4, g5, g6, g7⟩, Y0⟩ := Zm (X.o.box (p := (nb, (Yc 5 li co).obj)) (by simp));have X2 : xQ (RX pb tb cap ts w (wt.setCell ⟨nb, 0, none⟩ (.int .i64 11)) d (.inl (a + 1)) [(nb, NV.obj ⟨11, ⟨#[]⟩, 0, li, co, none, 0, 0, none, 0, 0, none, 0, 0⟩), (w.heap.size, Zi.obj)]) := X.o.setB (by simp; omega) 0 (.int .i64 11);clear X;go_wp2_with fail
  refine (HE.o _ _ X2.o.at_).mono ?_;rintro e wv ⟨Zb, Zd, z, rfl, hv⟩;have X3 := Za ((X2.o.step Zb Zd).alloc z.obj);have Vc := xB (X2.o.box (p := (nb, _)) (xM));have Y3 : xQ (Xo (nb + 1) (wv.alloc z.obj) z (Zj E (.inl (a + 1)))) := (Xo.lower hv Vc).below (Zq _ _);have Qj := Zb.size;clear Zb Zd hv X2 n0 n1 n2 n3 n4 n5 n6 n7 g0 g1 g2 g3 g4 g5 g6 g7 Y0;obtain ⟨R2, Uc⟩ := xE (Zj E (.inl (a + 1)));rw [<- Uc] at X3 Y3
  have Zz := Za Uc;clear Uc;go_wp2_with fail;obtain ⟨kb, Wv⟩ := xE wv.heap.size;rw [<- Wv] at X3 Qj ⊢;clear Wv;generalize wv.alloc (.cells #[.int .i64 z.k, .string z.tx, .int .i64 z.N, .int .i64 z.li, .int .i64 z.co, .slice z.ta z.tl z.tc, .slice z.na z.nl z.nc, .slice z.ka z.kl z.kc] 38) = W3 at X3 Y3  ⊢
  have hnkb : nb < kb := by omega
  clear Vc Qj;go_wp2_with fail;refine (Ua pb tb cap d ts (Zf R2) [116, 104, 101, 110] _ X3.o.at_ OK.o).mono ?_;rintro e w4 ⟨rfl, Zb, Zd⟩;have X4 := Za (X3.o.step Zb Zd);replace Y3 := Za (Y3.o.stay Zb (by omega));clear Zb Zd X3;obtain ⟨S4, Pd⟩ := xE (Zf (Zj (fun a => Ze ts a [116, 104, 101, 110]) (Zf R2)));rw [<- Pd] at X4;have Xp := Za Pd;clear Pd;replace X4 : xQ (RX pb tb cap ts w w4 d S4 [(nb, NV.obj ⟨11, ⟨#[]⟩, 0, li, co, none, 0, 0, none, 0, 0, none, 0, 0⟩), (kb, z.obj), (w.heap.size, Zi.obj)]) := X4.o.perm (by simp)
  go_wp2_with fail;refine (HE.o _ _ X4.o.at_).mono ?_;rintro e wv ⟨Zb, Zd, u, rfl, hv⟩;have X5 := Za ((X4.o.step Zb Zd).alloc u.obj);have Vc := xB (X4.o.box (p := (nb, _)) (xM));replace Y3 := Za ((Y3.o.stay Zb (by omega)).below (Zq _ u.obj));have Tf : xQ (Xo (nb + 1) (wv.alloc u.obj) u (Zj E S4)) := (Xo.lower hv Vc).below (Zq _ _);have Qj := Zb.size;clear Zb Zd hv X4;obtain ⟨R5, M8⟩ := xE (Zj E S4)
  rw [<- M8] at X5 Tf;have Xq := Za M8;clear M8;go_wp2_with fail;obtain ⟨mb, Wv⟩ := xE wv.heap.size;rw [<- Wv] at X5 Qj ⊢;clear Wv;generalize wv.alloc (.cells #[.int .i64 u.k, .string u.tx, .int .i64 u.N, .int .i64 u.li, .int .i64 u.co, .slice u.ta u.tl u.tc, .slice u.na u.nl u.nc, .slice u.ka u.kl u.kc] 38) = W5 at X5 Tf Y3 ⊢
  have hnmb : nb < mb := by omega
  clear Vc Qj;go_wp2_with fail;refine (Ua pb tb cap d ts (Zf R5) [101, 108, 115, 101] _ X5.o.at_ OK.o).mono ?_;rintro e w6 ⟨rfl, Zb, Zd⟩;have X6 := Za (X5.o.step Zb Zd);replace Y3 := Za (Y3.o.stay Zb (by omega));replace Tf := Za (Tf.o.stay Zb (by omega));clear Zb Zd X5;obtain ⟨S6, Pe⟩ := xE (Zf (Zj (fun a => Ze ts a [101, 108, 115, 101]) (Zf R5)));rw [<- Pe] at X6;have M0 := Za Pe;clear Pe;replace X6 : xQ (RX pb tb cap ts w w6 d S6 [(nb, NV.obj ⟨11, ⟨#[]⟩, 0, li, co, none, 0, 0, none, 0, 0, none, 0, 0⟩), (mb, u.obj), (kb, z.obj), (w.heap.size, Zi.obj)]) := X6.o.perm (by simp)
  go_wp2_with fail;refine (HE.o _ _ X6.o.at_).mono ?_;rintro e w9 ⟨Zb, Zd, v, rfl, hv⟩;have X9 := Za (X6.o.step Zb Zd);have Vc := xB (X6.o.box (p := (nb, _)) (xM));replace Y3 := Za (Y3.o.stay Zb (by omega));replace Tf := Za (Tf.o.stay Zb (by omega));have HZv : xQ (Xo (nb + 1) w9 v (Zj E S6)) := Xo.lower hv Vc;clear Zb Zd hv X6 Vc;obtain ⟨R7, Pc⟩ := xE (Zj E S6);rw [<- Pc] at X9 HZv;have Vs := Za Pc
  clear Pc
  have Wy : xQ (Zf R = Zf R7) := by
   show _ = _;rw [Yr.o, Vs.o, M0.o, Xq.o, Xp.o, Zz.o];unfold Cy
   refine B1 _ _ (fun S => Zf (Zj E (Zf (Zj (fun a => Ze ts a [101, 108, 115, 101]) (Zf (Zj E (Zf (Zj (fun a => Ze ts a [116, 104, 101, 110]) S)))))))) (fun _ => rfl) fun c b _ => ?_
   refine B1 _ _ (fun S => Zf (Zj E (Zf (Zj (fun a => Ze ts a [101, 108, 115, 101]) (Zf (Zj E S)))))) (fun _ => rfl) fun _ b _ => ?_
   refine B1 _ _ (fun S => Zf (Zj E (Zf (Zj (fun a => Ze ts a [101, 108, 115, 101]) S)))) (fun _ => rfl) fun x b _ => ?_
   refine B1 _ _ (fun S => Zf (Zj E S)) (fun _ => rfl) fun _ b _ => ?_
   exact Ig (E b) fun r => Zn 11 [] 0 (Yg ts a) (Yf ts a) [] [] [c, x, r]
  have Q8 : xQ (∀ D c, R = .inl (D, c) -> ∃ t b2 x b5 y b7, R2 = .inl (t, b2) /\ R5 = .inl (x, b5) /\ R7 = .inl (y, b7) /\ D = Zn 11 [] 0 (Yg ts a) (Yf ts a) [] [] [t, x, y]) := fun D c e => by
   rw [Yr.o] at e;unfold Cy at e;obtain ⟨t, b2, h2, e⟩ := Pa e;obtain ⟨_, b4, h4, e⟩ := Pa e;obtain ⟨x, b5, h5, e⟩ := Pa e;obtain ⟨_, b6, h6, e⟩ := Pa e;obtain ⟨y, b7, h7, e⟩ := Pa e;injection e with e;injection e with e _
   have g2 : R2 = .inl (t, b2) := by rw [Zz.o]; exact h2
   have g4 : S4 = .inl b4 := by rw [Xp.o, g2]; show Zf (Ze ts b2 [116, 104, 101, 110]) = _; rw [h4]; rfl
   have g5 : R5 = .inl (x, b5) := by rw [Xq.o, g4]; exact h5
   have g6 : S6 = .inl b6 := by rw [M0.o, g5]; show Zf (Ze ts b5 [101, 108, 115, 101]) = _; rw [h6]; rfl
   exact ⟨t, b2, x, b5, y, b7, g2, g5, by rw [Vs.o, g6]; exact h7, e.symm⟩
  obtain ⟨⟨z0, z1, z2, z3, z4, z5, z6, z7⟩, _, Qh⟩ := Zm (X9.o.box (p := (kb, z.obj)) (by simp));obtain ⟨⟨u0, u1, u2, u3, u4, u5, u6, u7⟩, _, Ly⟩ := Zm (X9.o.box (p := (mb, u.obj)) (by simp))
  have Gu : ¬ kb = nb := by omega
  have hne8 : ¬ mb = nb := by omega
  have Dl : ¬ kb = w.heap.size := by omega
  have H4 : ¬ mb = w.heap.size := by omega
  obtain ⟨⟨n0, n1, n2, n3, n4, n5, n6, n7⟩, ⟨g0, g1, g2, g3, g4, g5, g6, g7⟩, Y0⟩ := Zm (X9.o.box (p := (nb, NV.obj ⟨11, ⟨#[]⟩, 0, li, co, none, 0, 0, none, 0, 0, none, 0, 0⟩)) (by simp));obtain ⟨⟨r0, r1, r2, r3, r4, r5, r6, r7⟩, ⟨f0, f1, f2, f3, f4, f5, f6, f7⟩, Xu⟩ := Zm (X9.o.box (p := (w.heap.size, Zi.obj)) (by simp))
  have Vq : ¬ nb = w.heap.size := by omega
  have Wl : ¬ w.heap.size = nb := by omega
  go_wp2_with fail;obtain ⟨Wf, Zs⟩ := xE (((((((((((w9.setCell ⟨nb, 7, none⟩ (.slice (some ⟨w9.heap.size + 1, 0, none⟩) 3 3)).setCell ⟨w.heap.size, 0, none⟩ (.int .i64 11)).setCell ⟨w.heap.size, 1, none⟩ (.string ⟨#[]⟩)).setCell ⟨w.heap.size, 2, none⟩ (.int .i64 0)).setCell ⟨w.heap.size, 3, none⟩ (.int .i64 li)).setCell ⟨w.heap.size, 4, none⟩ (.int .i64 co)).setCell ⟨w.heap.size, 5, none⟩ (.slice none 0 0)).setCell ⟨w.heap.size, 6, none⟩ (.slice none 0 0)).setCell ⟨w.heap.size, 7, none⟩ (.slice (some ⟨w9.heap.size + 1, 0, none⟩) 3 3)).alloc (.cells #[.int .i64 v.k, .string v.tx, .int .i64 v.N, .int .i64 v.li, .int .i64 v.co, .slice v.ta v.tl v.tc, .slice v.na v.nl v.nc, .slice v.ka v.kl v.kc] 38)).alloc (.cells #[.int .i64 z.k, .string z.tx, .int .i64 z.N, .int .i64 z.li, .int .i64 z.co, .slice z.ta z.tl z.tc, .slice z.na z.nl z.nc, .slice z.ka z.kl z.kc, .int .i64 u.k, .string u.tx, .int .i64 u.N, .int .i64 u.li, .int .i64 u.co, .slice u.ta u.tl u.tc, .slice u.na u.nl u.nc, .slice u.ka u.kl u.kc, .int .i64 v.k, .string v.tx, .int .i64 v.N, .int .i64 v.li, .int .i64 v.co, .slice v.ta v.tl v.tc, .slice v.na v.nl v.nc, .slice v.ka v.kl v.kc] 38))
  rw [<- Zs]
  obtain ⟨Zw, Y6, Ue⟩ : Left pb tb cap ts w d (Zf R7) w.heap.size nb w9 Wf ⟨11, ⟨#[]⟩, 0, li, co, none, 0, 0, none, 0, 0, (some ⟨w9.heap.size + 1, 0, none⟩), 3, 3⟩ 2 := by rw [Zs]; exact Jl (Jl (B7 (rb := w.heap.size) X9.o (by simp) (by omega) (by omega) 7 (.slice (some ⟨w9.heap.size + 1, 0, none⟩) 3 3) ⟨11, ⟨#[]⟩, 0, li, co, none, 0, 0, none, 0, 0, (some ⟨w9.heap.size + 1, 0, none⟩), 3, 3⟩) (v.obj)) (.cells #[.int .i64 z.k, .string z.tx, .int .i64 z.N, .int .i64 z.li, .int .i64 z.co, .slice z.ta z.tl z.tc, .slice z.na z.nl z.nc, .slice z.ka z.kl z.kc, .int .i64 u.k, .string u.tx, .int .i64 u.N, .int .i64 u.li, .int .i64 u.co, .slice u.ta u.tl u.tc, .slice u.na u.nl u.nc, .slice u.ka u.kl u.kc, .int .i64 v.k, .string v.tx, .int .i64 v.N, .int .i64 v.li, .int .i64 v.co, .slice v.ta v.tl v.tc, .slice v.na v.nl v.nc, .slice v.ka v.kl v.kc] 38)
  have Yu : Wf.heap[w9.heap.size + 1]? = some (.cells #[.int .i64 z.k, .string z.tx, .int .i64 z.N, .int .i64 z.li, .int .i64 z.co, .slice z.ta z.tl z.tc, .slice z.na z.nl z.nc, .slice z.ka z.kl z.kc, .int .i64 u.k, .string u.tx, .int .i64 u.N, .int .i64 u.li, .int .i64 u.co, .slice u.ta u.tl u.tc, .slice u.na u.nl u.nc, .slice u.ka u.kl u.kc, .int .i64 v.k, .string v.tx, .int .i64 v.N, .int .i64 v.li, .int .i64 v.co, .slice v.ta v.tl v.tc, .slice v.na v.nl v.nc, .slice v.ka v.kl v.kc] 38) := by rw [Zs]; exact Ai (Jl (B7 (rb := w.heap.size) X9.o (by simp) (by omega) (by omega) 7 (.slice (some ⟨w9.heap.size + 1, 0, none⟩) 3 3) ⟨11, ⟨#[]⟩, 0, li, co, none, 0, 0, none, 0, 0, (some ⟨w9.heap.size + 1, 0, none⟩), 3, 3⟩) (v.obj)) (.cells #[.int .i64 z.k, .string z.tx, .int .i64 z.N, .int .i64 z.li, .int .i64 z.co, .slice z.ta z.tl z.tc, .slice z.na z.nl z.nc, .slice z.ka z.kl z.kc, .int .i64 u.k, .string u.tx, .int .i64 u.N, .int .i64 u.li, .int .i64 u.co, .slice u.ta u.tl u.tc, .slice u.na u.nl u.nc, .slice u.ka u.kl u.kc, .int .i64 v.k, .string v.tx, .int .i64 v.N, .int .i64 v.li, .int .i64 v.co, .slice v.ta v.tl v.tc, .slice v.na v.nl v.nc, .slice v.ka v.kl v.kc] 38) rfl
  clear Zs;replace Zw := Za Zw;refine Me rfl rfl (Zw.o.box xM) rfl ⟨Zw.o.st, ?_, ⟨11, ⟨#[]⟩, 0, li, co, none, 0, 0, none, 0, 0, (some ⟨w9.heap.size + 1, 0, none⟩), 3, 3⟩, rfl, fun D c e => ?_⟩
  ·rw [Wy.o]; exact Zw.o.at_
  ·obtain ⟨t, b2, x, b5, y, b7, h2, h5, h7, hD⟩ := Q8.o D c e
   have hz : Yi (nb + 1) Wf z t := (Y3.o t b2 h2).keep (by omega) fun c h6 h7 => Y6 c (by omega) (by omega) h7
   have hu : Yi (nb + 1) Wf u x := (Tf.o x b5 h5).keep (by omega) fun c h6 h7 => Y6 c (by omega) (by omega) h7
   have hv : Yi (nb + 1) Wf v y := (HZv.o y b7 h7).keep (by omega) fun c h6 h7 => Y6 c (by omega) (by omega) h7
   have := (tA (kb := w9.heap.size + 1) hz hu hv Yu (by omega) ⟨11, ⟨#[]⟩, 0, li, co, none, 0, 0, none, 0, 0, (some ⟨w9.heap.size + 1, 0, none⟩), 3, 3⟩ ⟨rfl, rfl⟩ rfl rfl).lower (show w.heap.size <= nb + 1 by omega);rw [hD, <- Xf.o.1, <- Xf.o.2];exact this
 | false =>
 rw [hs, if_neg (by simp)] at X
 have Xz := Za hs
 clear hs
 obtain ⟨W11, hW11⟩ := xE wt
 subst hW11
 have X11 := X
 clear X
 go_wp2_with fail
 refine (Wq pb tb cap d ts S [102, 110] _ X11.o.at_ OK.o).mono ?_
 rintro e wt ⟨rfl, Zb, Zd⟩
 have X := Za (X11.o.step Zb Zd)
 clear Zb Zd X11
 cases hs : Yw ts S [102, 110] with
 | true =>
  rw [hs, if_pos rfl] at X
  obtain ⟨a, rfl⟩ : ∃ a, S = .inl a := by cases S with
   | inl a => exact ⟨a, rfl⟩
   | inr p => cases hs
  obtain ⟨hl, hc⟩ := Pz.o a rfl;have Xf := Za (And.intro hl hc);replace X : xQ (RX pb tb cap ts w wt d (.inl (a + 1)) [(nb, (Yc 5 li co).obj), (w.heap.size, Zi.obj)]) := X;clear hl hc Pz
  have Yr : xQ (R = Cx ts K E a) := by
   rw [HR.o];show P6 ts K E U f a = _;rw [Ia, if_neg (by rw [show Zh ts a [108, 101, 116] = false from T0.o]; simp)];unfold ex2;rw [if_neg (by rw [show Zh ts a [105, 102] = false from Xz.o]; simp)];exact if_pos hs
  clear hs HR T0 Xz;obtain ⟨⟨n0, n1, n2, n3, n4, n5, n6, n7⟩, ⟨g0, g1, g2, g3, g4, g5, g6, g7⟩, Y0⟩ := Zm (X.o.box (p := (nb, (Yc 5 li co).obj)) (by simp));have X2 : xQ (RX pb tb cap ts w (wt.setCell ⟨nb, 0, none⟩ (.int .i64 6)) d (.inl (a + 1)) [(nb, NV.obj ⟨6, ⟨#[]⟩, 0, li, co, none, 0, 0, none, 0, 0, none, 0, 0⟩), (w.heap.size, Zi.obj)]) := X.o.setB (by simp; omega) 0 (.int .i64 6);clear X;go_wp2_with fail
  refine (qJ pb tb cap d ts OK.o K HK.o (.inl (a + 1)) _ X2.o.at_).mono ?_;rintro e w3 ⟨Zb, Zd, s, v0, cs, acc, rfl, Fs, A8, hac2, Pv⟩;have hnw := xB (X2.o.box (p := (nb, NV.obj ⟨6, ⟨#[]⟩, 0, li, co, none, 0, 0, none, 0, 0, none, 0, 0⟩)) (by simp));have X3 := Za (X2.o.step Zb Zd);have Vp := Za (Fs.lowerB (B' := nb + 1) hnw);have Hx := Za Pv;obtain ⟨av, ac, rfl⟩ := U9 Fs.ow;clear Zb Zd X2 Fs Pv n0 n1 n2 n3 n4 n5 n6 n7 g0 g1 g2 g3 g4 g5 g6 g7 Y0
  obtain ⟨R2, Uc⟩ := xE (Zj (Nb ts K) (.inl (a + 1)));rw [<- Uc] at X3 Hx;have Zz := Za Uc;clear Uc;obtain ⟨⟨n0, n1, n2, n3, n4, n5, n6, n7⟩, ⟨g0, g1, g2, g3, g4, g5, g6, g7⟩, Y0⟩ := Zm (X3.o.box (p := (nb, NV.obj ⟨6, ⟨#[]⟩, 0, li, co, none, 0, 0, none, 0, 0, none, 0, 0⟩)) (by simp));have X5 : xQ (RX pb tb cap ts w ((w3.setCell ⟨nb, 1, none⟩ (.string ⟨s.toArray⟩)).setCell ⟨nb, 5, none⟩ (.slice av acc.length ac)) d (Zf R2) [(nb, NV.obj ⟨6, ⟨s.toArray⟩, 0, li, co, av, acc.length, ac, none, 0, 0, none, 0, 0⟩), (w.heap.size, Zi.obj)]) := (X3.o.setB (by simp; omega) 1 (.string ⟨s.toArray⟩)).setB (by simp; omega) 5 (.slice av acc.length ac)
  replace Vp := Za ((Vp.o.stay (Ld w3 nb 1 (.string ⟨s.toArray⟩)) (xU _)).stay (Ld _ nb 5 (.slice av acc.length ac)) (xU _));go_wp2_with fail;refine (Ua pb tb cap d ts (Zf R2) [61, 62] _ X5.o.at_ OK.o).mono ?_;rintro e w5 ⟨rfl, Zb, Zd⟩;have X6 := Za (X5.o.step Zb Zd);replace Vp := Za (Vp.o.stay Zb (by omega));clear Zb Zd X3 X5 n0 n1 n2 n3 n4 n5 n6 n7 g0 g1 g2 g3 g4 g5 g6 g7 Y0;obtain ⟨S6, Pe⟩ := xE (Zf (Zj (fun a => Ze ts a [61, 62]) (Zf R2)))
  rw [<- Pe] at X6;have M0 := Za Pe;clear Pe;go_wp2_with fail;refine (HE.o _ _ X6.o.at_).mono ?_;rintro e w9 ⟨Zb, Zd, z, rfl, hv⟩;have X9 := Za (X6.o.step Zb Zd);have Vc := xB (X6.o.box (p := (nb, _)) (xM));replace Vp := Za (Vp.o.stay Zb (by omega));have Y3 : xQ (Xo (nb + 1) w9 z (Zj E S6)) := Xo.lower hv Vc;clear Zb Zd hv X6 Vc;obtain ⟨R7, Pc⟩ := xE (Zj E S6);rw [<- Pc] at X9 Y3;have Vs := Za Pc;clear Pc
  have Wy : xQ (Zf R = Zf R7) := by
   show _ = _;rw [Yr.o, Vs.o, M0.o, Zz.o];unfold Cx
   refine B1 _ _ (fun S => Zf (Zj E (Zf (Zj (fun a => Ze ts a [61, 62]) S)))) (fun _ => rfl) fun hd b _ => ?_
   refine B1 _ _ (fun S => Zf (Zj E S)) (fun _ => rfl) fun _ b _ => ?_
   exact Ig (E b) fun r => Zn 6 hd.1 0 (Yg ts a) (Yf ts a) hd.2 [] [r]
  have Q8 : xQ (∀ D c, R = .inl (D, c) -> ∃ hd b2 y b7, R2 = .inl (hd, b2) /\ R7 = .inl (y, b7) /\ D = Zn 6 hd.1 0 (Yg ts a) (Yf ts a) hd.2 [] [y]) := fun D c e => by
   rw [Yr.o] at e;unfold Cx at e;obtain ⟨hd, b2, h2, e⟩ := Pa e;obtain ⟨_, b6, h6, e⟩ := Pa e;obtain ⟨y, b7, h7, e⟩ := Pa e;injection e with e;injection e with e _
   have g2 : R2 = .inl (hd, b2) := by rw [Zz.o]; exact h2
   have g6 : S6 = .inl b6 := by rw [M0.o, g2]; show Zf (Ze ts b2 [61, 62]) = _; rw [h6]; rfl
   exact ⟨hd, b2, y, b7, g2, by rw [Vs.o, g6]; exact h7, e.symm⟩
  obtain ⟨⟨n0, n1, n2, n3, n4, n5, n6, n7⟩, ⟨g0, g1, g2, g3, g4, g5, g6, g7⟩, Y0⟩ := Zm (X9.o.box (p := (nb, NV.obj ⟨6, ⟨s.toArray⟩, 0, li, co, av, acc.length, ac, none, 0, 0, none, 0, 0⟩)) (by simp));obtain ⟨⟨r0, r1, r2, r3, r4, r5, r6, r7⟩, ⟨f0, f1, f2, f3, f4, f5, f6, f7⟩, Xu⟩ := Zm (X9.o.box (p := (w.heap.size, Zi.obj)) (by simp))
  have Vq : ¬ nb = w.heap.size := by omega
  have Wl : ¬ w.heap.size = nb := by omega
  go_wp2_with fail;obtain ⟨Wf, Zs⟩ := xE (((((((((((w9.setCell ⟨nb, 7, none⟩ (.slice (some ⟨w9.heap.size + 1, 0, none⟩) 1 1)).setCell ⟨w.heap.size, 0, none⟩ (.int .i64 6)).setCell ⟨w.heap.size, 1, none⟩ (.string ⟨s.toArray⟩)).setCell ⟨w.heap.size, 2, none⟩ (.int .i64 0)).setCell ⟨w.heap.size, 3, none⟩ (.int .i64 li)).setCell ⟨w.heap.size, 4, none⟩ (.int .i64 co)).setCell ⟨w.heap.size, 5, none⟩ (.slice av acc.length ac)).setCell ⟨w.heap.size, 6, none⟩ (.slice none 0 0)).setCell ⟨w.heap.size, 7, none⟩ (.slice (some ⟨w9.heap.size + 1, 0, none⟩) 1 1)).alloc (.cells #[.int .i64 z.k, .string z.tx, .int .i64 z.N, .int .i64 z.li, .int .i64 z.co, .slice z.ta z.tl z.tc, .slice z.na z.nl z.nc, .slice z.ka z.kl z.kc] 38)).alloc (.cells #[.int .i64 z.k, .string z.tx, .int .i64 z.N, .int .i64 z.li, .int .i64 z.co, .slice z.ta z.tl z.tc, .slice z.na z.nl z.nc, .slice z.ka z.kl z.kc] 38))
  rw [<- Zs]
  obtain ⟨Zw, Y6, Ue⟩ : Left pb tb cap ts w d (Zf R7) w.heap.size nb w9 Wf ⟨6, ⟨s.toArray⟩, 0, li, co, av, acc.length, ac, none, 0, 0, (some ⟨w9.heap.size + 1, 0, none⟩), 1, 1⟩ 2 := by rw [Zs]; exact Jl (Jl (B7 (rb := w.heap.size) X9.o (by simp) (by omega) (by omega) 7 (.slice (some ⟨w9.heap.size + 1, 0, none⟩) 1 1) ⟨6, ⟨s.toArray⟩, 0, li, co, av, acc.length, ac, none, 0, 0, (some ⟨w9.heap.size + 1, 0, none⟩), 1, 1⟩) (z.obj)) (z.obj)
  have Yu : Wf.heap[w9.heap.size + 1]? = some (z.obj) := by rw [Zs]; exact Ai (Jl (B7 (rb := w.heap.size) X9.o (by simp) (by omega) (by omega) 7 (.slice (some ⟨w9.heap.size + 1, 0, none⟩) 1 1) ⟨6, ⟨s.toArray⟩, 0, li, co, av, acc.length, ac, none, 0, 0, (some ⟨w9.heap.size + 1, 0, none⟩), 1, 1⟩) (z.obj)) (z.obj) rfl
  clear Zs;replace Zw := Za Zw;refine Me rfl rfl (Zw.o.box xM) rfl ⟨Zw.o.st, ?_, ⟨6, ⟨s.toArray⟩, 0, li, co, av, acc.length, ac, none, 0, 0, (some ⟨w9.heap.size + 1, 0, none⟩), 1, 1⟩, rfl, fun D c e => ?_⟩
  ·rw [Wy.o]; exact Zw.o.at_
  ·obtain ⟨hd, b2, y, b7, h2, h7, hD⟩ := Q8.o D c e
   obtain ⟨hss, Dj⟩ := Hx.o hd b2 h2
   have hz : Yi (nb + 1) Wf z y := (Y3.o y b7 h7).keep (by omega) fun c h6 h7 => Y6 c (by omega) (by omega) h7
   have hr := Vp.o;rw [Dj] at hr;obtain ⟨a2, cap2, m, ea, Yz, hk⟩ := G3 (R0 hr);rw [List.length_map] at ea;injection ea with ea _ _;subst ea
   have Jd : acc.length = hd.2.length := by rw [Dj, List.length_map]
   have Mq : Ut Wf (nb + 1) m av hd.2 := Ni hk (by omega) fun c h6 h7 => Y6 c (by omega) (by omega) h7
   have := (Nz (kb := w9.heap.size + 1) hz Yu (by omega) ⟨6, ⟨s.toArray⟩, 0, li, co, av, acc.length, ac, none, 0, 0, (some ⟨w9.heap.size + 1, 0, none⟩), 1, 1⟩ hd.2 [] ⟨rfl, rfl⟩ ⟨Jd, by omega, m, Mq⟩ ⟨rfl, xZ _, .inl rfl⟩).lower (show w.heap.size <= nb + 1 by omega);rw [hD, <- hss, <- Xf.o.1, <- Xf.o.2];exact this
 | false =>
 rw [hs, if_neg (by simp)] at X
 have Pp := Za hs
 clear hs
 obtain ⟨W12, hW12⟩ := xE wt
 subst hW12
 have X12 := X
 clear X
 have Yr : xQ (R = Zj (Dy ts K U f) S) := by
  rw [HR.o]
  cases S with
  | inr p => exact rfl
  | inl a =>
   show P6 ts K E U f a = _;rw [Ia, if_neg (by rw [show Zh ts a [108, 101, 116] = false from T0.o]; simp)];unfold ex2;rw [if_neg (by rw [show Zh ts a [105, 102] = false from Xz.o]; simp)];unfold ex3;exact if_neg (by rw [show Zh ts a [102, 110] = false from Pp.o]; simp)
 have HC := Za (HO.o S _ X12.o.at_)
 rw [<- Yr.o] at HC
 clear T0 Xz Pp HR Yr
 go_wp2_with fail
 refine HC.o.mono ?_
 rintro e w9 ⟨Zb, Zd, z, rfl, hv⟩
 have X9 := Za (X12.o.step Zb Zd)
 have HZ9 := Za (hv.lower (xB (X12.o.box (p := (nb, (Yc 5 li co).obj)) (by simp))))
 clear Zb Zd hv X12 HC
 obtain ⟨⟨n0, n1, n2, n3, n4, n5, n6, n7⟩, ⟨g0, g1, g2, g3, g4, g5, g6, g7⟩, Y0⟩ := Zm (X9.o.box (p := (nb, (Yc 5 li co).obj)) (by simp))
 obtain ⟨⟨r0, r1, r2, r3, r4, r5, r6, r7⟩, ⟨f0, f1, f2, f3, f4, f5, f6, f7⟩, Xu⟩ := Zm (X9.o.box (p := (w.heap.size, Zi.obj)) (by simp))
 have Vq : ¬ nb = w.heap.size := by omega
 have Wl : ¬ w.heap.size = nb := by omega
 go_wp2_with fail
 obtain ⟨Wf, Zs⟩ := xE ((((((((w9.setCell ⟨w.heap.size, 0, none⟩ (.int .i64 z.k)).setCell ⟨w.heap.size, 1, none⟩ (.string z.tx)).setCell ⟨w.heap.size, 2, none⟩ (.int .i64 z.N)).setCell ⟨w.heap.size, 3, none⟩ (.int .i64 z.li)).setCell ⟨w.heap.size, 4, none⟩ (.int .i64 z.co)).setCell ⟨w.heap.size, 5, none⟩ (.slice z.ta z.tl z.tc)).setCell ⟨w.heap.size, 6, none⟩ (.slice z.na z.nl z.nc)).setCell ⟨w.heap.size, 7, none⟩ (.slice z.ka z.kl z.kc))
 rw [<- Zs]
 obtain ⟨Zw, Y6, Ue⟩ : Left pb tb cap ts w d (Zf R) w.heap.size nb w9 Wf z 0 := by rw [Zs]; exact Dt (rb := w.heap.size) X9.o (by simp) nb z
 clear Zs
 replace Zw := Za Zw
 refine Me rfl rfl (Zw.o.box xM) rfl ⟨Zw.o.st, ?_, z, rfl, fun D c e => ?_⟩
 ·exact Zw.o.at_
 ·exact ((HZ9.o D c e).keep (by omega) fun c h6 h7 => Y6 c (by omega) (by omega) h7).lower (by omega)
end Go.Proofs.YtfoejkhfdiodhaaGreatDoor
namespace Go.Proofs.YtfoejkhfdiodhaaGreatDoor
open Go.Proofs.Tryz
open Go.RowKit
theorem l8 (ts : List Tok) (b : Nat) (hs : Zh ts b [105, 109, 112, 111, 114, 116] = true) : ∃ (R1 : Pr (List UInt8)) (R2 : Pr Unit) (R3 : Pr (List (List UInt8))) (R4 : Pr Unit),
  R1 = Zr ts (b + 1) /\ R2 = Zj (fun a => Ze ts a [58]) (Zf R1) /\ R3 = Zj (fun a => Yd ts (Zr ts) [44] ts.length a) (Zf R2) /\ R4 = Zj (fun a => Ze ts a [59]) (Zf R3) /\
  Zf (Mb ts b) = Zf R4 /\ ∀ D c, Mb ts b = .inl (D, c) -> ∃ s l b1 b3, R1 = .inl (s, b1) /\ R3 = .inl (l, b3) /\ D = Bo s l (Yg ts b) (Yf ts b) := by
 refine ⟨_, _, _, _, rfl, rfl, rfl, rfl, ?_⟩
 have e0 : Mb ts b = (Zr ts (b + 1)).go fun s b' => (Ze ts b' [58]).go fun _ b' => (Yd ts (Zr ts) [44] ts.length b').go fun l b' => (Ze ts b' [59]).go fun _ b' => .inl (Bo s l (Yg ts b) (Yf ts b), b') := by
  unfold Mb;rw [Ze, if_pos hs];rfl
 rw [e0]
 rcases Zr ts (b + 1) with ⟨s, b1⟩ | p
 ·show Zf ((Ze ts b1 [58]).go _) = Zf (Zj _ (Zf (Zj _ (Zf (Ze ts b1 [58]))))) /\ ∀ D c, (Ze ts b1 [58]).go _ = .inl (D, c) -> ∃ s' l b1' b3, (.inl (s, b1) : Pr (List UInt8)) = _ /\ Zj (fun a => Yd ts (Zr ts) [44] ts.length a) (Zf (Ze ts b1 [58])) = _ /\ _
  rcases Ze ts b1 [58] with ⟨_, b2⟩ | p
  ·show Zf ((Yd ts (Zr ts) [44] ts.length b2).go _) = Zf (Zj _ (Zf (Yd ts (Zr ts) [44] ts.length b2))) /\ ∀ D c, (Yd ts (Zr ts) [44] ts.length b2).go _ = .inl (D, c) -> ∃ s' l b1' b3, (.inl (s, b1) : Pr (List UInt8)) = _ /\ Yd ts (Zr ts) [44] ts.length b2 = _ /\ _
   rcases Yd ts (Zr ts) [44] ts.length b2 with ⟨l, b3⟩ | p
   ·show Zf ((Ze ts b3 [59]).go _) = Zf (Ze ts b3 [59]) /\ ∀ D c, (Ze ts b3 [59]).go _ = .inl (D, c) -> _
    rcases Ze ts b3 [59] with ⟨_, b4⟩ | p
    ·refine ⟨rfl, fun D c e => ⟨s, l, b1, b3, rfl, rfl, ?_⟩⟩
     injection e with e;injection e with e _;exact e.symm
    ·exact ⟨rfl, fun D c e => by cases e⟩
   ·exact ⟨rfl, fun D c e => by cases e⟩
  ·exact ⟨rfl, fun D c e => by cases e⟩
 ·exact ⟨rfl, fun D c e => by cases e⟩
theorem Eb {α : Type} (x : α) (b : Nat) : Zf (.inl (x, b) : Pr α) = .inl b := rfl
theorem Ro {α : Type} (F : Nat -> Pr α) (b : Nat) : Zj F (.inl b) = F b := rfl
def Fo (ts : List Tok) (a : Nat) : Nat := if Zh ts a [101, 120, 112, 111, 114, 116] then a + 1 else a
theorem bX (ts : List Tok) (K : Nat -> Pr Ty) (hK : K = Xl ts ts.length 101 0) (E : Nat -> Pr Ty) (hE : E = Wo ts ts.length 101 false 0) (a : Nat) : ∃ (R1 : Pr Unit) (R2 : Pr (List UInt8)) (R3 : Pr (List (List UInt8 × Ty))) (R4 : Pr (List UInt8 × List Ty)) (R5 : Pr Unit) (R6 : Pr Ty) (R7 : Pr Unit),
  R1 = Zj (fun a => Ze ts a [102, 110]) (.inl (Fo ts a)) /\ R2 = Zj (Zr ts) (Zf R1) /\ R3 = Zj (Q5 ts K ts.length) (Zf R2) /\ R4 = Zj (Nb ts K) (Zf R3) /\ R5 = Zj (fun a => Ze ts a [61]) (Zf R4) /\ R6 = Zj E (Zf R5) /\ R7 = Zj (fun a => Ze ts a [59]) (Zf R6) /\
  Zf (M5 ts a) = Zf R7 /\ ∀ D c, M5 ts a = .inl (D, c) -> ∃ s vs h x b2 b3 b4 b6, R2 = .inl (s, b2) /\ R3 = .inl (vs, b3) /\ R4 = .inl (h, b4) /\ R6 = .inl (x, b6) /\ D = Qu s (Zh ts a [101, 120, 112, 111, 114, 116]) vs h.1 (if h.2.length = 1 then h.2 ++ [Yq 0 [] [] []] else h.2) x (Yg ts (Fo ts a)) (Yf ts (Fo ts a)) := by
 refine ⟨_, _, _, _, _, _, _, rfl, rfl, rfl, rfl, rfl, rfl, rfl, ?_⟩
 obtain ⟨ex, hex⟩ := xE (Zh ts a [101, 120, 112, 111, 114, 116])
 have e0 : M5 ts a = (Ze ts (Fo ts a) [102, 110]).go fun _ b => (Zr ts b).go fun s b => (Q5 ts K ts.length b).go fun vs b => (Nb ts K b).go fun h b => (Ze ts b [61]).go fun _ b => (E b).go fun x b => (Ze ts b [59]).go fun _ b =>
  .inl (Qu s ex vs h.1 (if h.2.length = 1 then h.2 ++ [Yq 0 [] [] []] else h.2) x (Yg ts (Fo ts a)) (Yf ts (Fo ts a)), b) := by
  rw [hK, hE, hex];rfl
 rw [e0, <- hex]
 clear e0 hex
 generalize Fo ts a = a
 rw [show Zj (fun a => Ze ts a [102, 110]) (.inl a) = Ze ts a [102, 110] from rfl]
 rcases Ze ts a [102, 110] with ⟨_, b1⟩ | p
 ·simp only [Eb, Ro]
  show Zf ((Zr ts b1).go _) = _ /\ ∀ D c, (Zr ts b1).go _ = .inl (D, c) -> _;rcases Zr ts b1 with ⟨s, b2⟩ | p
  ·simp only [Eb, Ro]
   show Zf ((Q5 ts K ts.length b2).go _) = _ /\ ∀ D c, (Q5 ts K ts.length b2).go _ = .inl (D, c) -> _;rcases Q5 ts K ts.length b2 with ⟨vs, b3⟩ | p
   ·simp only [Eb, Ro]
    show Zf ((Nb ts K b3).go _) = _ /\ ∀ D c, (Nb ts K b3).go _ = .inl (D, c) -> _;rcases Nb ts K b3 with ⟨h, b4⟩ | p
    ·simp only [Eb, Ro]
     show Zf ((Ze ts b4 [61]).go _) = _ /\ ∀ D c, (Ze ts b4 [61]).go _ = .inl (D, c) -> _;rcases Ze ts b4 [61] with ⟨_, b5⟩ | p
     ·simp only [Eb, Ro]
      show Zf ((E b5).go _) = _ /\ ∀ D c, (E b5).go _ = .inl (D, c) -> _;rcases E b5 with ⟨x, b6⟩ | p
      ·simp only [Eb, Ro]
       show Zf ((Ze ts b6 [59]).go _) = _ /\ ∀ D c, (Ze ts b6 [59]).go _ = .inl (D, c) -> _;rcases Ze ts b6 [59] with ⟨_, b7⟩ | p
       ·refine ⟨rfl, fun D c e => ⟨s, vs, h, x, b2, b3, b4, b6, rfl, rfl, rfl, rfl, ?_⟩⟩
        injection e with e;injection e with e _;exact e.symm
       ·exact ⟨rfl, fun D c e => by cases e⟩
      ·exact ⟨rfl, fun D c e => by cases e⟩
     ·exact ⟨rfl, fun D c e => by cases e⟩
    ·exact ⟨rfl, fun D c e => by cases e⟩
   ·exact ⟨rfl, fun D c e => by cases e⟩
  ·exact ⟨rfl, fun D c e => by cases e⟩
 ·exact ⟨rfl, fun D c e => by cases e⟩
def IS (ts : List Tok) (R : Pr (List Ty × List Ty)) (S : Ya) (acc : List (Option Ty)) (gk : Nat) : Prop :=
 (∃ b l m, S = .inl b /\ acc = l.map some /\ R = ((L1 ts (m + 1) b).go fun r c => (Bf ts (ts.length + 1) c).go fun d c => .inl ((l ++ r, d), c)) /\ ts.length <= b + m + 1 /\ l.length <= b /\ ts.length - b <= gk) ∨ ∃ e, S = .inr e /\ R = .inr e /\ acc.length <= 8194
def DS (ts : List Tok) (R : Pr (List Ty × List Ty)) (is : List (Option Ty)) (S : Ya) (acc : List (Option Ty)) (gk : Nat) : Prop :=
 (∃ b i l m, S = .inl b /\ is = i.map some /\ acc = l.map some /\ R = ((Bf ts (m + 1) b).go fun r c => .inl ((i, l ++ r), c)) /\ ts.length <= b + m /\ l.length <= b /\ ts.length - b <= gk) ∨ ∃ e, S = .inr e /\ R = .inr e /\ acc.length <= 8194
section
variable {ts : List Tok} {R : Pr (List Ty × List Ty)} {S : Ya} {is acc : List (Option Ty)} {gk : Nat}
theorem kG (h : 1 <= ts.length) : IS ts (Fw ts) (.inl 0) [] ts.length := by
 refine .inl ⟨0, [], ts.length - 1, rfl, rfl, ?_, by omega, by simp, by omega⟩
 rw [show ts.length - 1 + 1 = ts.length by omega]
 rfl
theorem IS.dead {e : Int × Nat × Nat} (h : IS ts R (.inr e) acc gk) : R = .inr e := by
 rcases h with ⟨b, l, m, e, _⟩ | ⟨e, h1, h2, _⟩
 ·cases e
 ·injection h1 with h1
  rw [h1];exact h2
theorem IS.len {b : Nat} (h : IS ts R (.inl b) acc gk) : acc.length <= b := by
 rcases h with ⟨b, l, m, e, rfl, _, _, h1, _⟩ | ⟨e, h1, _⟩
 ·injection e with e
  rw [List.length_map, e];exact h1
 ·cases h1
theorem IS.next {b : Nat} (h : IS ts R (.inl b) acc gk) (hb : b < ts.length) (hs : Zh ts b [105, 109, 112, 111, 114, 116] = true) (ho : ∀ c, Zf (Mb ts b) = .inl c -> c < ts.length) (hl : ts.length <= 8193) : ∃ g', g' < gk /\ IS ts R (Zf (Mb ts b)) (acc ++ [Vf (Mb ts b)]) g' := by
 rcases h with ⟨b', l, m, e, rfl, hr, h3, h4, h5⟩ | ⟨e, h1, _⟩
 ·injection e with e
  subst e
  obtain ⟨m, rfl⟩ | h0 : (∃ q, m = q + 1) ∨ m = 0 := by
   cases m with
   | zero => exact .inr rfl
   | succ q => exact .inl ⟨q, rfl⟩
  ·cases hi : Mb ts b with
   | inr p =>
    refine ⟨0, by omega, .inr ⟨p, rfl, ?_, by simp; omega⟩⟩;rw [hr, E0 hs, hi];rfl
   | inl q =>
    obtain ⟨D, c⟩ := q;have hu : b + 1 <= c := O9 D c hi;refine ⟨ts.length - c, by omega, .inl ⟨c, l ++ [D], m, rfl, by simp [Vf], ?_, by omega, by simp; omega, xR⟩⟩;rw [hr, E0 hs, hi];show Pr.go (Pr.go (L1 ts (m + 1) c) _) _ = _
    cases L1 ts (m + 1) c with
    | inr e => rfl
    | inl p =>
     show Pr.go (Bf ts (ts.length + 1) p.2) _ = Pr.go (Bf ts (ts.length + 1) p.2) _;simp
  ·subst h0
   cases hi : Mb ts b with
   | inr p =>
    refine ⟨0, by omega, .inr ⟨p, rfl, ?_, by simp; omega⟩⟩;rw [hr, E0 hs, hi];rfl
   | inl q =>
    obtain ⟨D, c⟩ := q;have hu : b + 1 <= c := O9 D c hi;have := ho c (by rw [hi]; rfl);omega
 ·cases h1
theorem IS.end_ {b : Nat} (h : IS ts R (.inl b) acc gk) (hs : Zh ts b [105, 109, 112, 111, 114, 116] = false) : DS ts R acc (.inl b) [] ts.length := by
 rcases h with ⟨b', l, m, e, rfl, hr, h3, h4, h5⟩ | ⟨e, h1, _⟩
 ·injection e with e
  subst e;refine .inl ⟨b, l, [], ts.length, rfl, rfl, rfl, ?_, by omega, by simp, by omega⟩;rw [hr, L1, if_neg (by simp [hs])];simp [Pr.go]
 ·cases h1
theorem DS.dead {e : Int × Nat × Nat} (h : DS ts R is (.inr e) acc gk) : R = .inr e := by
 rcases h with ⟨b, i, l, m, e, _⟩ | ⟨e, h1, h2, _⟩
 ·cases e
 ·injection h1 with h1
  rw [h1];exact h2
theorem DS.len {b : Nat} (h : DS ts R is (.inl b) acc gk) : acc.length <= b := by
 rcases h with ⟨b, i, l, m, e, _, rfl, _, _, h1, _⟩ | ⟨e, h1, _⟩
 ·injection e with e
  rw [List.length_map, e];exact h1
 ·cases h1
theorem DS.next {b : Nat} (h : DS ts R is (.inl b) acc gk) (hb : b < ts.length) (hs : ((Zk ts b).kind == 0) = false) (hl : ts.length <= 8193) : ∃ g', g' < gk /\ DS ts R is (Zf (M5 ts b)) (acc ++ [Vf (M5 ts b)]) g' := by
 rcases h with ⟨b', i, l, m, e, rfl, rfl, hr, h3, h4, h5⟩ | ⟨e, h1, _⟩
 ·injection e with e
  subst e
  obtain ⟨m, rfl⟩ : ∃ q, m = q + 1 := ⟨m - 1, by omega⟩
  cases hi : M5 ts b with
  | inr p =>
   refine ⟨0, by omega, .inr ⟨p, rfl, ?_, by simp; omega⟩⟩;rw [hr, Bf, if_neg (by simp [hs]), hi];rfl
  | inl q =>
   obtain ⟨D, c⟩ := q;have hu : b + 1 <= c := wJ D c hi;refine ⟨ts.length - c, by omega, .inl ⟨c, i, l ++ [D], m, rfl, rfl, by simp [Vf], ?_, by omega, by simp; omega, xR⟩⟩;rw [hr, Bf, if_neg (by simp [hs]), hi];show Pr.go (Pr.go (Bf ts (m + 1) c) _) _ = _
   cases Bf ts (m + 1) c with
   | inr e => rfl
   | inl p => simp [Pr.go]
 ·cases h1
theorem DS.end_ {b : Nat} (h : DS ts R is (.inl b) acc gk) (hs : ((Zk ts b).kind == 0) = true) : ∃ i l, R = .inl ((i, l), b) /\ is = i.map some /\ acc = l.map some := by
 rcases h with ⟨b', i, l, m, e, rfl, rfl, hr, h3, h4, h5⟩ | ⟨e, h1, _⟩
 ·injection e with e
  subst e;refine ⟨i, l, ?_, rfl, rfl⟩;rw [hr, Bf, if_pos hs];simp [Pr.go]
 ·cases h1
end
def A2 (lo : Nat) (w : World) (c : List Value) (x : Option Ty) : Prop := c.length = 4 /\ ∀ D, x = some D -> N9 lo w c D
def Ei (lo : Nat) (w : World) (c : List Value) (x : Option Ty) : Prop := c.length = 15 /\ ∀ D, x = some D -> N2 lo w c D
theorem impQ_k : Lo A2 where
 keep := fun h hs hk => ⟨h.1, fun y e => Do.keep (h.2 y e) hs hk⟩
 lower := fun h hl => ⟨h.1, fun y e => Do.lower (h.2 y e) hl⟩
theorem decQ_k : Lo Ei where
 keep := fun h hs hk => ⟨h.1, fun y e => Gp.keep (h.2 y e) hs hk⟩
 lower := fun h hl => ⟨h.1, fun y e => Gp.lower (h.2 y e) hl⟩
theorem yF {α : Type} {rep : Nat -> World -> List Value -> α -> Prop} {rq : Nat -> World -> List Value -> Option α -> Prop} (hq : ∀ lo w c D, rq lo w c (some D) -> rep lo w c D) (hk : Lo rq) {B et k : Nat} {o : Option Nat} {w : World} {v : Value} {cs : List (List Value)} {l : List α} (h : Ym rq B et k o w v cs (l.map some)) : ∃ a cap, v = .slice a l.length cap /\ J3 rep k B w a l := by
 obtain ⟨a, cap, e, hc, hr⟩ := h.form hk
 rw [List.length_map] at e
 refine ⟨a, cap, e, ?_⟩
 rcases hr with hr | ⟨g, e1, e2, e3, e4⟩
 ·exact .inl (by simpa using hr)
 ·refine .inr ⟨g, e1, e2, e3, fun i hi => ?_⟩
  obtain ⟨c, h1, h2, h3⟩ := e4 i (by simpa using hi);exact ⟨c, h1, h2, hq _ _ _ _ (by simpa using h3)⟩
end Go.Proofs.YtfoejkhfdiodhaaGreatDoor
namespace Go.Proofs.YtfoejkhfdiodhaaGreatDoor
open Go.Proofs.Tryz
open Go.RowKit
attribute [local go_sem ↓] Go.wp_at_zero Go.wp_at_succ
def NmsP (lo : Nat) (w' : World) (R : Pr (List (List UInt8))) (e : Ending) : Prop :=
 ∃ (av : Option Addr) (cv : Nat) (cs : List (List Value)) (acc : List (List UInt8)), e = .returned (.slice av acc.length cv) /\ Ym Qc lo 9 1 none w' (.slice av acc.length cv) cs acc /\ acc.length <= 8195 /\ ∀ l b, R = .inl (l, b) -> acc = l
theorem dQ (pb tb cap d : Nat) (ts : List Tok) (ok : Yh ts) (f : Nat) (hf : ts.length <= f + 1) (S : Ya) (w : World) (h : Z2 w pb tb cap ts d S) :
  Calls prog 34 #[pP pb] w fun e w' => Zl pb w w' /\ Z2 w' pb tb cap ts d (Zf (Zj (fun a => Yd ts (Zr ts) [44] (f + 1) a) S)) /\ NmsP w.heap.size w' (Zj (fun a => Yd ts (Zr ts) [44] (f + 1) a) S) e := by
 obtain ⟨Rm, Q0⟩ := xE (Zj (fun a => Yd ts (Zr ts) [44] (f + 1) a) S)
 rw [<- Q0]
 have N5 : xQ (Np ts (Zr ts) id [44] Rm S [] ts.length) := Np.start f hf Q0
 have OK := Za ok
 have Xc := h.ltp
 have Mn : xQ (RX pb tb cap ts w w d S []) := ⟨Zl.refl _ _, h, Xc, by simp⟩
 obtain ⟨i0, hi, Wp, Xy, Wr⟩ := info_parts Ri
 clear h ok Q0
 go_enter func34, ntmps34
 go_wp2_with fail
 go_loopg [3] (ts.length) (fun gk v wr => ∃ (S : Ya) (cs : List (List Value)) (acc : List (List UInt8)), xQ (RX pb tb cap ts w wr d S []) /\ xQ (Ym Qc w.heap.size 9 1 none wr v cs acc) /\ xQ (Np ts (Zr ts) id [44] Rm S acc gk))
 case atStart => exact ⟨S, [], [], Mn, Lb Qc w.heap.size 9 1 w, N5⟩
 case round =>
  clear Mn N5;obtain ⟨S', cs, acc, X, RT, HI⟩ := hrel
  have M9 : acc.length <= 8194 := HI.o.len fun b e => by
   obtain ⟨a, ha⟩ := X.o.at_;have := ha.live b e;have := ha.lt;have := OK.o.len;omega
  obtain ⟨av, cv, rfl⟩ := U9 RT.o.ow;have HC := Za (L3 pb tb cap d ts S' _ X.o.at_ OK.o);obtain ⟨R2, Uc⟩ := xE (Zj (Zr ts) S');rw [<- Uc] at HC;have Zz := Za Uc;obtain ⟨nmv, P9⟩ := xE (Wm R2);rw [<- P9] at HC;have Mz := Za P9;clear Uc P9;go_wp2_with fail;refine HC.o.mono ?_;rintro e w3 ⟨rfl, Zb, Zd⟩;have hwr := X.o.st.size;have X3 := Za (X.o.step Zb Zd);have Lz := Zb.size;have RW3 := Za (RT.o.stay Zb Xc)
  clear Zb Zd HC X RT
  go_wp2_with (at_builtin; refine wpList_append_own_at _ rfl (.tmp 8) (.tmp 10) 35 rfl (w.heap.size) 9 i0 _ 1 16 underlying35 hi Wp Xy Wr rfl (by decide) _ _ _ rfl (RW3.o.ow.alloc _) ⟨_, 0, none⟩ 1 1 [.string ⟨nmv.toArray⟩] rfl rfl (Pt _ _ _) (by simp [Value.oneCell']) (by unfold maxLen; omega) (by omega) (by simp; omega) ?_)
  intro v' w4 Z1 Zy _ Ys
  have Xi : xQ (Ym Qc w.heap.size 9 1 none w4 v' (cs ++ [[.string ⟨nmv.toArray⟩]]) (acc ++ [nmv])) :=
   RW3.o.put Z1 Zy (Ys.imp_right fun e => ⟨_, e, by simp⟩) ((Zl.refl pb _).alloc X3.o.at_.ltp _) Xc rfl ((Wz.new (rep := Qc) (lo := w3.heap.size) (x := nmv) rfl (by omega) fun q hq => RW3.o.all q hq).stay ((Zl.refl pb _).alloc X3.o.at_.ltp _) Xc)
  have Q9 : xQ (RX pb tb cap ts w w4 d (Zf R2) []) := by
   have hX := (X3.o.alloc (.cells #[.string ⟨nmv.toArray⟩] 9)).drop
   have Zo : ∀ q, (Value.slice av acc.length cv).ownBlock = some q -> w.heap.size <= q := fun q hq => (RW3.o.own q hq).1
   exact ⟨hX.st.grown Zy hX.hp fun q hq => Zo q hq, hX.at_.grown Zy fun q hq => by have := Zo q hq; omega, hX.hp, by simp⟩
  clear Z1 Zy Ys RW3 X3;go_wp2_with fail;refine (Wq pb tb cap d ts (Zf R2) [44] _ Q9.o.at_ OK.o).mono ?_;rintro e w5 ⟨rfl, Zb, Zd⟩;have X5 := Za (Q9.o.step Zb Zd);have R5 := Za (Xi.o.stay Zb Xc)
  have K7 : ∀ b, Zf R2 = .inl b -> b < ts.length := fun b e => by
   obtain ⟨a, ha⟩ := Q9.o.at_;have := ha.live b e;have := ha.lt;omega
  have Yx := Za K7;clear Zb Zd Q9 Xi K7
  cases hs : Yw ts (Zf R2) [44] with
  | true =>
   rw [hs, if_pos rfl] at X5
   obtain ⟨g', Pg, hn⟩ := HI.o.more (put := Wm) (fun _ _ => rfl) (by rw [<- Zz.o]; exact hs) (fun a x b h => by rw [Gw h]; omega) (fun b e => by
    rw [<- Zz.o] at e;rw [e] at hs
    exact Q4 OK.o.ends (Yx.o b e) hs)
   rw [<- Zz.o, <- Mz.o] at hn;have HN := Za hn;clear hs hn HI;go_wp2_with fail
   go_roundg g'
   case measure => exact Pg
   case rel => exact ⟨_, _, _, X5, R5, HN⟩
  | false =>
   rw [hs, if_neg (by simp)] at X5;have Nc := HI.o.end_ (put := Wm) (fun _ _ => rfl) (by rw [<- Zz.o]; exact hs);rw [<- Zz.o, <- Mz.o] at Nc;have Tv := Za Nc;clear hs Nc HI
   have Ki : (acc ++ [nmv]).length = acc.length + 1 := by simp
   obtain ⟨av5, cv5, hv5⟩ := U9 R5.o.ow;subst hv5;go_wp2_with fail;go_ret;refine ⟨X5.o.st, by rw [Tv.o.1]; exact X5.o.at_, av5, cv5, _, acc ++ [nmv], by rw [Ki]; rfl, R5.o, by omega, fun l b e => ?_⟩;have := Tv.o.2 l b e;rw [List.map_id] at this;exact this
end Go.Proofs.YtfoejkhfdiodhaaGreatDoor
