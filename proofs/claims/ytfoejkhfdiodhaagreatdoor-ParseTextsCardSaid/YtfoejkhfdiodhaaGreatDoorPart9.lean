/- Part. -/
import Derived.Test.YtfoejkhfdiodhaaGreatDoorPart8
set_option maxRecDepth 100000
set_option maxHeartbeats 4000000
namespace Go.Proofs.YtfoejkhfdiodhaaGreatDoor
open Go.Proofs.Tryz
open Go.RowKit
attribute [local go_sem ↓] Go.wp_at_zero Go.wp_at_succ
theorem aE (pb tb cap d : Nat) (ts : List Tok)  (ok : Yh ts) (a : Nat) (hk : (Zk ts a).kind = 3) (w : World) (h : Ps w pb tb cap ts a d) :
  Calls prog 185 #[pP pb] w (Z7 pb tb cap ts d w Z4 (.inl (Zn 0 [] ((Pi (Zk ts a).text).getD 0) (Zk ts a).line (Zk ts a).col [] [] [], a + 1))) := by
 have H := Za h
 have OK := Za ok
 have hp := h.ltp
 have HN := Za (ok.ends a h.lt (by rw [hk]; decide))
 have Mm := Za (fun w h => Bq pb tb cap a d ts w h HN.o ok.len)
 have Ug := Za (fun w h => B9 pb tb cap a d ts w h)
 have Kd := Za (ok.txt a)
 obtain ⟨t, ht⟩ := xE (Zk ts a)
 rw [<- ht] at Ug Mm Kd hk ⊢
 clear ht
 obtain ⟨kd, tx, tl, tc⟩ := t
 obtain rfl : kd = 3 := hk
 have C0 := Za (Vz h Zi.obj)
 obtain ⟨R, hR⟩ : ∃ R : Pr Ty, R = (.inl (Zn 0 [] ((Pi tx).getD 0) tl tc [] [] [], a + 1)) := ⟨_, rfl⟩
 rw [<- hR]
 have Z9 := Za hR
 clear h ok hR
 go_enter func185, ntmps185
 go_wp2_with fail
 refine (Ug.o _ C0.o.ps).mono ?_
 rintro e w1 ⟨rfl, hb⟩
 have C1 := Za (C0.o.below hb)
 have C2 := Za (C1.o.alloc (Zp ⟨3, tx, tl, tc⟩))
 clear hb
 go_wp2_with fail
 refine (Mm.o _ C2.o.ps).mono ?_
 rintro e w2 ⟨rfl, Zb, Zc⟩
 have C3 := Za (C2.o.step Zb Zc)
 clear Zb Zc
 obtain ⟨⟨k0, k1, k2, k3⟩, _, P8⟩ := Z6 C3.o.b0
 have Vy := Za (fun w => Lx.parse_c ⟨tx.toArray⟩ (by have := Kd.o; show tx.toArray.size <= _; simp at this ⊢; omega) w)
 go_wp2_with fail
 refine (Vy.o _).mono ?_
 rintro e w3 ⟨rfl, rfl⟩
 obtain ⟨pv, hpv⟩ := xE (Pi tx)
 rw [<- hpv]
 rw [<- hpv] at Z9
 clear hpv
 cases pv with
 | none =>
  have Yk : xQ (R = .inl (Zn 0 [] 0 tl tc [] [] [], a + 1)) := Z9.o;simp only [Fz, Option.getD_none, Option.isSome_none];go_wp2_with fail;refine (Nl ⟨3, tx, tl, tc⟩ ⟨0, ⟨#[]⟩, 0, 0, 0, none, 0, 0, none, 0, 0, none, 0, 0⟩ _).mono ?_;rintro e w4 ⟨rfl, hb⟩;have C4 := Za (C3.o.below hb);clear hb;obtain ⟨⟨r0, r1, r2, r3, r4, r5, r6, r7⟩, ⟨f0, f1, f2, f3, f4, f5, f6, f7⟩, Yn⟩ := Zm (x := Zi) (C4.o.b1);go_wp2_with fail
  rw [Yk.o];refine r38 rfl rfl (Xn (x := Wi 0 [] 0 ⟨3, tx, tl, tc⟩) C4.o.b1) rfl ⟨Wg C4.o.st hp (xR) (Wi 0 [] 0 ⟨3, tx, tl, tc⟩), Wn C4.o.ps hp (Wi 0 [] 0 ⟨3, tx, tl, tc⟩), _, rfl, Wi 0 [] 0 ⟨3, tx, tl, tc⟩, rfl, ?_⟩;exact ((Dr _ _ 0 [] 0 ⟨3, tx, tl, tc⟩).put8 (xU _) (Wi 0 [] 0 ⟨3, tx, tl, tc⟩)).lower (Nat.le_succ _)
 | some N =>
  have Yk : xQ (R = .inl (Zn 0 [] N tl tc [] [] [], a + 1)) := Z9.o;simp only [Fz, Option.getD_some, Option.isSome_some];go_wp2_with fail;refine (Nl ⟨3, tx, tl, tc⟩ ⟨0, ⟨#[]⟩, N, 0, 0, none, 0, 0, none, 0, 0, none, 0, 0⟩ _).mono ?_;rintro e w4 ⟨rfl, hb⟩;have C4 := Za (C3.o.below hb);clear hb;obtain ⟨⟨r0, r1, r2, r3, r4, r5, r6, r7⟩, ⟨f0, f1, f2, f3, f4, f5, f6, f7⟩, Yn⟩ := Zm (x := Zi) (C4.o.b1);go_wp2_with fail
  rw [Yk.o];refine r38 rfl rfl (Xn (x := Wi 0 [] N ⟨3, tx, tl, tc⟩) C4.o.b1) rfl ⟨Wg C4.o.st hp (xR) (Wi 0 [] N ⟨3, tx, tl, tc⟩), Wn C4.o.ps hp (Wi 0 [] N ⟨3, tx, tl, tc⟩), _, rfl, Wi 0 [] N ⟨3, tx, tl, tc⟩, rfl, ?_⟩;exact ((Dr _ _ 0 [] N ⟨3, tx, tl, tc⟩).put8 (xU _) (Wi 0 [] N ⟨3, tx, tl, tc⟩)).lower (Nat.le_succ _)
theorem aF (pb tb cap d : Nat) (ts : List Tok)  (ok : Yh ts) (a : Nat) (hk : (Zk ts a).kind = 4) (w : World) (h : Ps w pb tb cap ts a d) :
  Calls prog 185 #[pP pb] w (Z7 pb tb cap ts d w Z4 (.inl (Zn 1 (Zk ts a).text 0 (Zk ts a).line (Zk ts a).col [] [] [], a + 1))) := by
 have H := Za h
 have OK := Za ok
 have hp := h.ltp
 have HN := Za (ok.ends a h.lt (by rw [hk]; decide))
 have Mm := Za (fun w h => Bq pb tb cap a d ts w h HN.o ok.len)
 have Ug := Za (fun w h => B9 pb tb cap a d ts w h)
 have Kd := Za (ok.txt a)
 obtain ⟨t, ht⟩ := xE (Zk ts a)
 rw [<- ht] at Ug Mm Kd hk ⊢
 clear ht
 obtain ⟨kd, tx, tl, tc⟩ := t
 obtain rfl : kd = 4 := hk
 have C0 := Za (Vz h Zi.obj)
 obtain ⟨R, hR⟩ : ∃ R : Pr Ty, R = (.inl (Zn 1 tx 0 tl tc [] [] [], a + 1)) := ⟨_, rfl⟩
 rw [<- hR]
 have Z9 := Za hR
 clear h ok hR
 go_enter func185, ntmps185
 go_wp2_with fail
 refine (Ug.o _ C0.o.ps).mono ?_
 rintro e w1 ⟨rfl, hb⟩
 have C1 := Za (C0.o.below hb)
 have C2 := Za (C1.o.alloc (Zp ⟨4, tx, tl, tc⟩))
 clear hb
 go_wp2_with fail
 refine (Mm.o _ C2.o.ps).mono ?_
 rintro e w2 ⟨rfl, Zb, Zc⟩
 have C3 := Za (C2.o.step Zb Zc)
 clear Zb Zc
 obtain ⟨⟨k0, k1, k2, k3⟩, _, P8⟩ := Z6 C3.o.b0
 go_wp2_with fail
 refine (Nl ⟨4, tx, tl, tc⟩ ⟨1, ⟨tx.toArray⟩, 0, 0, 0, none, 0, 0, none, 0, 0, none, 0, 0⟩ _).mono ?_
 rintro e w3 ⟨rfl, hb⟩
 have C4 := Za (C3.o.below hb)
 clear hb
 obtain ⟨⟨r0, r1, r2, r3, r4, r5, r6, r7⟩, ⟨f0, f1, f2, f3, f4, f5, f6, f7⟩, Yn⟩ := Zm (x := Zi) (C4.o.b1)
 go_wp2_with fail
 rw [Z9.o]
 refine r38 rfl rfl (Xn (x := Wi 1 tx 0 ⟨4, tx, tl, tc⟩) C4.o.b1) rfl ⟨Wg C4.o.st hp (xR) (Wi 1 tx 0 ⟨4, tx, tl, tc⟩), Wn C4.o.ps hp (Wi 1 tx 0 ⟨4, tx, tl, tc⟩), _, rfl, Wi 1 tx 0 ⟨4, tx, tl, tc⟩, rfl, ?_⟩
 exact ((Dr _ _ 1 tx 0 ⟨4, tx, tl, tc⟩).put8 (xU _) (Wi 1 tx 0 ⟨4, tx, tl, tc⟩)).lower (Nat.le_succ _)
theorem aD (pb tb cap d : Nat) (ts : List Tok) (K : Nat -> Pr Ty) (hK : Xg pb tb cap d ts Yb 21 K) (ok : Yh ts) (a : Nat) (hk : (Zk ts a).kind = 1) (w : World) (h : Ps w pb tb cap ts a d) :
  Calls prog 185 #[pP pb] w (Z7 pb tb cap ts d w Z4 ((Aj ts K ts.length a).go fun x b => .inl (x, b))) := by
 have H := Za h
 have OK := Za ok
 have hp := h.ltp
 have Mz := Za (fun w h => jT pb tb cap d ts K hK ok a (ok.ends a h.lt (by rw [hk]; decide)) w h)
 have Ug := Za (fun w h => B9 pb tb cap a d ts w h)
 obtain ⟨t, ht⟩ := xE (Zk ts a)
 rw [<- ht] at Ug hk
 clear ht
 obtain ⟨kd, tx, tl, tc⟩ := t
 obtain rfl : kd = 1 := hk
 have C0 := Za (Vz h Zi.obj)
 obtain ⟨R, hR⟩ : ∃ R : Pr Ty, R = ((Aj ts K ts.length a).go fun x b => .inl (x, b)) := ⟨_, rfl⟩
 rw [<- hR]
 have Z9 := Za hR
 clear h ok hR hK
 go_enter func185, ntmps185
 go_wp2_with fail
 refine (Ug.o _ C0.o.ps).mono ?_
 rintro e w1 ⟨rfl, hb⟩
 have C1 := Za (C0.o.below hb)
 have C2 := Za (C1.o.alloc (Zp ⟨1, tx, tl, tc⟩))
 clear hb
 go_wp2_with fail
 refine (Mz.o _ C2.o.ps).mono ?_
 intro e w2 Zg
 rcases Yj Zg with ⟨er, li, co, hr, rfl, Zb⟩ | ⟨D, b, v, hr, rfl, Zb, Zc, hv⟩
 ·have HE : xQ (R = .inr (er, li, co)) := by rw [Z9.o, hr]; exact rfl
  have HF := Za (C2.o.st.trans Zb);clear hr Zb Zg;go_wp2_with fail;exact ⟨rfl, HF.o, by rw [HE.o]⟩
 have Yk : xQ (R = .inl (D, b)) := by rw [Z9.o, hr]; exact rfl
 obtain ⟨x, rfl, hv⟩ := hv
 have C3 := Za ((C2.o.step Zb Zc).addN hv C2.o.sz)
 clear hr Zb Zc Zg hv
 obtain ⟨⟨r0, r1, r2, r3, r4, r5, r6, r7⟩, ⟨f0, f1, f2, f3, f4, f5, f6, f7⟩, Yn⟩ := Zm (x := Zi) (C3.o.b1)
 go_wp2_with fail
 rw [Yk.o]
 refine r38 rfl rfl (Xn (x := x) C3.o.b1) rfl ⟨Wg C3.o.st hp (xR) (x), Wn C3.o.ps hp (x), _, rfl, x, rfl, ?_⟩
 exact ((C3.o.n0).put8 (xU _) (x)).lower (Nat.le_succ _)
theorem aB (pb tb cap d : Nat) (ts : List Tok)  (ok : Yh ts) (a : Nat) (Lu : (Zk ts a).kind ≠ 3) (Lv : (Zk ts a).kind ≠ 4) (P8 : (Zk ts a).kind ≠ 1) (w : World) (h : Ps w pb tb cap ts a d) :
  Calls prog 185 #[pP pb] w (Z7 pb tb cap ts d w Z4 ((Wa ts 7 a : Pr Ty))) := by
 have H := Za h
 have OK := Za ok
 have hp := h.ltp
 have HV := Za (fun wx (hx : Ps wx pb tb cap ts a d) => Az pb tb cap a d ts wx hx 7)
 have Ug := Za (fun w h => B9 pb tb cap a d ts w h)
 unfold Wa
 obtain ⟨t, ht⟩ := xE (Zk ts a)
 rw [<- ht] at Ug HV Lu Lv P8 ⊢
 clear ht
 obtain ⟨kd, tx, tl, tc⟩ := t
 have e3 : (kd == 3) = false := by simpa using Lu
 have e4 : (kd == 4) = false := by simpa using Lv
 have e1 : (kd == 1) = false := by simpa using P8
 clear Lu Lv P8
 have C0 := Za (Vz h Zi.obj)
 obtain ⟨R, hR⟩ : ∃ R : Pr Ty, R = (.inr (7, tl, tc)) := ⟨_, rfl⟩
 rw [<- hR]
 have Z9 := Za hR
 clear h ok hR
 go_enter func185, ntmps185
 go_wp2_with fail
 refine (Ug.o _ C0.o.ps).mono ?_
 rintro e w1 ⟨rfl, hb⟩
 have C1 := Za (C0.o.below hb)
 have C2 := Za (C1.o.alloc (Zp ⟨kd, tx, tl, tc⟩))
 clear hb
 go_wp2_with fail
 refine (HV.o _ C2.o.ps).mono ?_
 rintro e w2 ⟨rfl, hb⟩
 have C3 := Za (C2.o.below hb)
 clear hb
 go_wp2_with fail
 exact ⟨rfl, C3.o.st, by rw [Z9.o]⟩
def Ea (ts : List Tok) (K : Nat -> Pr Ty) (f a : Nat) : Pr Ty :=
 if (Zk ts a).kind = 3 then .inl (Zn 0 [] ((Pi (Zk ts a).text).getD 0) (Zk ts a).line (Zk ts a).col [] [] [], a + 1)
 else if (Zk ts a).kind = 4 then .inl (Zn 1 (Zk ts a).text 0 (Zk ts a).line (Zk ts a).col [] [] [], a + 1)
 else if (Zk ts a).kind = 1 then Aj ts K f a else Wa ts 7 a
theorem aC (pb tb cap d : Nat) (ts : List Tok) (K : Nat -> Pr Ty) (hK : Xg pb tb cap d ts Yb 21 K) (ok : Yh ts) (a : Nat) (w : World) (h : Ps w pb tb cap ts a d) :
  Calls prog 185 #[pP pb] w (Z7 pb tb cap ts d w Z4 (Ea ts K ts.length a)) := by
 unfold Ea
 by_cases h3 : (Zk ts a).kind = 3
 ·rw [if_pos h3]
  exact aE pb tb cap d ts ok a h3 w h
 ·rw [if_neg h3]
  by_cases h4 : (Zk ts a).kind = 4
  ·rw [if_pos h4]
   exact aF pb tb cap d ts ok a h4 w h
  ·rw [if_neg h4]
   by_cases h1 : (Zk ts a).kind = 1
   ·rw [if_pos h1]
    have := aD pb tb cap d ts K hK ok a h1 w h
    cases hp : Aj ts K ts.length a with
    | inl p => rw [hp] at this; exact this
    | inr p => rw [hp] at this; exact this
   ·rw [if_neg h1]
    exact aB pb tb cap d ts ok a h3 h4 h1 w h
abbrev Rt (t : Tok) (kb : Nat) : NV := ⟨17, ⟨#[]⟩, 0, t.line, t.col, none, 0, 0, none, 0, 0, some ⟨kb, 0, none⟩, 1, 1⟩
def E6 (t : Tok) (D : Ty) : Ty := match D with
 | .agg [k, tx, n, _, _, a, b, c] => .agg [k, tx, n, .lit (.int .i64 t.line), .lit (.int .i64 t.col), a, b, c]
 | D => D
theorem fE {lo : Nat} {w : World} {y : NV} {D : Ty} (h : Yi lo w y D) (t : Tok) : Yi lo w { y with li := t.line, co := t.col } (E6 t D) := by
 obtain ⟨k, tx, N, l, c, tys, ns, ks, rfl, h2⟩ := h.place t.line t.col
 exact h2
abbrev M4 : List (List UInt8) := [[116, 114, 117, 101], [102, 97, 108, 115, 101], [110, 117, 108, 108]]
theorem Oy (pb tb cap d a : Nat) (ts : List Tok) (r0 : Pr Ty) (hc : ∀ w, Ps w pb tb cap ts a d -> Calls prog 183 #[pP pb] w (Z7 pb tb cap ts d w Z4 r0)) (ok : Yh ts) (h3 : (M4.any fun s => Zh ts a s) = true) (w : World) (h : Ps w pb tb cap ts a d) :
  Calls prog 181 #[pP pb] w (Z7 pb tb cap ts d w Z4 (r0.go fun x b => .inl (x, b))) := by
 have H := Za h
 have OK := Za ok
 have hp := h.ltp
 have HC := Za (hc)
 have Hh3 := Za h3
 have Ug := Za (fun w h => B9 pb tb cap a d ts w h)
 obtain ⟨t, ht⟩ := xE (Zk ts a)
 rw [<- ht] at Ug
 have Qx := Za ht
 clear ht
 have C0 := Za (Vz h Zi.obj)
 obtain ⟨R, hR⟩ : ∃ R : Pr Ty, R = (r0.go fun x b => .inl (x, b)) := ⟨_, rfl⟩
 rw [<- hR]
 have Z9 := Za hR
 clear h ok hR hc h3
 go_enter func181, ntmps181
 go_wp2_with fail
 refine (Ug.o _ C0.o.ps).mono ?_
 rintro e w1 ⟨rfl, hb⟩
 have C1 := Za (C0.o.below hb)
 have C2 := Za (C1.o.alloc (Zp t))
 clear hb
 go_wp2_with fail
 refine (Vo pb tb cap a _ 3 ts M4 _ _ C2.o.ps.rd (by simp) (by simp)).mono ?_
 rw [Hh3.o]
 rintro e w2 ⟨rfl, hb⟩
 have C3 := Za (C2.o.below hb)
 clear hb
 go_wp2_with fail
 refine (HC.o _ C3.o.ps).mono ?_
 intro e w3 Zg
 rcases Yj Zg with ⟨er, li, co, hr, rfl, Zb⟩ | ⟨D, b, v, hr, rfl, Zb, Zc, hv⟩
 ·have HE : xQ (R = .inr (er, li, co)) := by rw [Z9.o, hr]; exact rfl
  have HF := Za (C3.o.st.trans Zb);clear hr Zb Zg;go_wp2_with fail;exact ⟨rfl, HF.o, by rw [HE.o]⟩
 have Yk : xQ (R = .inl (D, b)) := by rw [Z9.o, hr]; exact rfl
 obtain ⟨x, rfl, hv⟩ := hv
 have C4 := Za ((C3.o.step Zb Zc).addN hv C3.o.sz)
 clear hr Zb Zc Zg hv
 obtain ⟨⟨r0, r1, r2, r3, r4, r5, r6, r7⟩, ⟨f0, f1, f2, f3, f4, f5, f6, f7⟩, Yn⟩ := Zm (x := Zi) (C4.o.b1)
 go_wp2_with fail
 rw [Yk.o]
 refine r38 rfl rfl (Xn (x := x) C4.o.b1) rfl ⟨Wg C4.o.st hp (xR) (x), Wn C4.o.ps hp (x), _, rfl, x, rfl, ?_⟩
 exact ((C4.o.n0).put8 (xU _) (x)).lower (Nat.le_succ _)
theorem nS (pb tb cap d : Nat) (ts : List Tok) (E : Nat -> Pr Ty) (hE : Xg pb tb cap d ts Z4 19 E) (ok : Yh ts) (a : Nat) (h3 : (M4.any fun s => Zh ts a s) = false) (Qi : Zh ts a [112, 114, 105, 110, 116] = true) (w : World) (h : Ps w pb tb cap ts a d) :
  Calls prog 181 #[pP pb] w (Z7 pb tb cap ts d w Z4 (((Ze ts (a + 1) [40]).go fun _ b => (E b).go fun x b => (Ze ts b [41]).go fun _ b => .inl (x, b)).go fun x b => .inl (Zn 17 [] 0 (Zk ts a).line (Zk ts a).col [] [] [x], b))) := by
 have H := Za h
 have OK := Za ok
 have hp := h.ltp
 have HI := Za (fun w h => zA pb tb cap d ts E hE ok (a + 1) w h)
 have Hh3 := Za h3
 have Fe := Za Qi
 have Ug := Za (fun w h => B9 pb tb cap a d ts w h)
 obtain ⟨t, ht⟩ := xE (Zk ts a)
 rw [<- ht] at Ug
 have Qx := Za ht
 clear ht
 have C0 := Za (Vz h Zi.obj)
 obtain ⟨R, hR⟩ : ∃ R : Pr Ty, R = (((Ze ts (a + 1) [40]).go fun _ b => (E b).go fun x b => (Ze ts b [41]).go fun _ b => .inl (x, b)).go fun x b => .inl (Zn 17 [] 0 (Zk ts a).line (Zk ts a).col [] [] [x], b)) := ⟨_, rfl⟩
 rw [<- hR]
 have Z9 := Za hR
 clear h ok hR hE h3 Qi
 go_enter func181, ntmps181
 go_wp2_with fail
 refine (Ug.o _ C0.o.ps).mono ?_
 rintro e w1 ⟨rfl, hb⟩
 have C1 := Za (C0.o.below hb)
 have C2 := Za (C1.o.alloc (Zp t))
 clear hb
 go_wp2_with fail
 rw [<- Qx.o] at Z9
 refine (Vo pb tb cap a _ 3 ts M4 _ _ C2.o.ps.rd (by simp) (by simp)).mono ?_
 rw [Hh3.o]
 rintro e w2 ⟨rfl, hb⟩
 have C3 := Za (C2.o.below hb)
 clear hb
 go_wp2_with fail
 refine (V6 pb tb cap a d ts [112, 114, 105, 110, 116] _ C3.o.ps OK.o).mono ?_
 rw [Fe.o, if_pos rfl]
 rintro e w3 ⟨rfl, Zb, Zc⟩
 have C4 := Za (C3.o.step Zb Zc)
 clear Zb Zc
 obtain ⟨⟨k0, k1, k2, k3⟩, _, P8⟩ := Z6 C4.o.b0
 go_wp2_with fail
 have Nh : w1.heap.size ≠ w.heap.size := by have := C1.o.sz; omega
 have Vx : (((w3).drew).cell? ⟨w1.heap.size, 0, none⟩ = some (.int .i64 t.kind) /\ ((w3).drew).cell? ⟨w1.heap.size, 1, none⟩ = some (.string ⟨t.text.toArray⟩) /\ ((w3).drew).cell? ⟨w1.heap.size, 2, none⟩ = some (.int .i64 t.line) /\ ((w3).drew).cell? ⟨w1.heap.size, 3, none⟩ = some (.int .i64 t.col)) := (Y1 (C4.o.drew.b0))
 have HC : xQ (Calls prog 182 #[pP pb] (w3).drew fun e w9 => (∃ chain, e = .panicked chain /\ Z7 pb tb cap ts d w Z4 R e w9) ∨ ∃ (y : NV) (D : Ty) (b2 : Nat), e = .returned (y.val) /\ ((w9.cell? ⟨w1.heap.size, 0, none⟩ = some (.int .i64 t.kind) /\ w9.cell? ⟨w1.heap.size, 1, none⟩ = some (.string ⟨t.text.toArray⟩) /\ w9.cell? ⟨w1.heap.size, 2, none⟩ = some (.int .i64 t.line) /\ w9.cell? ⟨w1.heap.size, 3, none⟩ = some (.int .i64 t.col))) /\ xQ (R = .inl (Zn 17 [] 0 t.line t.col [] [] [D], b2) /\ Yy pb tb cap d ts w w9 b2 [(w1.heap.size, Zp t), (w.heap.size, Zi.obj)] [(y, D)] [])) := by
  refine (HI.o _ C4.o.drew.ps).mono ?_;intro e w9 Zg;rcases Yj Zg with ⟨er, li, co, hr, rfl, Zb⟩ | ⟨D, b2, v, hr, rfl, Zb, Zc, hv⟩
  ·exact .inl ⟨_, rfl, C4.o.drew.st.trans Zb, by rw [Z9.o, hr]; rfl⟩
  obtain ⟨y, rfl, hv⟩ := hv;have CN := (C4.o.drew.step Zb Zc).addN hv C4.o.drew.sz;exact .inr ⟨y, D, b2, rfl, (Y1 (CN.b0)), by rw [Z9.o, hr]; rfl, CN⟩
 go_wp2_with fail
 go_region_held (fun W => (W.cell? ⟨w1.heap.size, 0, none⟩ = some (.int .i64 t.kind) /\ W.cell? ⟨w1.heap.size, 1, none⟩ = some (.string ⟨t.text.toArray⟩) /\ W.cell? ⟨w1.heap.size, 2, none⟩ = some (.int .i64 t.line) /\ W.cell? ⟨w1.heap.size, 3, none⟩ = some (.int .i64 t.col))) (first | with_reducible assumption | with_reducible exact Wt.o _ | with_reducible exact Xp.o _ _ _ _ _ _ _ _) (first
  | (go_at_call 182; refine HC.o.mono ?_; rintro e w9 (⟨ch, rfl, hf⟩ | ⟨y, D, b2, rfl, t5, HX⟩); exact ⟨rfl, hf⟩; have Wt : xQ (∀ o, (((w9.alloc o)).cell? ⟨w1.heap.size, 0, none⟩ = some (.int .i64 t.kind) /\ ((w9.alloc o)).cell? ⟨w1.heap.size, 1, none⟩ = some (.string ⟨t.text.toArray⟩) /\ ((w9.alloc o)).cell? ⟨w1.heap.size, 2, none⟩ = some (.int .i64 t.line) /\ ((w9.alloc o)).cell? ⟨w1.heap.size, 3, none⟩ = some (.int .i64 t.col))) := (fun o => (Y1 ((HX.o.2.alloc o).b1))))
  | (go_at_call 123; refine (Nl t ⟨17, ⟨#[]⟩, 0, 0, 0, none, 0, 0, none, 0, 0, some ⟨w9.heap.size, 0, none⟩, 1, 1⟩ _).mono ?_; rintro e w10 ⟨rfl, hb⟩; have Zv := Za ((HX.o.2.alloc _).below hb); have t6 : (w10.cell? ⟨w1.heap.size, 0, none⟩ = some (.int .i64 t.kind) /\ w10.cell? ⟨w1.heap.size, 1, none⟩ = some (.string ⟨t.text.toArray⟩) /\ w10.cell? ⟨w1.heap.size, 2, none⟩ = some (.int .i64 t.line) /\ w10.cell? ⟨w1.heap.size, 3, none⟩ = some (.int .i64 t.col)) := (Y1 (Zv.o.b1)); have Tm := Za (Zm (x := Zi) (Zv.o.b2)); obtain ⟨⟨r0, r1, r2, r3, r4, r5, r6, r7⟩, ⟨f0, f1, f2, f3, f4, f5, f6, f7⟩, Yn⟩ := Tm.o; have Xp : xQ (∀ v0 v1 v2 v3 v4 v5 v6 v7, (((Yo w10 w.heap.size v0 v1 v2 v3 v4 v5 v6 v7)).cell? ⟨w1.heap.size, 0, none⟩ = some (.int .i64 t.kind) /\ ((Yo w10 w.heap.size v0 v1 v2 v3 v4 v5 v6 v7)).cell? ⟨w1.heap.size, 1, none⟩ = some (.string ⟨t.text.toArray⟩) /\ ((Yo w10 w.heap.size v0 v1 v2 v3 v4 v5 v6 v7)).cell? ⟨w1.heap.size, 2, none⟩ = some (.int .i64 t.line) /\ ((Yo w10 w.heap.size v0 v1 v2 v3 v4 v5 v6 v7)).cell? ⟨w1.heap.size, 3, none⟩ = some (.int .i64 t.col))) := (fun v0 v1 v2 v3 v4 v5 v6 v7 => (Y1 ((Bs Nh v0 v1 v2 v3 v4 v5 v6 v7).trans (Zv.o.b1)))); clear hb))
 all_goals
  go_wp2_with fail;rw [HX.o.1];refine r38 rfl rfl (Xn (x := Rt t w9.heap.size) Zv.o.b2) rfl ⟨Wg Zv.o.st hp (xR) (Rt t w9.heap.size), Wn Zv.o.ps hp (Rt t w9.heap.size), _, rfl, Rt t w9.heap.size, rfl, ?_⟩;exact ((Nz Zv.o.n0 Zv.o.b0 (by have := HX.o.2.sz; omega) (Rt t w9.heap.size) [] [] ⟨rfl, rfl⟩ ⟨rfl, xZ _, 0, .inl rfl⟩ ⟨rfl, xZ _, .inl rfl⟩).put8 (xU _) (Rt t w9.heap.size)).lower (Nat.le_succ _)
theorem nU (pb tb cap d : Nat) (ts : List Tok)  (ok : Yh ts) (a : Nat) (h3 : (M4.any fun s => Zh ts a s) = false) (Qi : Zh ts a [112, 114, 105, 110, 116] = false) (Yn : Zh ts a [114, 101, 97, 100] = true) (w : World) (h : Ps w pb tb cap ts a d) :
  Calls prog 181 #[pP pb] w (Z7 pb tb cap ts d w Z4 ((Ze ts (a + 1) [40]).go fun _ b => (Ze ts b [41]).go fun _ b => .inl (Zn 18 [] 0 (Zk ts a).line (Zk ts a).col [] [] [], b))) := by
 have H := Za h
 have OK := Za ok
 have hp := h.ltp
 have Hh3 := Za h3
 have Fe := Za Qi
 have Sn := Za Yn
 have Ug := Za (fun w h => B9 pb tb cap a d ts w h)
 obtain ⟨t, ht⟩ := xE (Zk ts a)
 rw [<- ht] at Ug
 have Qx := Za ht
 clear ht
 have C0 := Za (Vz h Zi.obj)
 obtain ⟨R, hR⟩ : ∃ R : Pr Ty, R = ((Ze ts (a + 1) [40]).go fun _ b => (Ze ts b [41]).go fun _ b => .inl (Zn 18 [] 0 (Zk ts a).line (Zk ts a).col [] [] [], b)) := ⟨_, rfl⟩
 rw [<- hR]
 have Z9 := Za hR
 clear h ok hR  h3 Qi Yn
 go_enter func181, ntmps181
 go_wp2_with fail
 refine (Ug.o _ C0.o.ps).mono ?_
 rintro e w1 ⟨rfl, hb⟩
 have C1 := Za (C0.o.below hb)
 have C2 := Za (C1.o.alloc (Zp t))
 clear hb
 go_wp2_with fail
 rw [<- Qx.o] at Z9
 refine (Vo pb tb cap a _ 3 ts M4 _ _ C2.o.ps.rd (by simp) (by simp)).mono ?_
 rw [Hh3.o]
 rintro e w2 ⟨rfl, hb⟩
 have C3 := Za (C2.o.below hb)
 clear hb
 go_wp2_with fail
 refine (V6 pb tb cap a d ts [112, 114, 105, 110, 116] _ C3.o.ps OK.o).mono ?_
 rw [Fe.o, if_neg (by simp)]
 rintro e w3 ⟨rfl, Zb, Zc⟩
 have C4 := Za (C3.o.step Zb Zc)
 clear Zb Zc
 go_wp2_with fail
 refine (V6 pb tb cap a d ts [114, 101, 97, 100] _ C4.o.ps OK.o).mono ?_
 rw [Sn.o, if_pos rfl]
 rintro e w4 ⟨rfl, Zb, Zc⟩
 have C5 := Za (C4.o.step Zb Zc)
 clear Zb Zc
 go_wp2_with fail
 refine (Vw pb tb cap (a + 1) d ts [40] _ C5.o.ps OK.o).mono ?_
 intro e w5 Zg
 rcases Yj Zg with ⟨er, li, co, hr, rfl, Zb⟩ | ⟨u1, b1, v1, hr, rfl, Zb, Zc, hv⟩
 ·have HE : xQ (R = .inr (er, li, co)) := by rw [Z9.o, hr]; exact rfl
  have HF := Za (C5.o.st.trans Zb);clear hr Zb Zg;go_wp2_with fail;exact ⟨rfl, HF.o, by rw [HE.o]⟩
 have Yk : xQ (R = (Ze ts b1 [41]).go fun _ b => .inl (Zn 18 [] 0 t.line t.col [] [] [], b)) := by rw [Z9.o, hr]; exact rfl
 have C6 := Za ((C5.o.step Zb Zc))
 clear hr Zb Zc Zg hv
 go_wp2_with fail
 refine (Vw pb tb cap b1 d ts [41] _ C6.o.ps OK.o).mono ?_
 intro e w6 Zg
 rcases Yj Zg with ⟨er, li, co, hr, rfl, Zb⟩ | ⟨u2, b2, v2, hr, rfl, Zb, Zc, hv⟩
 ·have HE : xQ (R = .inr (er, li, co)) := by rw [Yk.o, hr]; exact rfl
  have HF := Za (C6.o.st.trans Zb);clear hr Zb Zg;go_wp2_with fail;exact ⟨rfl, HF.o, by rw [HE.o]⟩
 have Zz : xQ (R = .inl (Zn 18 [] 0 t.line t.col [] [] [], b2)) := by rw [Yk.o, hr]; exact rfl
 have C7 := Za ((C6.o.step Zb Zc))
 clear hr Zb Zc Zg hv
 obtain ⟨⟨k0, k1, k2, k3⟩, _, P8⟩ := Z6 C7.o.b0
 go_wp2_with fail
 refine (Nl t ⟨18, ⟨#[]⟩, 0, 0, 0, none, 0, 0, none, 0, 0, none, 0, 0⟩ _).mono ?_
 rintro e w7 ⟨rfl, hb⟩
 have C8 := Za (C7.o.below hb)
 clear hb
 obtain ⟨⟨r0, r1, r2, r3, r4, r5, r6, r7⟩, ⟨f0, f1, f2, f3, f4, f5, f6, f7⟩, Yn⟩ := Zm (x := Zi) (C8.o.b1)
 go_wp2_with fail
 rw [Zz.o]
 refine r38 rfl rfl (Xn (x := Wi 18 [] 0 t) C8.o.b1) rfl ⟨Wg C8.o.st hp (xR) (Wi 18 [] 0 t), Wn C8.o.ps hp (Wi 18 [] 0 t), _, rfl, Wi 18 [] 0 t, rfl, ?_⟩
 exact ((Dr _ _ 18 [] 0 t).put8 (xU _) (Wi 18 [] 0 t)).lower (Nat.le_succ _)
theorem nO (pb tb cap d : Nat) (ts : List Tok) (E : Nat -> Pr Ty) (hE : Xg pb tb cap d ts Z4 19 E) (ok : Yh ts) (a : Nat) (h3 : (M4.any fun s => Zh ts a s) = false) (Qi : Zh ts a [112, 114, 105, 110, 116] = false) (Yn : Zh ts a [114, 101, 97, 100] = false) (Zt : Zh ts a [40] = true) (w : World) (h : Ps w pb tb cap ts a d) :
  Calls prog 181 #[pP pb] w (Z7 pb tb cap ts d w Z4 (((Ze ts a [40]).go fun _ b => (E b).go fun x b => (Ze ts b [41]).go fun _ b => .inl (x, b)).go fun x b => .inl (x, b))) := by
 have H := Za h
 have OK := Za ok
 have hp := h.ltp
 have HI := Za (fun w h => zA pb tb cap d ts E hE ok a w h)
 have Hh3 := Za h3
 have Fe := Za Qi
 have Sn := Za Yn
 have Hhb1 := Za Zt
 have Ug := Za (fun w h => B9 pb tb cap a d ts w h)
 obtain ⟨t, ht⟩ := xE (Zk ts a)
 rw [<- ht] at Ug
 have Qx := Za ht
 clear ht
 have C0 := Za (Vz h Zi.obj)
 obtain ⟨R, hR⟩ : ∃ R : Pr Ty, R = (((Ze ts a [40]).go fun _ b => (E b).go fun x b => (Ze ts b [41]).go fun _ b => .inl (x, b)).go fun x b => .inl (x, b)) := ⟨_, rfl⟩
 rw [<- hR]
 have Z9 := Za hR
 clear h ok hR hE h3 Qi Yn Zt
 go_enter func181, ntmps181
 go_wp2_with fail
 refine (Ug.o _ C0.o.ps).mono ?_
 rintro e w1 ⟨rfl, hb⟩
 have C1 := Za (C0.o.below hb)
 have C2 := Za (C1.o.alloc (Zp t))
 clear hb
 go_wp2_with fail
 refine (Vo pb tb cap a _ 3 ts M4 _ _ C2.o.ps.rd (by simp) (by simp)).mono ?_
 rw [Hh3.o]
 rintro e w2 ⟨rfl, hb⟩
 have C3 := Za (C2.o.below hb)
 clear hb
 go_wp2_with fail
 refine (V6 pb tb cap a d ts [112, 114, 105, 110, 116] _ C3.o.ps OK.o).mono ?_
 rw [Fe.o, if_neg (by simp)]
 rintro e w3 ⟨rfl, Zb, Zc⟩
 have C4 := Za (C3.o.step Zb Zc)
 clear Zb Zc
 go_wp2_with fail
 refine (V6 pb tb cap a d ts [114, 101, 97, 100] _ C4.o.ps OK.o).mono ?_
 rw [Sn.o, if_neg (by simp)]
 rintro e w4 ⟨rfl, Zb, Zc⟩
 have C5 := Za (C4.o.step Zb Zc)
 clear Zb Zc
 go_wp2_with fail
 refine (Vo pb tb cap a _ 1 ts [[40]] _ _ C5.o.ps.rd (by simp) (by simp)).mono ?_
 rw [Ul, Hhb1.o]
 rintro e w5 ⟨rfl, hb⟩
 have C6 := Za (C5.o.below hb)
 clear hb
 go_wp2_with fail
 refine (HI.o _ C6.o.ps).mono ?_
 intro e w6 Zg
 rcases Yj Zg with ⟨er, li, co, hr, rfl, Zb⟩ | ⟨D, b, v, hr, rfl, Zb, Zc, hv⟩
 ·have HE : xQ (R = .inr (er, li, co)) := by rw [Z9.o, hr]; exact rfl
  have HF := Za (C6.o.st.trans Zb);clear hr Zb Zg;go_wp2_with fail;exact ⟨rfl, HF.o, by rw [HE.o]⟩
 have Yk : xQ (R = .inl (D, b)) := by rw [Z9.o, hr]; exact rfl
 obtain ⟨x, rfl, hv⟩ := hv
 have C7 := Za ((C6.o.step Zb Zc).addN hv C6.o.sz)
 clear hr Zb Zc Zg hv
 obtain ⟨⟨r0, r1, r2, r3, r4, r5, r6, r7⟩, ⟨f0, f1, f2, f3, f4, f5, f6, f7⟩, Yn⟩ := Zm (x := Zi) (C7.o.b1)
 go_wp2_with fail
 rw [Yk.o]
 refine r38 rfl rfl (Xn (x := x) C7.o.b1) rfl ⟨Wg C7.o.st hp (xR) (x), Wn C7.o.ps hp (x), _, rfl, x, rfl, ?_⟩
 exact ((C7.o.n0).put8 (xU _) (x)).lower (Nat.le_succ _)
theorem nX (pb tb cap d : Nat) (ts : List Tok) (K : Nat -> Pr Ty) (hK : Xg pb tb cap d ts Yb 21 K) (ok : Yh ts) (a : Nat) (h3 : (M4.any fun s => Zh ts a s) = false) (Qi : Zh ts a [112, 114, 105, 110, 116] = false) (Yn : Zh ts a [114, 101, 97, 100] = false) (Zt : Zh ts a [40] = false) (Bk : Zh ts a [123] = false) (w : World) (h : Ps w pb tb cap ts a d) :
  Calls prog 181 #[pP pb] w (Z7 pb tb cap ts d w Z4 ((Ea ts K ts.length a).go fun x b => .inl (x, b))) := by
 have H := Za h
 have OK := Za ok
 have hp := h.ltp
 have HI := Za (fun w h => aC pb tb cap d ts K hK ok a w h)
 have Hh3 := Za h3
 have Fe := Za Qi
 have Sn := Za Yn
 have Hhb1 := Za Zt
 have Hhc1 := Za Bk
 have Ug := Za (fun w h => B9 pb tb cap a d ts w h)
 obtain ⟨t, ht⟩ := xE (Zk ts a)
 rw [<- ht] at Ug
 have Qx := Za ht
 clear ht
 have C0 := Za (Vz h Zi.obj)
 obtain ⟨R, hR⟩ : ∃ R : Pr Ty, R = ((Ea ts K ts.length a).go fun x b => .inl (x, b)) := ⟨_, rfl⟩
 rw [<- hR]
 have Z9 := Za hR
 clear h ok hR hK h3 Qi Yn Zt Bk
 go_enter func181, ntmps181
 go_wp2_with fail
 refine (Ug.o _ C0.o.ps).mono ?_
 rintro e w1 ⟨rfl, hb⟩
 have C1 := Za (C0.o.below hb)
 have C2 := Za (C1.o.alloc (Zp t))
 clear hb
 go_wp2_with fail
 refine (Vo pb tb cap a _ 3 ts M4 _ _ C2.o.ps.rd (by simp) (by simp)).mono ?_
 rw [Hh3.o]
 rintro e w2 ⟨rfl, hb⟩
 have C3 := Za (C2.o.below hb)
 clear hb
 go_wp2_with fail
 refine (V6 pb tb cap a d ts [112, 114, 105, 110, 116] _ C3.o.ps OK.o).mono ?_
 rw [Fe.o, if_neg (by simp)]
 rintro e w3 ⟨rfl, Zb, Zc⟩
 have C4 := Za (C3.o.step Zb Zc)
 clear Zb Zc
 go_wp2_with fail
 refine (V6 pb tb cap a d ts [114, 101, 97, 100] _ C4.o.ps OK.o).mono ?_
 rw [Sn.o, if_neg (by simp)]
 rintro e w4 ⟨rfl, Zb, Zc⟩
 have C5 := Za (C4.o.step Zb Zc)
 clear Zb Zc
 go_wp2_with fail
 refine (Vo pb tb cap a _ 1 ts [[40]] _ _ C5.o.ps.rd (by simp) (by simp)).mono ?_
 rw [Ul, Hhb1.o]
 rintro e w5 ⟨rfl, hb⟩
 have C6 := Za (C5.o.below hb)
 clear hb
 go_wp2_with fail
 refine (V6 pb tb cap a d ts [123] _ C6.o.ps OK.o).mono ?_
 rw [Hhc1.o, if_neg (by simp)]
 rintro e w6 ⟨rfl, Zb, Zc⟩
 have C7 := Za (C6.o.step Zb Zc)
 clear Zb Zc
 go_wp2_with fail
 refine (HI.o _ C7.o.ps).mono ?_
 intro e w7 Zg
 rcases Yj Zg with ⟨er, li, co, hr, rfl, Zb⟩ | ⟨D, b, v, hr, rfl, Zb, Zc, hv⟩
 ·have HE : xQ (R = .inr (er, li, co)) := by rw [Z9.o, hr]; exact rfl
  have HF := Za (C7.o.st.trans Zb);clear hr Zb Zg;go_wp2_with fail;exact ⟨rfl, HF.o, by rw [HE.o]⟩
 have Yk : xQ (R = .inl (D, b)) := by rw [Z9.o, hr]; exact rfl
 obtain ⟨x, rfl, hv⟩ := hv
 have C8 := Za ((C7.o.step Zb Zc).addN hv C7.o.sz)
 clear hr Zb Zc Zg hv
 obtain ⟨⟨r0, r1, r2, r3, r4, r5, r6, r7⟩, ⟨f0, f1, f2, f3, f4, f5, f6, f7⟩, Yn⟩ := Zm (x := Zi) (C8.o.b1)
 go_wp2_with fail
 rw [Yk.o]
 refine r38 rfl rfl (Xn (x := x) C8.o.b1) rfl ⟨Wg C8.o.st hp (xR) (x), Wn C8.o.ps hp (x), _, rfl, x, rfl, ?_⟩
 exact ((C8.o.n0).put8 (xU _) (x)).lower (Nat.le_succ _)
theorem nN (pb tb cap d : Nat) (ts : List Tok) (E : Nat -> Pr Ty) (hE : Xg pb tb cap d ts Z4 19 E) (ok : Yh ts) (a : Nat) (h3 : (M4.any fun s => Zh ts a s) = false) (Qi : Zh ts a [112, 114, 105, 110, 116] = false) (Yn : Zh ts a [114, 101, 97, 100] = false) (Zt : Zh ts a [40] = false) (Bk : Zh ts a [123] = true) (w : World) (h : Ps w pb tb cap ts a d) :
  Calls prog 181 #[pP pb] w (Z7 pb tb cap ts d w Z4 ((A6 ts E ts.length (a + 1)).go fun x b => .inl (E6 (Zk ts a) x, b))) := by
 have H := Za h
 have OK := Za ok
 have hp := h.ltp
 have HI := Za (fun w h => bG pb tb cap d ts E hE ok (a + 1) w h)
 have Hh3 := Za h3
 have Fe := Za Qi
 have Sn := Za Yn
 have Hhb1 := Za Zt
 have Hhc1 := Za Bk
 have Ug := Za (fun w h => B9 pb tb cap a d ts w h)
 obtain ⟨t, ht⟩ := xE (Zk ts a)
 rw [<- ht] at Ug
 have Qx := Za ht
 clear ht
 have C0 := Za (Vz h Zi.obj)
 obtain ⟨R, hR⟩ : ∃ R : Pr Ty, R = ((A6 ts E ts.length (a + 1)).go fun x b => .inl (E6 (Zk ts a) x, b)) := ⟨_, rfl⟩
 rw [<- hR]
 have Z9 := Za hR
 clear h ok hR hE h3 Qi Yn Zt Bk
 go_enter func181, ntmps181
 go_wp2_with fail
 refine (Ug.o _ C0.o.ps).mono ?_
 rintro e w1 ⟨rfl, hb⟩
 have C1 := Za (C0.o.below hb)
 have C2 := Za (C1.o.alloc (Zp t))
 clear hb
 go_wp2_with fail
 rw [<- Qx.o] at Z9
 refine (Vo pb tb cap a _ 3 ts M4 _ _ C2.o.ps.rd (by simp) (by simp)).mono ?_
 rw [Hh3.o]
 rintro e w2 ⟨rfl, hb⟩
 have C3 := Za (C2.o.below hb)
 clear hb
 go_wp2_with fail
 refine (V6 pb tb cap a d ts [112, 114, 105, 110, 116] _ C3.o.ps OK.o).mono ?_
 rw [Fe.o, if_neg (by simp)]
 rintro e w3 ⟨rfl, Zb, Zc⟩
 have C4 := Za (C3.o.step Zb Zc)
 clear Zb Zc
 go_wp2_with fail
 refine (V6 pb tb cap a d ts [114, 101, 97, 100] _ C4.o.ps OK.o).mono ?_
 rw [Sn.o, if_neg (by simp)]
 rintro e w4 ⟨rfl, Zb, Zc⟩
 have C5 := Za (C4.o.step Zb Zc)
 clear Zb Zc
 go_wp2_with fail
 refine (Vo pb tb cap a _ 1 ts [[40]] _ _ C5.o.ps.rd (by simp) (by simp)).mono ?_
 rw [Ul, Hhb1.o]
 rintro e w5 ⟨rfl, hb⟩
 have C6 := Za (C5.o.below hb)
 clear hb
 go_wp2_with fail
 refine (V6 pb tb cap a d ts [123] _ C6.o.ps OK.o).mono ?_
 rw [Hhc1.o, if_pos rfl]
 rintro e w6 ⟨rfl, Zb, Zc⟩
 have C7 := Za (C6.o.step Zb Zc)
 clear Zb Zc
 obtain ⟨⟨k0, k1, k2, k3⟩, _, P8⟩ := Z6 C7.o.b0
 go_wp2_with fail
 have Nh : w1.heap.size ≠ w.heap.size := by have := C1.o.sz; omega
 have Vx : (((w6).drew).cell? ⟨w1.heap.size, 0, none⟩ = some (.int .i64 t.kind) /\ ((w6).drew).cell? ⟨w1.heap.size, 1, none⟩ = some (.string ⟨t.text.toArray⟩) /\ ((w6).drew).cell? ⟨w1.heap.size, 2, none⟩ = some (.int .i64 t.line) /\ ((w6).drew).cell? ⟨w1.heap.size, 3, none⟩ = some (.int .i64 t.col)) := (Y1 (C7.o.drew.b0))
 have HC : xQ (Calls prog 184 #[pP pb] (w6).drew fun e w9 => (∃ chain, e = .panicked chain /\ Z7 pb tb cap ts d w Z4 R e w9) ∨ ∃ (y : NV) (D : Ty) (b2 : Nat), e = .returned (y.val) /\ ((w9.cell? ⟨w1.heap.size, 0, none⟩ = some (.int .i64 t.kind) /\ w9.cell? ⟨w1.heap.size, 1, none⟩ = some (.string ⟨t.text.toArray⟩) /\ w9.cell? ⟨w1.heap.size, 2, none⟩ = some (.int .i64 t.line) /\ w9.cell? ⟨w1.heap.size, 3, none⟩ = some (.int .i64 t.col))) /\ xQ (R = .inl (E6 t D, b2) /\ Yy pb tb cap d ts w w9 b2 [(w1.heap.size, Zp t), (w.heap.size, Zi.obj)] [(y, D)] [])) := by
  refine (HI.o _ C7.o.drew.ps).mono ?_;intro e w9 Zg;rcases Yj Zg with ⟨er, li, co, hr, rfl, Zb⟩ | ⟨D, b2, v, hr, rfl, Zb, Zc, hv⟩
  ·exact .inl ⟨_, rfl, C7.o.drew.st.trans Zb, by rw [Z9.o, hr]; rfl⟩
  obtain ⟨y, rfl, hv⟩ := hv;have CN := (C7.o.drew.step Zb Zc).addN hv C7.o.drew.sz;exact .inr ⟨y, D, b2, rfl, (Y1 (CN.b0)), by rw [Z9.o, hr]; rfl, CN⟩
 go_wp2_with fail
 go_region_held (fun W => (W.cell? ⟨w1.heap.size, 0, none⟩ = some (.int .i64 t.kind) /\ W.cell? ⟨w1.heap.size, 1, none⟩ = some (.string ⟨t.text.toArray⟩) /\ W.cell? ⟨w1.heap.size, 2, none⟩ = some (.int .i64 t.line) /\ W.cell? ⟨w1.heap.size, 3, none⟩ = some (.int .i64 t.col))) (first | with_reducible assumption | with_reducible exact Wt.o _ | with_reducible exact Xp.o _ _ _ _ _ _ _ _) (first
  | (go_at_call 184; refine HC.o.mono ?_; rintro e w9 (⟨ch, rfl, hf⟩ | ⟨y, D, b2, rfl, t5, HX⟩); exact ⟨rfl, hf⟩; have Wt : xQ (∀ o, (((w9.alloc o)).cell? ⟨w1.heap.size, 0, none⟩ = some (.int .i64 t.kind) /\ ((w9.alloc o)).cell? ⟨w1.heap.size, 1, none⟩ = some (.string ⟨t.text.toArray⟩) /\ ((w9.alloc o)).cell? ⟨w1.heap.size, 2, none⟩ = some (.int .i64 t.line) /\ ((w9.alloc o)).cell? ⟨w1.heap.size, 3, none⟩ = some (.int .i64 t.col))) := (fun o => (Y1 ((HX.o.2.alloc o).b1))))
  | (go_at_call 123; refine (Nl t y _).mono ?_; rintro e w10 ⟨rfl, hb⟩; have Zv := Za (HX.o.2.below hb); have t6 : (w10.cell? ⟨w1.heap.size, 0, none⟩ = some (.int .i64 t.kind) /\ w10.cell? ⟨w1.heap.size, 1, none⟩ = some (.string ⟨t.text.toArray⟩) /\ w10.cell? ⟨w1.heap.size, 2, none⟩ = some (.int .i64 t.line) /\ w10.cell? ⟨w1.heap.size, 3, none⟩ = some (.int .i64 t.col)) := (Y1 (Zv.o.b0)); have Tm := Za (Zm (x := Zi) (Zv.o.b1)); obtain ⟨⟨r0, r1, r2, r3, r4, r5, r6, r7⟩, ⟨f0, f1, f2, f3, f4, f5, f6, f7⟩, Yn⟩ := Tm.o; have Xp : xQ (∀ v0 v1 v2 v3 v4 v5 v6 v7, (((Yo w10 w.heap.size v0 v1 v2 v3 v4 v5 v6 v7)).cell? ⟨w1.heap.size, 0, none⟩ = some (.int .i64 t.kind) /\ ((Yo w10 w.heap.size v0 v1 v2 v3 v4 v5 v6 v7)).cell? ⟨w1.heap.size, 1, none⟩ = some (.string ⟨t.text.toArray⟩) /\ ((Yo w10 w.heap.size v0 v1 v2 v3 v4 v5 v6 v7)).cell? ⟨w1.heap.size, 2, none⟩ = some (.int .i64 t.line) /\ ((Yo w10 w.heap.size v0 v1 v2 v3 v4 v5 v6 v7)).cell? ⟨w1.heap.size, 3, none⟩ = some (.int .i64 t.col))) := (fun v0 v1 v2 v3 v4 v5 v6 v7 => (Y1 ((Bs Nh v0 v1 v2 v3 v4 v5 v6 v7).trans (Zv.o.b0)))); clear hb))
 all_goals
  go_wp2_with fail;rw [HX.o.1];refine r38 rfl rfl (Xn (x := { y with li := t.line, co := t.col }) Zv.o.b1) rfl ⟨Wg Zv.o.st hp (xR) ({ y with li := t.line, co := t.col }), Wn Zv.o.ps hp ({ y with li := t.line, co := t.col }), _, rfl, { y with li := t.line, co := t.col }, rfl, ?_⟩;exact ((fE Zv.o.n0 t).put8 (xU _) ({ y with li := t.line, co := t.col })).lower (Nat.le_succ _)
def IntE (_ : Nat) (_ : World) (v : Value) (x : Int) : Prop := v = .int .i64 x
def F2 (ts : List Tok) (a : Nat) : Pr Int := if 0 <= Pm (Zk ts a) Us then .inl (Pm (Zk ts a) Us, a + 1) else Wa ts 7 a
theorem tag_c (pb tb cap d : Nat) (ts : List Tok) (ok : Yh ts) (a : Nat) (w : World) (h : Ps w pb tb cap ts a d) :
  Calls prog 158 #[pP pb] w (Z7 pb tb cap ts d w IntE (F2 ts a)) := by
 have H := Za h
 have OK := Za ok
 have hp := h.ltp
 have HW := Za (mJ pb tb cap a w.heap.size 6 ts Us w 9 h.rd rfl (by simp [Us]))
 have HN : xQ (0 <= Pm (Zk ts a) Us -> a + 1 < ts.length) := fun hv => by
  have := yS ts a Us;rw [show decide (0 <= Pm (Zk ts a) Us) = true by simpa using hv] at this;obtain ⟨s, _, h2⟩ := List.any_eq_true.1 this.symm;exact Q4 ok.ends h.lt h2
 clear h ok
 unfold F2
 obtain ⟨kv, hkv⟩ := xE (Pm (Zk ts a) Us)
 rw [<- hkv] at HW HN ⊢
 clear hkv
 by_cases h0 : 0 <= kv
 ·rw [if_pos h0]
  have Zo : ¬ kv < 0 := by omega
  have T0 := Za (HN.o h0);clear h0;go_enter func158, ntmps158;go_wp2_with fail;refine HW.o.mono ?_;rintro e w1 ⟨rfl, Zt⟩;have P1 := Za (H.o.below Zt);have Yl := Za Zt;clear Zt;go_wp2_with fail;refine (Bq pb tb cap a d ts _ P1.o T0.o OK.o.len).mono ?_;rintro e w2 ⟨rfl, Zb, Zc⟩;have HP := Za Zc;have Zu := Za ((Zl.of hp Yl.o).trans Zb);clear Zb Zc;go_wp2_with fail;go_ret;exact ⟨Zu.o, HP.o, _, rfl, rfl⟩
 ·rw [if_neg h0]
  have Zo : kv < 0 := by omega
  clear h0;go_enter func158, ntmps158;go_wp2_with fail;refine HW.o.mono ?_;rintro e w1 ⟨rfl, Zt⟩;have P1 := Za (H.o.below Zt);have Yl := Za Zt;clear Zt;go_wp2_with fail;refine (Az pb tb cap a d ts _ P1.o 7).mono ?_;rintro e w2 ⟨rfl, Z0⟩;have Yx := Za (Zx Yl.o Z0);clear Z0;go_wp2_with fail;exact ⟨rfl, Zl.of hp Yx.o, rfl⟩
theorem l3 (pb tb cap d a : Nat) (ts : List Tok) (r0 : Pr Ty) (hc : ∀ w, Ps w pb tb cap ts a d -> Calls prog 81 #[pP pb] w (Z7 pb tb cap ts d w Z4 r0)) (h0 : Zh ts a [108, 101, 116] = true) (ok : Yh ts) (w : World) (h : Ps w pb tb cap ts a d) :
  Calls prog 44 #[pP pb] w (Z7 pb tb cap ts d w Z4 (r0.go fun x b => .inl (x, b))) := by
 have H := Za h
 have OK := Za ok
 have hp := h.ltp
 have HC := Za hc
 have Nn := Za h0
 have C0 := Za (Vz h Zi.obj)
 obtain ⟨R, hR⟩ : ∃ R : Pr Ty, R = (r0.go fun x b => .inl (x, b)) := ⟨_, rfl⟩
 rw [<- hR]
 have Z9 := Za hR
 clear h ok hR hc h0
 go_enter func44, ntmps44
 go_wp2_with fail
 refine (Vo pb tb cap a _ 1 ts [[108, 101, 116]] _ _ C0.o.ps.rd (by simp) (by simp)).mono ?_
 rw [Ul, Nn.o]
 rintro e w1 ⟨rfl, hb⟩
 have C1 := Za (C0.o.below hb)
 clear hb
 go_wp2_with fail
 refine (HC.o _ C1.o.ps).mono ?_
 intro e w2 Zg
 rcases Yj Zg with ⟨er, li, co, hr, rfl, Zb⟩ | ⟨D, b, v, hr, rfl, Zb, Zc, hv⟩
 ·have HE : xQ (R = .inr (er, li, co)) := by rw [Z9.o, hr]; exact rfl
  have HF := Za (C1.o.st.trans Zb);clear hr Zb Zg;go_wp2_with fail;exact ⟨rfl, HF.o, by rw [HE.o]⟩
 have Yk : xQ (R = .inl (D, b)) := by rw [Z9.o, hr]; exact rfl
 obtain ⟨x, rfl, hv⟩ := hv
 have C2 := Za ((C1.o.step Zb Zc).addN hv C1.o.sz)
 clear hr Zb Zc Zg hv
 obtain ⟨⟨r0, r1, r2, r3, r4, r5, r6, r7⟩, ⟨f0, f1, f2, f3, f4, f5, f6, f7⟩, Yn⟩ := Zm (x := Zi) (C2.o.b0)
 go_wp2_with fail
 rw [Yk.o]
 refine r38 rfl rfl (Xn (x := x) C2.o.b0) rfl ⟨Wg C2.o.st hp (xR) (x), Wn C2.o.ps hp (x), _, rfl, x, rfl, ?_⟩
 exact ((C2.o.n0).put8 (xU _) (x)).lower (Nat.le_succ _)
theorem lZ (pb tb cap d a : Nat) (ts : List Tok) (r0 : Pr Ty) (hc : ∀ w, Ps w pb tb cap ts a d -> Calls prog 82 #[pP pb] w (Z7 pb tb cap ts d w Z4 r0)) (h0 : Zh ts a [108, 101, 116] = false) (h1 : Zh ts a [105, 102] = true) (ok : Yh ts) (w : World) (h : Ps w pb tb cap ts a d) :
  Calls prog 44 #[pP pb] w (Z7 pb tb cap ts d w Z4 (r0.go fun x b => .inl (x, b))) := by
 have H := Za h
 have OK := Za ok
 have hp := h.ltp
 have HC := Za hc
 have Nn := Za h0
 have Y7 := Za h1
 have C0 := Za (Vz h Zi.obj)
 obtain ⟨R, hR⟩ : ∃ R : Pr Ty, R = (r0.go fun x b => .inl (x, b)) := ⟨_, rfl⟩
 rw [<- hR]
 have Z9 := Za hR
 clear h ok hR hc h0 h1
 go_enter func44, ntmps44
 go_wp2_with fail
 refine (Vo pb tb cap a _ 1 ts [[108, 101, 116]] _ _ C0.o.ps.rd (by simp) (by simp)).mono ?_
 rw [Ul, Nn.o]
 rintro e w1 ⟨rfl, hb⟩
 have C1 := Za (C0.o.below hb)
 clear hb
 go_wp2_with fail
 refine (Vo pb tb cap a _ 1 ts [[105, 102]] _ _ C1.o.ps.rd (by simp) (by simp)).mono ?_
 rw [Ul, Y7.o]
 rintro e w2 ⟨rfl, hb⟩
 have C2 := Za (C1.o.below hb)
 clear hb
 go_wp2_with fail
 refine (HC.o _ C2.o.ps).mono ?_
 intro e w3 Zg
 rcases Yj Zg with ⟨er, li, co, hr, rfl, Zb⟩ | ⟨D, b, v, hr, rfl, Zb, Zc, hv⟩
 ·have HE : xQ (R = .inr (er, li, co)) := by rw [Z9.o, hr]; exact rfl
  have HF := Za (C2.o.st.trans Zb);clear hr Zb Zg;go_wp2_with fail;exact ⟨rfl, HF.o, by rw [HE.o]⟩
 have Yk : xQ (R = .inl (D, b)) := by rw [Z9.o, hr]; exact rfl
 obtain ⟨x, rfl, hv⟩ := hv
 have C3 := Za ((C2.o.step Zb Zc).addN hv C2.o.sz)
 clear hr Zb Zc Zg hv
 obtain ⟨⟨r0, r1, r2, r3, r4, r5, r6, r7⟩, ⟨f0, f1, f2, f3, f4, f5, f6, f7⟩, Yn⟩ := Zm (x := Zi) (C3.o.b0)
 go_wp2_with fail
 rw [Yk.o]
 refine r38 rfl rfl (Xn (x := x) C3.o.b0) rfl ⟨Wg C3.o.st hp (xR) (x), Wn C3.o.ps hp (x), _, rfl, x, rfl, ?_⟩
 exact ((C3.o.n0).put8 (xU _) (x)).lower (Nat.le_succ _)
theorem lY (pb tb cap d a : Nat) (ts : List Tok) (r0 : Pr Ty) (hc : ∀ w, Ps w pb tb cap ts a d -> Calls prog 83 #[pP pb] w (Z7 pb tb cap ts d w Z4 r0)) (h0 : Zh ts a [108, 101, 116] = false) (h1 : Zh ts a [105, 102] = false) (h2 : Zh ts a [102, 110] = true) (ok : Yh ts) (w : World) (h : Ps w pb tb cap ts a d) :
  Calls prog 44 #[pP pb] w (Z7 pb tb cap ts d w Z4 (r0.go fun x b => .inl (x, b))) := by
 have H := Za h
 have OK := Za ok
 have hp := h.ltp
 have HC := Za hc
 have Nn := Za h0
 have Y7 := Za h1
 have P3 := Za h2
 have C0 := Za (Vz h Zi.obj)
 obtain ⟨R, hR⟩ : ∃ R : Pr Ty, R = (r0.go fun x b => .inl (x, b)) := ⟨_, rfl⟩
 rw [<- hR]
 have Z9 := Za hR
 clear h ok hR hc h0 h1 h2
 go_enter func44, ntmps44
 go_wp2_with fail
 refine (Vo pb tb cap a _ 1 ts [[108, 101, 116]] _ _ C0.o.ps.rd (by simp) (by simp)).mono ?_
 rw [Ul, Nn.o]
 rintro e w1 ⟨rfl, hb⟩
 have C1 := Za (C0.o.below hb)
 clear hb
 go_wp2_with fail
 refine (Vo pb tb cap a _ 1 ts [[105, 102]] _ _ C1.o.ps.rd (by simp) (by simp)).mono ?_
 rw [Ul, Y7.o]
 rintro e w2 ⟨rfl, hb⟩
 have C2 := Za (C1.o.below hb)
 clear hb
 go_wp2_with fail
 refine (Vo pb tb cap a _ 1 ts [[102, 110]] _ _ C2.o.ps.rd (by simp) (by simp)).mono ?_
 rw [Ul, P3.o]
 rintro e w3 ⟨rfl, hb⟩
 have C3 := Za (C2.o.below hb)
 clear hb
 go_wp2_with fail
 refine (HC.o _ C3.o.ps).mono ?_
 intro e w4 Zg
 rcases Yj Zg with ⟨er, li, co, hr, rfl, Zb⟩ | ⟨D, b, v, hr, rfl, Zb, Zc, hv⟩
 ·have HE : xQ (R = .inr (er, li, co)) := by rw [Z9.o, hr]; exact rfl
  have HF := Za (C3.o.st.trans Zb);clear hr Zb Zg;go_wp2_with fail;exact ⟨rfl, HF.o, by rw [HE.o]⟩
 have Yk : xQ (R = .inl (D, b)) := by rw [Z9.o, hr]; exact rfl
 obtain ⟨x, rfl, hv⟩ := hv
 have C4 := Za ((C3.o.step Zb Zc).addN hv C3.o.sz)
 clear hr Zb Zc Zg hv
 obtain ⟨⟨r0, r1, r2, r3, r4, r5, r6, r7⟩, ⟨f0, f1, f2, f3, f4, f5, f6, f7⟩, Yn⟩ := Zm (x := Zi) (C4.o.b0)
 go_wp2_with fail
 rw [Yk.o]
 refine r38 rfl rfl (Xn (x := x) C4.o.b0) rfl ⟨Wg C4.o.st hp (xR) (x), Wn C4.o.ps hp (x), _, rfl, x, rfl, ?_⟩
 exact ((C4.o.n0).put8 (xU _) (x)).lower (Nat.le_succ _)
theorem l4 (pb tb cap d a : Nat) (ts : List Tok) (r0 : Pr Ty) (hc : ∀ w, Ps w pb tb cap ts a d -> Calls prog 84 #[pP pb] w (Z7 pb tb cap ts d w Z4 r0)) (h0 : Zh ts a [108, 101, 116] = false) (h1 : Zh ts a [105, 102] = false) (h2 : Zh ts a [102, 110] = false) (ok : Yh ts) (w : World) (h : Ps w pb tb cap ts a d) :
  Calls prog 44 #[pP pb] w (Z7 pb tb cap ts d w Z4 (r0.go fun x b => .inl (x, b))) := by
 have H := Za h
 have OK := Za ok
 have hp := h.ltp
 have HC := Za hc
 have Nn := Za h0
 have Y7 := Za h1
 have P3 := Za h2
 have C0 := Za (Vz h Zi.obj)
 obtain ⟨R, hR⟩ : ∃ R : Pr Ty, R = (r0.go fun x b => .inl (x, b)) := ⟨_, rfl⟩
 rw [<- hR]
 have Z9 := Za hR
 clear h ok hR hc h0 h1 h2
 go_enter func44, ntmps44
 go_wp2_with fail
 refine (Vo pb tb cap a _ 1 ts [[108, 101, 116]] _ _ C0.o.ps.rd (by simp) (by simp)).mono ?_
 rw [Ul, Nn.o]
 rintro e w1 ⟨rfl, hb⟩
 have C1 := Za (C0.o.below hb)
 clear hb
 go_wp2_with fail
 refine (Vo pb tb cap a _ 1 ts [[105, 102]] _ _ C1.o.ps.rd (by simp) (by simp)).mono ?_
 rw [Ul, Y7.o]
 rintro e w2 ⟨rfl, hb⟩
 have C2 := Za (C1.o.below hb)
 clear hb
 go_wp2_with fail
 refine (Vo pb tb cap a _ 1 ts [[102, 110]] _ _ C2.o.ps.rd (by simp) (by simp)).mono ?_
 rw [Ul, P3.o]
 rintro e w3 ⟨rfl, hb⟩
 have C3 := Za (C2.o.below hb)
 clear hb
 go_wp2_with fail
 refine (HC.o _ C3.o.ps).mono ?_
 intro e w4 Zg
 rcases Yj Zg with ⟨er, li, co, hr, rfl, Zb⟩ | ⟨D, b, v, hr, rfl, Zb, Zc, hv⟩
 ·have HE : xQ (R = .inr (er, li, co)) := by rw [Z9.o, hr]; exact rfl
  have HF := Za (C3.o.st.trans Zb);clear hr Zb Zg;go_wp2_with fail;exact ⟨rfl, HF.o, by rw [HE.o]⟩
 have Yk : xQ (R = .inl (D, b)) := by rw [Z9.o, hr]; exact rfl
 obtain ⟨x, rfl, hv⟩ := hv
 have C4 := Za ((C3.o.step Zb Zc).addN hv C3.o.sz)
 clear hr Zb Zc Zg hv
 obtain ⟨⟨r0, r1, r2, r3, r4, r5, r6, r7⟩, ⟨f0, f1, f2, f3, f4, f5, f6, f7⟩, Yn⟩ := Zm (x := Zi) (C4.o.b0)
 go_wp2_with fail
 rw [Yk.o]
 refine r38 rfl rfl (Xn (x := x) C4.o.b0) rfl ⟨Wg C4.o.st hp (xR) (x), Wn C4.o.ps hp (x), _, rfl, x, rfl, ?_⟩
 exact ((C4.o.n0).put8 (xU _) (x)).lower (Nat.le_succ _)
end Go.Proofs.YtfoejkhfdiodhaaGreatDoor
