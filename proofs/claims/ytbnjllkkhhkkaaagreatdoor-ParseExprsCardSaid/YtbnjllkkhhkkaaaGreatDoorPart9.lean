/- Part. -/
import Derived.Test.YtbnjllkkhhkkaaaGreatDoorPart8
set_option maxRecDepth 100000
set_option maxHeartbeats 4000000
namespace Go.Proofs.YtbnjllkkhhkkaaaGreatDoor
open Tryz
open Go.RowKit
attribute [local go_sem ↓] Go.wp_at_zero Go.wp_at_succ
theorem zep (pb tb cap d : Nat) (ts : List Tok)  (ok : Z0 ts) (a : Nat) (hk : (Zg ts a).kind = 3) (w : World) (h : Ps w pb tb cap ts a d) :
  Calls prog 231 #[.pointer (some ⟨pb, 0, none⟩)] w (Zs pb tb cap ts d w Zo (.inl (Zi 0 [] ((Ww (Zg ts a).text).getD 0) (Zg ts a).line (Zg ts a).col [] [] [], a + 1))) := by
 have H := Za h
 have OK := Za ok
 have hp := h.ltp
 have HN := Za (ok.ends a h.lt (by rw [hk]; decide))
 have HPa := Za (fun w h => V7 pb tb cap a d ts w h HN.o ok.len)
 have HPk := Za (fun w h => Ul pb tb cap a d ts w h)
 have HTx := Za (ok.txt a)
 obtain ⟨t, ht⟩ := xE (Zg ts a)
 rw [← ht] at HPk HPa HTx hk ⊢
 clear ht
 obtain ⟨kd, tx, tl, tc⟩ := t
 obtain rfl : kd = 3 := hk
 have C0 := Za (Xa h Ze.obj)
 obtain ⟨R, hR⟩ : ∃ R : Pr Ty, R = (.inl (Zi 0 [] ((Ww tx).getD 0) tl tc [] [] [], a + 1)) := ⟨_, rfl⟩
 rw [← hR]
 have HR0 := Za hR
 clear h ok hR
 go_enter func231, ntmps231
 go_wp2_with fail
 refine (HPk.o _ C0.o.ps).mono ?_
 rintro e w1 ⟨rfl, hb⟩
 have C1 := Za (C0.o.below hb)
 have C2 := Za (C1.o.alloc (Zk ⟨3, tx, tl, tc⟩))
 clear hb
 go_wp2_with fail
 refine (HPa.o _ C2.o.ps).mono ?_
 rintro e w2 ⟨rfl, hst, hps⟩
 have C3 := Za (C2.o.step hst hps)
 clear hst hps
 obtain ⟨⟨k0, k1, k2, k3⟩, _, hk1⟩ := Zr C3.o.b0
 have HPs := Za (fun w => Lx.parse_c ⟨tx.toArray⟩ (by have := HTx.o; show tx.toArray.size ≤ _; simp at this ⊢; omega) w)
 go_wp2_with fail
 refine (HPs.o _).mono ?_
 rintro e w3 ⟨rfl, rfl⟩
 obtain ⟨pv, hpv⟩ := xE (Ww tx)
 rw [← hpv]
 rw [← hpv] at HR0
 clear hpv
 cases pv with
 | none =>
  have HR1 : xQ (R = .inl (Zi 0 [] 0 tl tc [] [] [], a + 1)) := HR0.o
  simp only [Pd, Option.getD_none, Option.isSome_none]
  go_wp2_with fail
  refine (Vu ⟨3, tx, tl, tc⟩ ⟨0, ⟨#[]⟩, 0, 0, 0, none, 0, 0, none, 0, 0, none, 0, 0⟩ _).mono ?_
  rintro e w4 ⟨rfl, hb⟩
  have C4 := Za (C3.o.below hb)
  clear hb
  obtain ⟨⟨r0, r1, r2, r3, r4, r5, r6, r7⟩, ⟨f0, f1, f2, f3, f4, f5, f6, f7⟩, hr1⟩ := Zh (x := Ze) (C4.o.b1)
  go_wp2_with fail
  rw [HR1.o]
  refine bodyPost_ret (results_cell_row rfl _ _ w.heap.size 27 _ (0, 0) _ rfl (Yj (x := Yu 0 [] 0 ⟨3, tx, tl, tc⟩) C4.o.b1) underlying27 rfl (by kernel_rfl)) rfl ⟨Yr C4.o.st hp (xR) (Yu 0 [] 0 ⟨3, tx, tl, tc⟩), Yv C4.o.ps hp (Yu 0 [] 0 ⟨3, tx, tl, tc⟩), _, rfl, Yu 0 [] 0 ⟨3, tx, tl, tc⟩, rfl, ?_⟩
  exact ((Mm _ _ 0 [] 0 ⟨3, tx, tl, tc⟩).put8 (xU _) (Yu 0 [] 0 ⟨3, tx, tl, tc⟩)).lower (Nat.le_succ _)
 | some N =>
  have HR1 : xQ (R = .inl (Zi 0 [] N tl tc [] [] [], a + 1)) := HR0.o
  simp only [Pd, Option.getD_some, Option.isSome_some]
  go_wp2_with fail
  refine (Vu ⟨3, tx, tl, tc⟩ ⟨0, ⟨#[]⟩, N, 0, 0, none, 0, 0, none, 0, 0, none, 0, 0⟩ _).mono ?_
  rintro e w4 ⟨rfl, hb⟩
  have C4 := Za (C3.o.below hb)
  clear hb
  obtain ⟨⟨r0, r1, r2, r3, r4, r5, r6, r7⟩, ⟨f0, f1, f2, f3, f4, f5, f6, f7⟩, hr1⟩ := Zh (x := Ze) (C4.o.b1)
  go_wp2_with fail
  rw [HR1.o]
  refine bodyPost_ret (results_cell_row rfl _ _ w.heap.size 27 _ (0, 0) _ rfl (Yj (x := Yu 0 [] N ⟨3, tx, tl, tc⟩) C4.o.b1) underlying27 rfl (by kernel_rfl)) rfl ⟨Yr C4.o.st hp (xR) (Yu 0 [] N ⟨3, tx, tl, tc⟩), Yv C4.o.ps hp (Yu 0 [] N ⟨3, tx, tl, tc⟩), _, rfl, Yu 0 [] N ⟨3, tx, tl, tc⟩, rfl, ?_⟩
  exact ((Mm _ _ 0 [] N ⟨3, tx, tl, tc⟩).put8 (xU _) (Yu 0 [] N ⟨3, tx, tl, tc⟩)).lower (Nat.le_succ _)
theorem zbn (pb tb cap d : Nat) (ts : List Tok)  (ok : Z0 ts) (a : Nat) (hk : (Zg ts a).kind = 4) (w : World) (h : Ps w pb tb cap ts a d) :
  Calls prog 231 #[.pointer (some ⟨pb, 0, none⟩)] w (Zs pb tb cap ts d w Zo (.inl (Zi 1 (Zg ts a).text 0 (Zg ts a).line (Zg ts a).col [] [] [], a + 1))) := by
 have H := Za h
 have OK := Za ok
 have hp := h.ltp
 have HN := Za (ok.ends a h.lt (by rw [hk]; decide))
 have HPa := Za (fun w h => V7 pb tb cap a d ts w h HN.o ok.len)
 have HPk := Za (fun w h => Ul pb tb cap a d ts w h)
 have HTx := Za (ok.txt a)
 obtain ⟨t, ht⟩ := xE (Zg ts a)
 rw [← ht] at HPk HPa HTx hk ⊢
 clear ht
 obtain ⟨kd, tx, tl, tc⟩ := t
 obtain rfl : kd = 4 := hk
 have C0 := Za (Xa h Ze.obj)
 obtain ⟨R, hR⟩ : ∃ R : Pr Ty, R = (.inl (Zi 1 tx 0 tl tc [] [] [], a + 1)) := ⟨_, rfl⟩
 rw [← hR]
 have HR0 := Za hR
 clear h ok hR
 go_enter func231, ntmps231
 go_wp2_with fail
 refine (HPk.o _ C0.o.ps).mono ?_
 rintro e w1 ⟨rfl, hb⟩
 have C1 := Za (C0.o.below hb)
 have C2 := Za (C1.o.alloc (Zk ⟨4, tx, tl, tc⟩))
 clear hb
 go_wp2_with fail
 refine (HPa.o _ C2.o.ps).mono ?_
 rintro e w2 ⟨rfl, hst, hps⟩
 have C3 := Za (C2.o.step hst hps)
 clear hst hps
 obtain ⟨⟨k0, k1, k2, k3⟩, _, hk1⟩ := Zr C3.o.b0
 go_wp2_with fail
 refine (Vu ⟨4, tx, tl, tc⟩ ⟨1, ⟨tx.toArray⟩, 0, 0, 0, none, 0, 0, none, 0, 0, none, 0, 0⟩ _).mono ?_
 rintro e w3 ⟨rfl, hb⟩
 have C4 := Za (C3.o.below hb)
 clear hb
 obtain ⟨⟨r0, r1, r2, r3, r4, r5, r6, r7⟩, ⟨f0, f1, f2, f3, f4, f5, f6, f7⟩, hr1⟩ := Zh (x := Ze) (C4.o.b1)
 go_wp2_with fail
 rw [HR0.o]
 refine bodyPost_ret (results_cell_row rfl _ _ w.heap.size 27 _ (0, 0) _ rfl (Yj (x := Yu 1 tx 0 ⟨4, tx, tl, tc⟩) C4.o.b1) underlying27 rfl (by kernel_rfl)) rfl ⟨Yr C4.o.st hp (xR) (Yu 1 tx 0 ⟨4, tx, tl, tc⟩), Yv C4.o.ps hp (Yu 1 tx 0 ⟨4, tx, tl, tc⟩), _, rfl, Yu 1 tx 0 ⟨4, tx, tl, tc⟩, rfl, ?_⟩
 exact ((Mm _ _ 1 tx 0 ⟨4, tx, tl, tc⟩).put8 (xU _) (Yu 1 tx 0 ⟨4, tx, tl, tc⟩)).lower (Nat.le_succ _)
theorem zbw (pb tb cap d : Nat) (ts : List Tok) (K : Nat → Pr Ty) (hK : Yg pb tb cap d ts Zt 30 K) (ok : Z0 ts) (a : Nat) (hk : (Zg ts a).kind = 1) (w : World) (h : Ps w pb tb cap ts a d) :
  Calls prog 231 #[.pointer (some ⟨pb, 0, none⟩)] w (Zs pb tb cap ts d w Zo ((Mn ts K ts.length a).go fun x b => .inl (x, b))) := by
 have H := Za h
 have OK := Za ok
 have hp := h.ltp
 have HNm := Za (fun w h => zgs pb tb cap d ts K hK ok a (ok.ends a h.lt (by rw [hk]; decide)) w h)
 have HPk := Za (fun w h => Ul pb tb cap a d ts w h)
 obtain ⟨t, ht⟩ := xE (Zg ts a)
 rw [← ht] at HPk hk
 clear ht
 obtain ⟨kd, tx, tl, tc⟩ := t
 obtain rfl : kd = 1 := hk
 have C0 := Za (Xa h Ze.obj)
 obtain ⟨R, hR⟩ : ∃ R : Pr Ty, R = ((Mn ts K ts.length a).go fun x b => .inl (x, b)) := ⟨_, rfl⟩
 rw [← hR]
 have HR0 := Za hR
 clear h ok hR hK
 go_enter func231, ntmps231
 go_wp2_with fail
 refine (HPk.o _ C0.o.ps).mono ?_
 rintro e w1 ⟨rfl, hb⟩
 have C1 := Za (C0.o.below hb)
 have C2 := Za (C1.o.alloc (Zk ⟨1, tx, tl, tc⟩))
 clear hb
 go_wp2_with fail
 refine (HNm.o _ C2.o.ps).mono ?_
 intro e w2 zhm
 rcases Zy zhm with ⟨er, li, co, hr, rfl, hst⟩ | ⟨D, b, v, hr, rfl, hst, hps, hv⟩
 ·have HE : xQ (R = .inr (er, li, co)) := by rw [HR0.o, hr]; exact rfl
  have HF := Za (C2.o.st.trans hst)
  clear hr hst zhm
  go_wp2_with fail
  exact ⟨rfl, HF.o, by rw [HE.o]⟩
 have HR1 : xQ (R = .inl (D, b)) := by rw [HR0.o, hr]; exact rfl
 obtain ⟨x, rfl, hv⟩ := hv
 have C3 := Za ((C2.o.step hst hps).addN hv C2.o.sz)
 clear hr hst hps zhm hv
 obtain ⟨⟨r0, r1, r2, r3, r4, r5, r6, r7⟩, ⟨f0, f1, f2, f3, f4, f5, f6, f7⟩, hr1⟩ := Zh (x := Ze) (C3.o.b1)
 go_wp2_with fail
 rw [HR1.o]
 refine bodyPost_ret (results_cell_row rfl _ _ w.heap.size 27 _ (0, 0) _ rfl (Yj (x := x) C3.o.b1) underlying27 rfl (by kernel_rfl)) rfl ⟨Yr C3.o.st hp (xR) (x), Yv C3.o.ps hp (x), _, rfl, x, rfl, ?_⟩
 exact ((C3.o.n0).put8 (xU _) (x)).lower (Nat.le_succ _)
theorem zfs (pb tb cap d : Nat) (ts : List Tok)  (ok : Z0 ts) (a : Nat) (hk3 : (Zg ts a).kind ≠ 3) (hk4 : (Zg ts a).kind ≠ 4) (hk1 : (Zg ts a).kind ≠ 1) (w : World) (h : Ps w pb tb cap ts a d) :
  Calls prog 231 #[.pointer (some ⟨pb, 0, none⟩)] w (Zs pb tb cap ts d w Zo ((Ys ts 7 a : Pr Ty))) := by
 have H := Za h
 have OK := Za ok
 have hp := h.ltp
 have HV := Za (fun wx (hx : Ps wx pb tb cap ts a d) => M6 pb tb cap a d ts wx hx 7)
 have HPk := Za (fun w h => Ul pb tb cap a d ts w h)
 unfold Ys
 obtain ⟨t, ht⟩ := xE (Zg ts a)
 rw [← ht] at HPk HV hk3 hk4 hk1 ⊢
 clear ht
 obtain ⟨kd, tx, tl, tc⟩ := t
 have e3 : (kd == 3) = false := by simpa using hk3
 have e4 : (kd == 4) = false := by simpa using hk4
 have e1 : (kd == 1) = false := by simpa using hk1
 clear hk3 hk4 hk1
 have C0 := Za (Xa h Ze.obj)
 obtain ⟨R, hR⟩ : ∃ R : Pr Ty, R = (.inr (7, tl, tc)) := ⟨_, rfl⟩
 rw [← hR]
 have HR0 := Za hR
 clear h ok hR
 go_enter func231, ntmps231
 go_wp2_with fail
 refine (HPk.o _ C0.o.ps).mono ?_
 rintro e w1 ⟨rfl, hb⟩
 have C1 := Za (C0.o.below hb)
 have C2 := Za (C1.o.alloc (Zk ⟨kd, tx, tl, tc⟩))
 clear hb
 go_wp2_with fail
 refine (HV.o _ C2.o.ps).mono ?_
 rintro e w2 ⟨rfl, hb⟩
 have C3 := Za (C2.o.below hb)
 clear hb
 go_wp2_with fail
 exact ⟨rfl, C3.o.st, by rw [HR0.o]⟩
def N7 (ts : List Tok) (K : Nat → Pr Ty) (f a : Nat) : Pr Ty :=
 if (Zg ts a).kind = 3 then .inl (Zi 0 [] ((Ww (Zg ts a).text).getD 0) (Zg ts a).line (Zg ts a).col [] [] [], a + 1)
 else if (Zg ts a).kind = 4 then .inl (Zi 1 (Zg ts a).text 0 (Zg ts a).line (Zg ts a).col [] [] [], a + 1)
 else if (Zg ts a).kind = 1 then Mn ts K f a else Ys ts 7 a
theorem zdi (pb tb cap d : Nat) (ts : List Tok) (K : Nat → Pr Ty) (hK : Yg pb tb cap d ts Zt 30 K) (ok : Z0 ts) (a : Nat) (w : World) (h : Ps w pb tb cap ts a d) :
  Calls prog 231 #[.pointer (some ⟨pb, 0, none⟩)] w (Zs pb tb cap ts d w Zo (N7 ts K ts.length a)) := by
 unfold N7
 by_cases h3 : (Zg ts a).kind = 3
 ·rw [if_pos h3]
  exact zep pb tb cap d ts ok a h3 w h
 ·rw [if_neg h3]
  by_cases h4 : (Zg ts a).kind = 4
  ·rw [if_pos h4]
   exact zbn pb tb cap d ts ok a h4 w h
  ·rw [if_neg h4]
   by_cases h1 : (Zg ts a).kind = 1
   ·rw [if_pos h1]
    have := zbw pb tb cap d ts K hK ok a h1 w h
    cases hp : Mn ts K ts.length a with
    | inl p => rw [hp] at this; exact this
    | inr p => rw [hp] at this; exact this
   ·rw [if_neg h1]
    exact zfs pb tb cap d ts ok a h3 h4 h1 w h
abbrev Np (t : Tok) (kb : Nat) : NV := ⟨17, ⟨#[]⟩, 0, t.line, t.col, none, 0, 0, none, 0, 0, some ⟨kb, 0, none⟩, 1, 1⟩
def Lf (t : Tok) (D : Ty) : Ty := match D with
 | .agg [k, tx, n, _, _, a, b, c] => .agg [k, tx, n, .lit (.int .i64 t.line), .lit (.int .i64 t.col), a, b, c]
 | D => D
theorem Cv {lo : Nat} {w : World} {y : NV} {D : Ty} (h : Zv lo w y D) (t : Tok) : Zv lo w { y with li := t.line, co := t.col } (Lf t D) := by
 obtain ⟨k, tx, N, l, c, tys, ns, ks, rfl, h2⟩ := h.place t.line t.col
 exact h2
abbrev V0 : List (List UInt8) := [[116, 114, 117, 101], [102, 97, 108, 115, 101], [110, 117, 108, 108]]
theorem Hd (pb tb cap d a : Nat) (ts : List Tok) (r0 : Pr Ty) (hc : ∀ w, Ps w pb tb cap ts a d → Calls prog 229 #[.pointer (some ⟨pb, 0, none⟩)] w (Zs pb tb cap ts d w Zo r0)) (ok : Z0 ts) (h3 : (V0.any fun s => Zc ts a s) = true) (w : World) (h : Ps w pb tb cap ts a d) :
  Calls prog 227 #[.pointer (some ⟨pb, 0, none⟩)] w (Zs pb tb cap ts d w Zo (r0.go fun x b => .inl (x, b))) := by
 have H := Za h
 have OK := Za ok
 have hp := h.ltp
 have HC := Za (hc)
 have Hh3 := Za h3
 have HPk := Za (fun w h => Ul pb tb cap a d ts w h)
 obtain ⟨t, ht⟩ := xE (Zg ts a)
 rw [← ht] at HPk
 have HTk := Za ht
 clear ht
 have C0 := Za (Xa h Ze.obj)
 obtain ⟨R, hR⟩ : ∃ R : Pr Ty, R = (r0.go fun x b => .inl (x, b)) := ⟨_, rfl⟩
 rw [← hR]
 have HR0 := Za hR
 clear h ok hR hc h3
 go_enter func227, ntmps227
 go_wp2_with fail
 refine (HPk.o _ C0.o.ps).mono ?_
 rintro e w1 ⟨rfl, hb⟩
 have C1 := Za (C0.o.below hb)
 have C2 := Za (C1.o.alloc (Zk t))
 clear hb
 go_wp2_with fail
 refine (Y3 pb tb cap a _ 3 ts V0 _ _ C2.o.ps.rd (by simp) (by simp)).mono ?_
 rw [Hh3.o]
 rintro e w2 ⟨rfl, hb⟩
 have C3 := Za (C2.o.below hb)
 clear hb
 go_wp2_with fail
 refine (HC.o _ C3.o.ps).mono ?_
 intro e w3 zhm
 rcases Zy zhm with ⟨er, li, co, hr, rfl, hst⟩ | ⟨D, b, v, hr, rfl, hst, hps, hv⟩
 ·have HE : xQ (R = .inr (er, li, co)) := by rw [HR0.o, hr]; exact rfl
  have HF := Za (C3.o.st.trans hst)
  clear hr hst zhm
  go_wp2_with fail
  exact ⟨rfl, HF.o, by rw [HE.o]⟩
 have HR1 : xQ (R = .inl (D, b)) := by rw [HR0.o, hr]; exact rfl
 obtain ⟨x, rfl, hv⟩ := hv
 have C4 := Za ((C3.o.step hst hps).addN hv C3.o.sz)
 clear hr hst hps zhm hv
 obtain ⟨⟨r0, r1, r2, r3, r4, r5, r6, r7⟩, ⟨f0, f1, f2, f3, f4, f5, f6, f7⟩, hr1⟩ := Zh (x := Ze) (C4.o.b1)
 go_wp2_with fail
 rw [HR1.o]
 refine bodyPost_ret (results_cell_row rfl _ _ w.heap.size 27 _ (0, 0) _ rfl (Yj (x := x) C4.o.b1) underlying27 rfl (by kernel_rfl)) rfl ⟨Yr C4.o.st hp (xR) (x), Yv C4.o.ps hp (x), _, rfl, x, rfl, ?_⟩
 exact ((C4.o.n0).put8 (xU _) (x)).lower (Nat.le_succ _)
theorem zco (pb tb cap d : Nat) (ts : List Tok) (E : Nat → Pr Ty) (hE : Yg pb tb cap d ts Zo 23 E) (ok : Z0 ts) (a : Nat) (h3 : (V0.any fun s => Zc ts a s) = false) (hp1 : Zc ts a [112, 114, 105, 110, 116] = true) (w : World) (h : Ps w pb tb cap ts a d) :
  Calls prog 227 #[.pointer (some ⟨pb, 0, none⟩)] w (Zs pb tb cap ts d w Zo (((Zb ts (a + 1) [40]).go fun _ b => (E b).go fun x b => (Zb ts b [41]).go fun _ b => .inl (x, b)).go fun x b => .inl (Zi 17 [] 0 (Zg ts a).line (Zg ts a).col [] [] [x], b))) := by
 have H := Za h
 have OK := Za ok
 have hp := h.ltp
 have HI := Za (fun w h => Hy pb tb cap d ts E hE ok (a + 1) w h)
 have Hh3 := Za h3
 have Hhp1 := Za hp1
 have HPk := Za (fun w h => Ul pb tb cap a d ts w h)
 obtain ⟨t, ht⟩ := xE (Zg ts a)
 rw [← ht] at HPk
 have HTk := Za ht
 clear ht
 have C0 := Za (Xa h Ze.obj)
 obtain ⟨R, hR⟩ : ∃ R : Pr Ty, R = (((Zb ts (a + 1) [40]).go fun _ b => (E b).go fun x b => (Zb ts b [41]).go fun _ b => .inl (x, b)).go fun x b => .inl (Zi 17 [] 0 (Zg ts a).line (Zg ts a).col [] [] [x], b)) := ⟨_, rfl⟩
 rw [← hR]
 have HR0 := Za hR
 clear h ok hR hE h3 hp1
 go_enter func227, ntmps227
 go_wp2_with fail
 refine (HPk.o _ C0.o.ps).mono ?_
 rintro e w1 ⟨rfl, hb⟩
 have C1 := Za (C0.o.below hb)
 have C2 := Za (C1.o.alloc (Zk t))
 clear hb
 go_wp2_with fail
 rw [← HTk.o] at HR0
 refine (Y3 pb tb cap a _ 3 ts V0 _ _ C2.o.ps.rd (by simp) (by simp)).mono ?_
 rw [Hh3.o]
 rintro e w2 ⟨rfl, hb⟩
 have C3 := Za (C2.o.below hb)
 clear hb
 go_wp2_with fail
 refine (Xb pb tb cap a d ts [112, 114, 105, 110, 116] _ C3.o.ps OK.o).mono ?_
 rw [Hhp1.o, if_pos rfl]
 rintro e w3 ⟨rfl, hst, hps⟩
 have C4 := Za (C3.o.step hst hps)
 clear hst hps
 obtain ⟨⟨k0, k1, k2, k3⟩, _, hk1⟩ := Zr C4.o.b0
 go_wp2_with fail
 have hne0 : w1.heap.size ≠ w.heap.size := by have := C1.o.sz; omega
 have hS0 : (((w3).drew).cell? ⟨w1.heap.size, 0, none⟩ = some (.int .i64 t.kind) ∧ ((w3).drew).cell? ⟨w1.heap.size, 1, none⟩ = some (.string ⟨t.text.toArray⟩) ∧ ((w3).drew).cell? ⟨w1.heap.size, 2, none⟩ = some (.int .i64 t.line) ∧ ((w3).drew).cell? ⟨w1.heap.size, 3, none⟩ = some (.int .i64 t.col)) := (Z7 (C4.o.drew.b0))
 have HC : xQ (Calls prog 228 #[.pointer (some ⟨pb, 0, none⟩)] (w3).drew fun e w9 => (∃ chain, e = .panicked chain ∧ Zs pb tb cap ts d w Zo R e w9) ∨ ∃ (y : NV) (D : Ty) (b2 : Nat), e = .returned (y.val) ∧ ((w9.cell? ⟨w1.heap.size, 0, none⟩ = some (.int .i64 t.kind) ∧ w9.cell? ⟨w1.heap.size, 1, none⟩ = some (.string ⟨t.text.toArray⟩) ∧ w9.cell? ⟨w1.heap.size, 2, none⟩ = some (.int .i64 t.line) ∧ w9.cell? ⟨w1.heap.size, 3, none⟩ = some (.int .i64 t.col))) ∧ xQ (R = .inl (Zi 17 [] 0 t.line t.col [] [] [D], b2) ∧ Z5 pb tb cap d ts w w9 b2 [(w1.heap.size, Zk t), (w.heap.size, Ze.obj)] [(y, D)] [])) := by
  refine (HI.o _ C4.o.drew.ps).mono ?_
  intro e w9 zhm
  rcases Zy zhm with ⟨er, li, co, hr, rfl, hst⟩ | ⟨D, b2, v, hr, rfl, hst, hps, hv⟩
  ·exact .inl ⟨_, rfl, C4.o.drew.st.trans hst, by rw [HR0.o, hr]; rfl⟩
  obtain ⟨y, rfl, hv⟩ := hv
  have CN := (C4.o.drew.step hst hps).addN hv C4.o.drew.sz
  exact .inr ⟨y, D, b2, rfl, (Z7 (CN.b0)), by rw [HR0.o, hr]; rfl, CN⟩
 go_wp2_with fail
 go_region_held (fun W => (W.cell? ⟨w1.heap.size, 0, none⟩ = some (.int .i64 t.kind) ∧ W.cell? ⟨w1.heap.size, 1, none⟩ = some (.string ⟨t.text.toArray⟩) ∧ W.cell? ⟨w1.heap.size, 2, none⟩ = some (.int .i64 t.line) ∧ W.cell? ⟨w1.heap.size, 3, none⟩ = some (.int .i64 t.col))) (first | with_reducible assumption | with_reducible exact HS3.o _ | with_reducible exact HS4.o _ _ _ _ _ _ _ _) (first
  | (go_at_call 228; refine HC.o.mono ?_; rintro e w9 (⟨ch, rfl, hf⟩ | ⟨y, D, b2, rfl, t5, HX⟩); exact ⟨rfl, hf⟩; have HS3 : xQ (∀ o, (((w9.alloc o)).cell? ⟨w1.heap.size, 0, none⟩ = some (.int .i64 t.kind) ∧ ((w9.alloc o)).cell? ⟨w1.heap.size, 1, none⟩ = some (.string ⟨t.text.toArray⟩) ∧ ((w9.alloc o)).cell? ⟨w1.heap.size, 2, none⟩ = some (.int .i64 t.line) ∧ ((w9.alloc o)).cell? ⟨w1.heap.size, 3, none⟩ = some (.int .i64 t.col))) := (fun o => (Z7 ((HX.o.2.alloc o).b1))))
  | (go_at_call 171; refine (Vu t ⟨17, ⟨#[]⟩, 0, 0, 0, none, 0, 0, none, 0, 0, some ⟨w9.heap.size, 0, none⟩, 1, 1⟩ _).mono ?_; rintro e w10 ⟨rfl, hb⟩; have HX2 := Za ((HX.o.2.alloc _).below hb); have t6 : (w10.cell? ⟨w1.heap.size, 0, none⟩ = some (.int .i64 t.kind) ∧ w10.cell? ⟨w1.heap.size, 1, none⟩ = some (.string ⟨t.text.toArray⟩) ∧ w10.cell? ⟨w1.heap.size, 2, none⟩ = some (.int .i64 t.line) ∧ w10.cell? ⟨w1.heap.size, 3, none⟩ = some (.int .i64 t.col)) := (Z7 (HX2.o.b1)); have HB8 := Za (Zh (x := Ze) (HX2.o.b2)); obtain ⟨⟨r0, r1, r2, r3, r4, r5, r6, r7⟩, ⟨f0, f1, f2, f3, f4, f5, f6, f7⟩, hr1⟩ := HB8.o; have HS4 : xQ (∀ v0 v1 v2 v3 v4 v5 v6 v7, (((Z2 w10 w.heap.size v0 v1 v2 v3 v4 v5 v6 v7)).cell? ⟨w1.heap.size, 0, none⟩ = some (.int .i64 t.kind) ∧ ((Z2 w10 w.heap.size v0 v1 v2 v3 v4 v5 v6 v7)).cell? ⟨w1.heap.size, 1, none⟩ = some (.string ⟨t.text.toArray⟩) ∧ ((Z2 w10 w.heap.size v0 v1 v2 v3 v4 v5 v6 v7)).cell? ⟨w1.heap.size, 2, none⟩ = some (.int .i64 t.line) ∧ ((Z2 w10 w.heap.size v0 v1 v2 v3 v4 v5 v6 v7)).cell? ⟨w1.heap.size, 3, none⟩ = some (.int .i64 t.col))) := (fun v0 v1 v2 v3 v4 v5 v6 v7 => (Z7 ((Vo hne0 v0 v1 v2 v3 v4 v5 v6 v7).trans (HX2.o.b1)))); clear hb))
 all_goals
  go_wp2_with fail
  rw [HX.o.1]
  refine bodyPost_ret (results_cell_row rfl _ _ w.heap.size 27 _ (0, 0) _ rfl (Yj (x := Np t w9.heap.size) HX2.o.b2) underlying27 rfl (by kernel_rfl)) rfl ⟨Yr HX2.o.st hp (xR) (Np t w9.heap.size), Yv HX2.o.ps hp (Np t w9.heap.size), _, rfl, Np t w9.heap.size, rfl, ?_⟩
  exact ((V2 HX2.o.n0 HX2.o.b0 (by have := HX.o.2.sz; omega) (Np t w9.heap.size) [] [] ⟨rfl, rfl⟩ ⟨rfl, xZ _, 0, .inl rfl⟩ ⟨rfl, xZ _, .inl rfl⟩).put8 (xU _) (Np t w9.heap.size)).lower (Nat.le_succ _)
theorem zhd (pb tb cap d : Nat) (ts : List Tok)  (ok : Z0 ts) (a : Nat) (h3 : (V0.any fun s => Zc ts a s) = false) (hp1 : Zc ts a [112, 114, 105, 110, 116] = false) (hr1 : Zc ts a [114, 101, 97, 100] = true) (w : World) (h : Ps w pb tb cap ts a d) :
  Calls prog 227 #[.pointer (some ⟨pb, 0, none⟩)] w (Zs pb tb cap ts d w Zo ((Zb ts (a + 1) [40]).go fun _ b => (Zb ts b [41]).go fun _ b => .inl (Zi 18 [] 0 (Zg ts a).line (Zg ts a).col [] [] [], b))) := by
 have H := Za h
 have OK := Za ok
 have hp := h.ltp
 have Hh3 := Za h3
 have Hhp1 := Za hp1
 have Hhr1 := Za hr1
 have HPk := Za (fun w h => Ul pb tb cap a d ts w h)
 obtain ⟨t, ht⟩ := xE (Zg ts a)
 rw [← ht] at HPk
 have HTk := Za ht
 clear ht
 have C0 := Za (Xa h Ze.obj)
 obtain ⟨R, hR⟩ : ∃ R : Pr Ty, R = ((Zb ts (a + 1) [40]).go fun _ b => (Zb ts b [41]).go fun _ b => .inl (Zi 18 [] 0 (Zg ts a).line (Zg ts a).col [] [] [], b)) := ⟨_, rfl⟩
 rw [← hR]
 have HR0 := Za hR
 clear h ok hR  h3 hp1 hr1
 go_enter func227, ntmps227
 go_wp2_with fail
 refine (HPk.o _ C0.o.ps).mono ?_
 rintro e w1 ⟨rfl, hb⟩
 have C1 := Za (C0.o.below hb)
 have C2 := Za (C1.o.alloc (Zk t))
 clear hb
 go_wp2_with fail
 rw [← HTk.o] at HR0
 refine (Y3 pb tb cap a _ 3 ts V0 _ _ C2.o.ps.rd (by simp) (by simp)).mono ?_
 rw [Hh3.o]
 rintro e w2 ⟨rfl, hb⟩
 have C3 := Za (C2.o.below hb)
 clear hb
 go_wp2_with fail
 refine (Xb pb tb cap a d ts [112, 114, 105, 110, 116] _ C3.o.ps OK.o).mono ?_
 rw [Hhp1.o, if_neg (by simp)]
 rintro e w3 ⟨rfl, hst, hps⟩
 have C4 := Za (C3.o.step hst hps)
 clear hst hps
 go_wp2_with fail
 refine (Xb pb tb cap a d ts [114, 101, 97, 100] _ C4.o.ps OK.o).mono ?_
 rw [Hhr1.o, if_pos rfl]
 rintro e w4 ⟨rfl, hst, hps⟩
 have C5 := Za (C4.o.step hst hps)
 clear hst hps
 go_wp2_with fail
 refine (Y6 pb tb cap (a + 1) d ts [40] _ C5.o.ps OK.o).mono ?_
 intro e w5 zhm
 rcases Zy zhm with ⟨er, li, co, hr, rfl, hst⟩ | ⟨u1, b1, v1, hr, rfl, hst, hps, hv⟩
 ·have HE : xQ (R = .inr (er, li, co)) := by rw [HR0.o, hr]; exact rfl
  have HF := Za (C5.o.st.trans hst)
  clear hr hst zhm
  go_wp2_with fail
  exact ⟨rfl, HF.o, by rw [HE.o]⟩
 have HR1 : xQ (R = (Zb ts b1 [41]).go fun _ b => .inl (Zi 18 [] 0 t.line t.col [] [] [], b)) := by rw [HR0.o, hr]; exact rfl
 have C6 := Za ((C5.o.step hst hps))
 clear hr hst hps zhm hv
 go_wp2_with fail
 refine (Y6 pb tb cap b1 d ts [41] _ C6.o.ps OK.o).mono ?_
 intro e w6 zhm
 rcases Zy zhm with ⟨er, li, co, hr, rfl, hst⟩ | ⟨u2, b2, v2, hr, rfl, hst, hps, hv⟩
 ·have HE : xQ (R = .inr (er, li, co)) := by rw [HR1.o, hr]; exact rfl
  have HF := Za (C6.o.st.trans hst)
  clear hr hst zhm
  go_wp2_with fail
  exact ⟨rfl, HF.o, by rw [HE.o]⟩
 have HR2 : xQ (R = .inl (Zi 18 [] 0 t.line t.col [] [] [], b2)) := by rw [HR1.o, hr]; exact rfl
 have C7 := Za ((C6.o.step hst hps))
 clear hr hst hps zhm hv
 obtain ⟨⟨k0, k1, k2, k3⟩, _, hk1⟩ := Zr C7.o.b0
 go_wp2_with fail
 refine (Vu t ⟨18, ⟨#[]⟩, 0, 0, 0, none, 0, 0, none, 0, 0, none, 0, 0⟩ _).mono ?_
 rintro e w7 ⟨rfl, hb⟩
 have C8 := Za (C7.o.below hb)
 clear hb
 obtain ⟨⟨r0, r1, r2, r3, r4, r5, r6, r7⟩, ⟨f0, f1, f2, f3, f4, f5, f6, f7⟩, hr1⟩ := Zh (x := Ze) (C8.o.b1)
 go_wp2_with fail
 rw [HR2.o]
 refine bodyPost_ret (results_cell_row rfl _ _ w.heap.size 27 _ (0, 0) _ rfl (Yj (x := Yu 18 [] 0 t) C8.o.b1) underlying27 rfl (by kernel_rfl)) rfl ⟨Yr C8.o.st hp (xR) (Yu 18 [] 0 t), Yv C8.o.ps hp (Yu 18 [] 0 t), _, rfl, Yu 18 [] 0 t, rfl, ?_⟩
 exact ((Mm _ _ 18 [] 0 t).put8 (xU _) (Yu 18 [] 0 t)).lower (Nat.le_succ _)
theorem zdg (pb tb cap d : Nat) (ts : List Tok) (E : Nat → Pr Ty) (hE : Yg pb tb cap d ts Zo 23 E) (ok : Z0 ts) (a : Nat) (h3 : (V0.any fun s => Zc ts a s) = false) (hp1 : Zc ts a [112, 114, 105, 110, 116] = false) (hr1 : Zc ts a [114, 101, 97, 100] = false) (hb1 : Zc ts a [40] = true) (w : World) (h : Ps w pb tb cap ts a d) :
  Calls prog 227 #[.pointer (some ⟨pb, 0, none⟩)] w (Zs pb tb cap ts d w Zo (((Zb ts a [40]).go fun _ b => (E b).go fun x b => (Zb ts b [41]).go fun _ b => .inl (x, b)).go fun x b => .inl (x, b))) := by
 have H := Za h
 have OK := Za ok
 have hp := h.ltp
 have HI := Za (fun w h => Hy pb tb cap d ts E hE ok a w h)
 have Hh3 := Za h3
 have Hhp1 := Za hp1
 have Hhr1 := Za hr1
 have Hhb1 := Za hb1
 have HPk := Za (fun w h => Ul pb tb cap a d ts w h)
 obtain ⟨t, ht⟩ := xE (Zg ts a)
 rw [← ht] at HPk
 have HTk := Za ht
 clear ht
 have C0 := Za (Xa h Ze.obj)
 obtain ⟨R, hR⟩ : ∃ R : Pr Ty, R = (((Zb ts a [40]).go fun _ b => (E b).go fun x b => (Zb ts b [41]).go fun _ b => .inl (x, b)).go fun x b => .inl (x, b)) := ⟨_, rfl⟩
 rw [← hR]
 have HR0 := Za hR
 clear h ok hR hE h3 hp1 hr1 hb1
 go_enter func227, ntmps227
 go_wp2_with fail
 refine (HPk.o _ C0.o.ps).mono ?_
 rintro e w1 ⟨rfl, hb⟩
 have C1 := Za (C0.o.below hb)
 have C2 := Za (C1.o.alloc (Zk t))
 clear hb
 go_wp2_with fail
 refine (Y3 pb tb cap a _ 3 ts V0 _ _ C2.o.ps.rd (by simp) (by simp)).mono ?_
 rw [Hh3.o]
 rintro e w2 ⟨rfl, hb⟩
 have C3 := Za (C2.o.below hb)
 clear hb
 go_wp2_with fail
 refine (Xb pb tb cap a d ts [112, 114, 105, 110, 116] _ C3.o.ps OK.o).mono ?_
 rw [Hhp1.o, if_neg (by simp)]
 rintro e w3 ⟨rfl, hst, hps⟩
 have C4 := Za (C3.o.step hst hps)
 clear hst hps
 go_wp2_with fail
 refine (Xb pb tb cap a d ts [114, 101, 97, 100] _ C4.o.ps OK.o).mono ?_
 rw [Hhr1.o, if_neg (by simp)]
 rintro e w4 ⟨rfl, hst, hps⟩
 have C5 := Za (C4.o.step hst hps)
 clear hst hps
 go_wp2_with fail
 refine (Y3 pb tb cap a _ 1 ts [[40]] _ _ C5.o.ps.rd (by simp) (by simp)).mono ?_
 rw [Xi, Hhb1.o]
 rintro e w5 ⟨rfl, hb⟩
 have C6 := Za (C5.o.below hb)
 clear hb
 go_wp2_with fail
 refine (HI.o _ C6.o.ps).mono ?_
 intro e w6 zhm
 rcases Zy zhm with ⟨er, li, co, hr, rfl, hst⟩ | ⟨D, b, v, hr, rfl, hst, hps, hv⟩
 ·have HE : xQ (R = .inr (er, li, co)) := by rw [HR0.o, hr]; exact rfl
  have HF := Za (C6.o.st.trans hst)
  clear hr hst zhm
  go_wp2_with fail
  exact ⟨rfl, HF.o, by rw [HE.o]⟩
 have HR1 : xQ (R = .inl (D, b)) := by rw [HR0.o, hr]; exact rfl
 obtain ⟨x, rfl, hv⟩ := hv
 have C7 := Za ((C6.o.step hst hps).addN hv C6.o.sz)
 clear hr hst hps zhm hv
 obtain ⟨⟨r0, r1, r2, r3, r4, r5, r6, r7⟩, ⟨f0, f1, f2, f3, f4, f5, f6, f7⟩, hr1⟩ := Zh (x := Ze) (C7.o.b1)
 go_wp2_with fail
 rw [HR1.o]
 refine bodyPost_ret (results_cell_row rfl _ _ w.heap.size 27 _ (0, 0) _ rfl (Yj (x := x) C7.o.b1) underlying27 rfl (by kernel_rfl)) rfl ⟨Yr C7.o.st hp (xR) (x), Yv C7.o.ps hp (x), _, rfl, x, rfl, ?_⟩
 exact ((C7.o.n0).put8 (xU _) (x)).lower (Nat.le_succ _)
theorem Ef (pb tb cap d : Nat) (ts : List Tok) (K : Nat → Pr Ty) (hK : Yg pb tb cap d ts Zt 30 K) (ok : Z0 ts) (a : Nat) (h3 : (V0.any fun s => Zc ts a s) = false) (hp1 : Zc ts a [112, 114, 105, 110, 116] = false) (hr1 : Zc ts a [114, 101, 97, 100] = false) (hb1 : Zc ts a [40] = false) (hc1 : Zc ts a [123] = false) (w : World) (h : Ps w pb tb cap ts a d) :
  Calls prog 227 #[.pointer (some ⟨pb, 0, none⟩)] w (Zs pb tb cap ts d w Zo ((N7 ts K ts.length a).go fun x b => .inl (x, b))) := by
 have H := Za h
 have OK := Za ok
 have hp := h.ltp
 have HI := Za (fun w h => zdi pb tb cap d ts K hK ok a w h)
 have Hh3 := Za h3
 have Hhp1 := Za hp1
 have Hhr1 := Za hr1
 have Hhb1 := Za hb1
 have Hhc1 := Za hc1
 have HPk := Za (fun w h => Ul pb tb cap a d ts w h)
 obtain ⟨t, ht⟩ := xE (Zg ts a)
 rw [← ht] at HPk
 have HTk := Za ht
 clear ht
 have C0 := Za (Xa h Ze.obj)
 obtain ⟨R, hR⟩ : ∃ R : Pr Ty, R = ((N7 ts K ts.length a).go fun x b => .inl (x, b)) := ⟨_, rfl⟩
 rw [← hR]
 have HR0 := Za hR
 clear h ok hR hK h3 hp1 hr1 hb1 hc1
 go_enter func227, ntmps227
 go_wp2_with fail
 refine (HPk.o _ C0.o.ps).mono ?_
 rintro e w1 ⟨rfl, hb⟩
 have C1 := Za (C0.o.below hb)
 have C2 := Za (C1.o.alloc (Zk t))
 clear hb
 go_wp2_with fail
 refine (Y3 pb tb cap a _ 3 ts V0 _ _ C2.o.ps.rd (by simp) (by simp)).mono ?_
 rw [Hh3.o]
 rintro e w2 ⟨rfl, hb⟩
 have C3 := Za (C2.o.below hb)
 clear hb
 go_wp2_with fail
 refine (Xb pb tb cap a d ts [112, 114, 105, 110, 116] _ C3.o.ps OK.o).mono ?_
 rw [Hhp1.o, if_neg (by simp)]
 rintro e w3 ⟨rfl, hst, hps⟩
 have C4 := Za (C3.o.step hst hps)
 clear hst hps
 go_wp2_with fail
 refine (Xb pb tb cap a d ts [114, 101, 97, 100] _ C4.o.ps OK.o).mono ?_
 rw [Hhr1.o, if_neg (by simp)]
 rintro e w4 ⟨rfl, hst, hps⟩
 have C5 := Za (C4.o.step hst hps)
 clear hst hps
 go_wp2_with fail
 refine (Y3 pb tb cap a _ 1 ts [[40]] _ _ C5.o.ps.rd (by simp) (by simp)).mono ?_
 rw [Xi, Hhb1.o]
 rintro e w5 ⟨rfl, hb⟩
 have C6 := Za (C5.o.below hb)
 clear hb
 go_wp2_with fail
 refine (Xb pb tb cap a d ts [123] _ C6.o.ps OK.o).mono ?_
 rw [Hhc1.o, if_neg (by simp)]
 rintro e w6 ⟨rfl, hst, hps⟩
 have C7 := Za (C6.o.step hst hps)
 clear hst hps
 go_wp2_with fail
 refine (HI.o _ C7.o.ps).mono ?_
 intro e w7 zhm
 rcases Zy zhm with ⟨er, li, co, hr, rfl, hst⟩ | ⟨D, b, v, hr, rfl, hst, hps, hv⟩
 ·have HE : xQ (R = .inr (er, li, co)) := by rw [HR0.o, hr]; exact rfl
  have HF := Za (C7.o.st.trans hst)
  clear hr hst zhm
  go_wp2_with fail
  exact ⟨rfl, HF.o, by rw [HE.o]⟩
 have HR1 : xQ (R = .inl (D, b)) := by rw [HR0.o, hr]; exact rfl
 obtain ⟨x, rfl, hv⟩ := hv
 have C8 := Za ((C7.o.step hst hps).addN hv C7.o.sz)
 clear hr hst hps zhm hv
 obtain ⟨⟨r0, r1, r2, r3, r4, r5, r6, r7⟩, ⟨f0, f1, f2, f3, f4, f5, f6, f7⟩, hr1⟩ := Zh (x := Ze) (C8.o.b1)
 go_wp2_with fail
 rw [HR1.o]
 refine bodyPost_ret (results_cell_row rfl _ _ w.heap.size 27 _ (0, 0) _ rfl (Yj (x := x) C8.o.b1) underlying27 rfl (by kernel_rfl)) rfl ⟨Yr C8.o.st hp (xR) (x), Yv C8.o.ps hp (x), _, rfl, x, rfl, ?_⟩
 exact ((C8.o.n0).put8 (xU _) (x)).lower (Nat.le_succ _)
theorem zeh (pb tb cap d : Nat) (ts : List Tok) (E : Nat → Pr Ty) (hE : Yg pb tb cap d ts Zo 23 E) (ok : Z0 ts) (a : Nat) (h3 : (V0.any fun s => Zc ts a s) = false) (hp1 : Zc ts a [112, 114, 105, 110, 116] = false) (hr1 : Zc ts a [114, 101, 97, 100] = false) (hb1 : Zc ts a [40] = false) (hc1 : Zc ts a [123] = true) (w : World) (h : Ps w pb tb cap ts a d) :
  Calls prog 227 #[.pointer (some ⟨pb, 0, none⟩)] w (Zs pb tb cap ts d w Zo ((Bc ts E ts.length (a + 1)).go fun x b => .inl (Lf (Zg ts a) x, b))) := by
 have H := Za h
 have OK := Za ok
 have hp := h.ltp
 have HI := Za (fun w h => zbu pb tb cap d ts E hE ok (a + 1) w h)
 have Hh3 := Za h3
 have Hhp1 := Za hp1
 have Hhr1 := Za hr1
 have Hhb1 := Za hb1
 have Hhc1 := Za hc1
 have HPk := Za (fun w h => Ul pb tb cap a d ts w h)
 obtain ⟨t, ht⟩ := xE (Zg ts a)
 rw [← ht] at HPk
 have HTk := Za ht
 clear ht
 have C0 := Za (Xa h Ze.obj)
 obtain ⟨R, hR⟩ : ∃ R : Pr Ty, R = ((Bc ts E ts.length (a + 1)).go fun x b => .inl (Lf (Zg ts a) x, b)) := ⟨_, rfl⟩
 rw [← hR]
 have HR0 := Za hR
 clear h ok hR hE h3 hp1 hr1 hb1 hc1
 go_enter func227, ntmps227
 go_wp2_with fail
 refine (HPk.o _ C0.o.ps).mono ?_
 rintro e w1 ⟨rfl, hb⟩
 have C1 := Za (C0.o.below hb)
 have C2 := Za (C1.o.alloc (Zk t))
 clear hb
 go_wp2_with fail
 rw [← HTk.o] at HR0
 refine (Y3 pb tb cap a _ 3 ts V0 _ _ C2.o.ps.rd (by simp) (by simp)).mono ?_
 rw [Hh3.o]
 rintro e w2 ⟨rfl, hb⟩
 have C3 := Za (C2.o.below hb)
 clear hb
 go_wp2_with fail
 refine (Xb pb tb cap a d ts [112, 114, 105, 110, 116] _ C3.o.ps OK.o).mono ?_
 rw [Hhp1.o, if_neg (by simp)]
 rintro e w3 ⟨rfl, hst, hps⟩
 have C4 := Za (C3.o.step hst hps)
 clear hst hps
 go_wp2_with fail
 refine (Xb pb tb cap a d ts [114, 101, 97, 100] _ C4.o.ps OK.o).mono ?_
 rw [Hhr1.o, if_neg (by simp)]
 rintro e w4 ⟨rfl, hst, hps⟩
 have C5 := Za (C4.o.step hst hps)
 clear hst hps
 go_wp2_with fail
 refine (Y3 pb tb cap a _ 1 ts [[40]] _ _ C5.o.ps.rd (by simp) (by simp)).mono ?_
 rw [Xi, Hhb1.o]
 rintro e w5 ⟨rfl, hb⟩
 have C6 := Za (C5.o.below hb)
 clear hb
 go_wp2_with fail
 refine (Xb pb tb cap a d ts [123] _ C6.o.ps OK.o).mono ?_
 rw [Hhc1.o, if_pos rfl]
 rintro e w6 ⟨rfl, hst, hps⟩
 have C7 := Za (C6.o.step hst hps)
 clear hst hps
 obtain ⟨⟨k0, k1, k2, k3⟩, _, hk1⟩ := Zr C7.o.b0
 go_wp2_with fail
 have hne0 : w1.heap.size ≠ w.heap.size := by have := C1.o.sz; omega
 have hS0 : (((w6).drew).cell? ⟨w1.heap.size, 0, none⟩ = some (.int .i64 t.kind) ∧ ((w6).drew).cell? ⟨w1.heap.size, 1, none⟩ = some (.string ⟨t.text.toArray⟩) ∧ ((w6).drew).cell? ⟨w1.heap.size, 2, none⟩ = some (.int .i64 t.line) ∧ ((w6).drew).cell? ⟨w1.heap.size, 3, none⟩ = some (.int .i64 t.col)) := (Z7 (C7.o.drew.b0))
 have HC : xQ (Calls prog 230 #[.pointer (some ⟨pb, 0, none⟩)] (w6).drew fun e w9 => (∃ chain, e = .panicked chain ∧ Zs pb tb cap ts d w Zo R e w9) ∨ ∃ (y : NV) (D : Ty) (b2 : Nat), e = .returned (y.val) ∧ ((w9.cell? ⟨w1.heap.size, 0, none⟩ = some (.int .i64 t.kind) ∧ w9.cell? ⟨w1.heap.size, 1, none⟩ = some (.string ⟨t.text.toArray⟩) ∧ w9.cell? ⟨w1.heap.size, 2, none⟩ = some (.int .i64 t.line) ∧ w9.cell? ⟨w1.heap.size, 3, none⟩ = some (.int .i64 t.col))) ∧ xQ (R = .inl (Lf t D, b2) ∧ Z5 pb tb cap d ts w w9 b2 [(w1.heap.size, Zk t), (w.heap.size, Ze.obj)] [(y, D)] [])) := by
  refine (HI.o _ C7.o.drew.ps).mono ?_
  intro e w9 zhm
  rcases Zy zhm with ⟨er, li, co, hr, rfl, hst⟩ | ⟨D, b2, v, hr, rfl, hst, hps, hv⟩
  ·exact .inl ⟨_, rfl, C7.o.drew.st.trans hst, by rw [HR0.o, hr]; rfl⟩
  obtain ⟨y, rfl, hv⟩ := hv
  have CN := (C7.o.drew.step hst hps).addN hv C7.o.drew.sz
  exact .inr ⟨y, D, b2, rfl, (Z7 (CN.b0)), by rw [HR0.o, hr]; rfl, CN⟩
 go_wp2_with fail
 go_region_held (fun W => (W.cell? ⟨w1.heap.size, 0, none⟩ = some (.int .i64 t.kind) ∧ W.cell? ⟨w1.heap.size, 1, none⟩ = some (.string ⟨t.text.toArray⟩) ∧ W.cell? ⟨w1.heap.size, 2, none⟩ = some (.int .i64 t.line) ∧ W.cell? ⟨w1.heap.size, 3, none⟩ = some (.int .i64 t.col))) (first | with_reducible assumption | with_reducible exact HS3.o _ | with_reducible exact HS4.o _ _ _ _ _ _ _ _) (first
  | (go_at_call 230; refine HC.o.mono ?_; rintro e w9 (⟨ch, rfl, hf⟩ | ⟨y, D, b2, rfl, t5, HX⟩); exact ⟨rfl, hf⟩; have HS3 : xQ (∀ o, (((w9.alloc o)).cell? ⟨w1.heap.size, 0, none⟩ = some (.int .i64 t.kind) ∧ ((w9.alloc o)).cell? ⟨w1.heap.size, 1, none⟩ = some (.string ⟨t.text.toArray⟩) ∧ ((w9.alloc o)).cell? ⟨w1.heap.size, 2, none⟩ = some (.int .i64 t.line) ∧ ((w9.alloc o)).cell? ⟨w1.heap.size, 3, none⟩ = some (.int .i64 t.col))) := (fun o => (Z7 ((HX.o.2.alloc o).b1))))
  | (go_at_call 171; refine (Vu t y _).mono ?_; rintro e w10 ⟨rfl, hb⟩; have HX2 := Za (HX.o.2.below hb); have t6 : (w10.cell? ⟨w1.heap.size, 0, none⟩ = some (.int .i64 t.kind) ∧ w10.cell? ⟨w1.heap.size, 1, none⟩ = some (.string ⟨t.text.toArray⟩) ∧ w10.cell? ⟨w1.heap.size, 2, none⟩ = some (.int .i64 t.line) ∧ w10.cell? ⟨w1.heap.size, 3, none⟩ = some (.int .i64 t.col)) := (Z7 (HX2.o.b0)); have HB8 := Za (Zh (x := Ze) (HX2.o.b1)); obtain ⟨⟨r0, r1, r2, r3, r4, r5, r6, r7⟩, ⟨f0, f1, f2, f3, f4, f5, f6, f7⟩, hr1⟩ := HB8.o; have HS4 : xQ (∀ v0 v1 v2 v3 v4 v5 v6 v7, (((Z2 w10 w.heap.size v0 v1 v2 v3 v4 v5 v6 v7)).cell? ⟨w1.heap.size, 0, none⟩ = some (.int .i64 t.kind) ∧ ((Z2 w10 w.heap.size v0 v1 v2 v3 v4 v5 v6 v7)).cell? ⟨w1.heap.size, 1, none⟩ = some (.string ⟨t.text.toArray⟩) ∧ ((Z2 w10 w.heap.size v0 v1 v2 v3 v4 v5 v6 v7)).cell? ⟨w1.heap.size, 2, none⟩ = some (.int .i64 t.line) ∧ ((Z2 w10 w.heap.size v0 v1 v2 v3 v4 v5 v6 v7)).cell? ⟨w1.heap.size, 3, none⟩ = some (.int .i64 t.col))) := (fun v0 v1 v2 v3 v4 v5 v6 v7 => (Z7 ((Vo hne0 v0 v1 v2 v3 v4 v5 v6 v7).trans (HX2.o.b0)))); clear hb))
 all_goals
  go_wp2_with fail
  rw [HX.o.1]
  refine bodyPost_ret (results_cell_row rfl _ _ w.heap.size 27 _ (0, 0) _ rfl (Yj (x := { y with li := t.line, co := t.col }) HX2.o.b1) underlying27 rfl (by kernel_rfl)) rfl ⟨Yr HX2.o.st hp (xR) ({ y with li := t.line, co := t.col }), Yv HX2.o.ps hp ({ y with li := t.line, co := t.col }), _, rfl, { y with li := t.line, co := t.col }, rfl, ?_⟩
  exact ((Cv HX2.o.n0 t).put8 (xU _) ({ y with li := t.line, co := t.col })).lower (Nat.le_succ _)
def IntE (_ : Nat) (_ : World) (v : Value) (x : Int) : Prop := v = .int .i64 x
def Pm (ts : List Tok) (a : Nat) : Pr Int := if 0 ≤ Wx (Zg ts a) Xj then .inl (Wx (Zg ts a) Xj, a + 1) else Ys ts 7 a
theorem tag_c (pb tb cap d : Nat) (ts : List Tok) (ok : Z0 ts) (a : Nat) (w : World) (h : Ps w pb tb cap ts a d) :
  Calls prog 206 #[.pointer (some ⟨pb, 0, none⟩)] w (Zs pb tb cap ts d w IntE (Pm ts a)) := by
 have H := Za h
 have OK := Za ok
 have hp := h.ltp
 have HW := Za (Gp pb tb cap a w.heap.size 6 ts Xj w 9 h.rd rfl (by simp [Xj]))
 have HN : xQ (0 ≤ Wx (Zg ts a) Xj → a + 1 < ts.length) := fun hv => by
  have := Ho ts a Xj
  rw [show decide (0 ≤ Wx (Zg ts a) Xj) = true by simpa using hv] at this
  obtain ⟨s, _, h2⟩ := List.any_eq_true.1 this.symm
  exact Wz ok.ends h.lt h2
 clear h ok
 unfold Pm
 obtain ⟨kv, hkv⟩ := xE (Wx (Zg ts a) Xj)
 rw [← hkv] at HW HN ⊢
 clear hkv
 by_cases h0 : 0 ≤ kv
 ·rw [if_pos h0]
  have hlt : ¬ kv < 0 := by omega
  have HN1 := Za (HN.o h0)
  clear h0
  go_enter func206, ntmps206
  go_wp2_with fail
  refine HW.o.mono ?_
  rintro e w1 ⟨rfl, hb1⟩
  have P1 := Za (H.o.below hb1)
  have HB1 := Za hb1
  clear hb1
  go_wp2_with fail
  refine (V7 pb tb cap a d ts _ P1.o HN1.o OK.o.len).mono ?_
  rintro e w2 ⟨rfl, hst, hps⟩
  have HP := Za hps
  have HST := Za ((Zj.of hp HB1.o).trans hst)
  clear hst hps
  go_wp2_with fail
  go_ret
  exact ⟨HST.o, HP.o, _, rfl, rfl⟩
 ·rw [if_neg h0]
  have hlt : kv < 0 := by omega
  clear h0
  go_enter func206, ntmps206
  go_wp2_with fail
  refine HW.o.mono ?_
  rintro e w1 ⟨rfl, hb1⟩
  have P1 := Za (H.o.below hb1)
  have HB1 := Za hb1
  clear hb1
  go_wp2_with fail
  refine (M6 pb tb cap a d ts _ P1.o 7).mono ?_
  rintro e w2 ⟨rfl, hb2⟩
  have HB2 := Za (Zn HB1.o hb2)
  clear hb2
  go_wp2_with fail
  exact ⟨rfl, Zj.of hp HB2.o, rfl⟩
theorem zdo (pb tb cap d a : Nat) (ts : List Tok) (r0 : Pr Ty) (hc : ∀ w, Ps w pb tb cap ts a d → Calls prog 109 #[.pointer (some ⟨pb, 0, none⟩)] w (Zs pb tb cap ts d w Zo r0)) (h0 : Zc ts a [108, 101, 116] = true) (ok : Z0 ts) (w : World) (h : Ps w pb tb cap ts a d) :
  Calls prog 57 #[.pointer (some ⟨pb, 0, none⟩)] w (Zs pb tb cap ts d w Zo (r0.go fun x b => .inl (x, b))) := by
 have H := Za h
 have OK := Za ok
 have hp := h.ltp
 have HC := Za hc
 have HS0 := Za h0
 have C0 := Za (Xa h Ze.obj)
 obtain ⟨R, hR⟩ : ∃ R : Pr Ty, R = (r0.go fun x b => .inl (x, b)) := ⟨_, rfl⟩
 rw [← hR]
 have HR0 := Za hR
 clear h ok hR hc h0
 go_enter func57, ntmps57
 go_wp2_with fail
 refine (Y3 pb tb cap a _ 1 ts [[108, 101, 116]] _ _ C0.o.ps.rd (by simp) (by simp)).mono ?_
 rw [Xi, HS0.o]
 rintro e w1 ⟨rfl, hb⟩
 have C1 := Za (C0.o.below hb)
 clear hb
 go_wp2_with fail
 refine (HC.o _ C1.o.ps).mono ?_
 intro e w2 zhm
 rcases Zy zhm with ⟨er, li, co, hr, rfl, hst⟩ | ⟨D, b, v, hr, rfl, hst, hps, hv⟩
 ·have HE : xQ (R = .inr (er, li, co)) := by rw [HR0.o, hr]; exact rfl
  have HF := Za (C1.o.st.trans hst)
  clear hr hst zhm
  go_wp2_with fail
  exact ⟨rfl, HF.o, by rw [HE.o]⟩
 have HR1 : xQ (R = .inl (D, b)) := by rw [HR0.o, hr]; exact rfl
 obtain ⟨x, rfl, hv⟩ := hv
 have C2 := Za ((C1.o.step hst hps).addN hv C1.o.sz)
 clear hr hst hps zhm hv
 obtain ⟨⟨r0, r1, r2, r3, r4, r5, r6, r7⟩, ⟨f0, f1, f2, f3, f4, f5, f6, f7⟩, hr1⟩ := Zh (x := Ze) (C2.o.b0)
 go_wp2_with fail
 rw [HR1.o]
 refine bodyPost_ret (results_cell_row rfl _ _ w.heap.size 27 _ (0, 0) _ rfl (Yj (x := x) C2.o.b0) underlying27 rfl (by kernel_rfl)) rfl ⟨Yr C2.o.st hp (xR) (x), Yv C2.o.ps hp (x), _, rfl, x, rfl, ?_⟩
 exact ((C2.o.n0).put8 (xU _) (x)).lower (Nat.le_succ _)
theorem zda (pb tb cap d a : Nat) (ts : List Tok) (r0 : Pr Ty) (hc : ∀ w, Ps w pb tb cap ts a d → Calls prog 110 #[.pointer (some ⟨pb, 0, none⟩)] w (Zs pb tb cap ts d w Zo r0)) (h0 : Zc ts a [108, 101, 116] = false) (h1 : Zc ts a [105, 102] = true) (ok : Z0 ts) (w : World) (h : Ps w pb tb cap ts a d) :
  Calls prog 57 #[.pointer (some ⟨pb, 0, none⟩)] w (Zs pb tb cap ts d w Zo (r0.go fun x b => .inl (x, b))) := by
 have H := Za h
 have OK := Za ok
 have hp := h.ltp
 have HC := Za hc
 have HS0 := Za h0
 have HS1 := Za h1
 have C0 := Za (Xa h Ze.obj)
 obtain ⟨R, hR⟩ : ∃ R : Pr Ty, R = (r0.go fun x b => .inl (x, b)) := ⟨_, rfl⟩
 rw [← hR]
 have HR0 := Za hR
 clear h ok hR hc h0 h1
 go_enter func57, ntmps57
 go_wp2_with fail
 refine (Y3 pb tb cap a _ 1 ts [[108, 101, 116]] _ _ C0.o.ps.rd (by simp) (by simp)).mono ?_
 rw [Xi, HS0.o]
 rintro e w1 ⟨rfl, hb⟩
 have C1 := Za (C0.o.below hb)
 clear hb
 go_wp2_with fail
 refine (Y3 pb tb cap a _ 1 ts [[105, 102]] _ _ C1.o.ps.rd (by simp) (by simp)).mono ?_
 rw [Xi, HS1.o]
 rintro e w2 ⟨rfl, hb⟩
 have C2 := Za (C1.o.below hb)
 clear hb
 go_wp2_with fail
 refine (HC.o _ C2.o.ps).mono ?_
 intro e w3 zhm
 rcases Zy zhm with ⟨er, li, co, hr, rfl, hst⟩ | ⟨D, b, v, hr, rfl, hst, hps, hv⟩
 ·have HE : xQ (R = .inr (er, li, co)) := by rw [HR0.o, hr]; exact rfl
  have HF := Za (C2.o.st.trans hst)
  clear hr hst zhm
  go_wp2_with fail
  exact ⟨rfl, HF.o, by rw [HE.o]⟩
 have HR1 : xQ (R = .inl (D, b)) := by rw [HR0.o, hr]; exact rfl
 obtain ⟨x, rfl, hv⟩ := hv
 have C3 := Za ((C2.o.step hst hps).addN hv C2.o.sz)
 clear hr hst hps zhm hv
 obtain ⟨⟨r0, r1, r2, r3, r4, r5, r6, r7⟩, ⟨f0, f1, f2, f3, f4, f5, f6, f7⟩, hr1⟩ := Zh (x := Ze) (C3.o.b0)
 go_wp2_with fail
 rw [HR1.o]
 refine bodyPost_ret (results_cell_row rfl _ _ w.heap.size 27 _ (0, 0) _ rfl (Yj (x := x) C3.o.b0) underlying27 rfl (by kernel_rfl)) rfl ⟨Yr C3.o.st hp (xR) (x), Yv C3.o.ps hp (x), _, rfl, x, rfl, ?_⟩
 exact ((C3.o.n0).put8 (xU _) (x)).lower (Nat.le_succ _)
theorem Il (pb tb cap d a : Nat) (ts : List Tok) (r0 : Pr Ty) (hc : ∀ w, Ps w pb tb cap ts a d → Calls prog 111 #[.pointer (some ⟨pb, 0, none⟩)] w (Zs pb tb cap ts d w Zo r0)) (h0 : Zc ts a [108, 101, 116] = false) (h1 : Zc ts a [105, 102] = false) (h2 : Zc ts a [102, 110] = true) (ok : Z0 ts) (w : World) (h : Ps w pb tb cap ts a d) :
  Calls prog 57 #[.pointer (some ⟨pb, 0, none⟩)] w (Zs pb tb cap ts d w Zo (r0.go fun x b => .inl (x, b))) := by
 have H := Za h
 have OK := Za ok
 have hp := h.ltp
 have HC := Za hc
 have HS0 := Za h0
 have HS1 := Za h1
 have HS2 := Za h2
 have C0 := Za (Xa h Ze.obj)
 obtain ⟨R, hR⟩ : ∃ R : Pr Ty, R = (r0.go fun x b => .inl (x, b)) := ⟨_, rfl⟩
 rw [← hR]
 have HR0 := Za hR
 clear h ok hR hc h0 h1 h2
 go_enter func57, ntmps57
 go_wp2_with fail
 refine (Y3 pb tb cap a _ 1 ts [[108, 101, 116]] _ _ C0.o.ps.rd (by simp) (by simp)).mono ?_
 rw [Xi, HS0.o]
 rintro e w1 ⟨rfl, hb⟩
 have C1 := Za (C0.o.below hb)
 clear hb
 go_wp2_with fail
 refine (Y3 pb tb cap a _ 1 ts [[105, 102]] _ _ C1.o.ps.rd (by simp) (by simp)).mono ?_
 rw [Xi, HS1.o]
 rintro e w2 ⟨rfl, hb⟩
 have C2 := Za (C1.o.below hb)
 clear hb
 go_wp2_with fail
 refine (Y3 pb tb cap a _ 1 ts [[102, 110]] _ _ C2.o.ps.rd (by simp) (by simp)).mono ?_
 rw [Xi, HS2.o]
 rintro e w3 ⟨rfl, hb⟩
 have C3 := Za (C2.o.below hb)
 clear hb
 go_wp2_with fail
 refine (HC.o _ C3.o.ps).mono ?_
 intro e w4 zhm
 rcases Zy zhm with ⟨er, li, co, hr, rfl, hst⟩ | ⟨D, b, v, hr, rfl, hst, hps, hv⟩
 ·have HE : xQ (R = .inr (er, li, co)) := by rw [HR0.o, hr]; exact rfl
  have HF := Za (C3.o.st.trans hst)
  clear hr hst zhm
  go_wp2_with fail
  exact ⟨rfl, HF.o, by rw [HE.o]⟩
 have HR1 : xQ (R = .inl (D, b)) := by rw [HR0.o, hr]; exact rfl
 obtain ⟨x, rfl, hv⟩ := hv
 have C4 := Za ((C3.o.step hst hps).addN hv C3.o.sz)
 clear hr hst hps zhm hv
 obtain ⟨⟨r0, r1, r2, r3, r4, r5, r6, r7⟩, ⟨f0, f1, f2, f3, f4, f5, f6, f7⟩, hr1⟩ := Zh (x := Ze) (C4.o.b0)
 go_wp2_with fail
 rw [HR1.o]
 refine bodyPost_ret (results_cell_row rfl _ _ w.heap.size 27 _ (0, 0) _ rfl (Yj (x := x) C4.o.b0) underlying27 rfl (by kernel_rfl)) rfl ⟨Yr C4.o.st hp (xR) (x), Yv C4.o.ps hp (x), _, rfl, x, rfl, ?_⟩
 exact ((C4.o.n0).put8 (xU _) (x)).lower (Nat.le_succ _)
theorem Cz (pb tb cap d a : Nat) (ts : List Tok) (r0 : Pr Ty) (hc : ∀ w, Ps w pb tb cap ts a d → Calls prog 112 #[.pointer (some ⟨pb, 0, none⟩)] w (Zs pb tb cap ts d w Zo r0)) (h0 : Zc ts a [108, 101, 116] = false) (h1 : Zc ts a [105, 102] = false) (h2 : Zc ts a [102, 110] = false) (ok : Z0 ts) (w : World) (h : Ps w pb tb cap ts a d) :
  Calls prog 57 #[.pointer (some ⟨pb, 0, none⟩)] w (Zs pb tb cap ts d w Zo (r0.go fun x b => .inl (x, b))) := by
 have H := Za h
 have OK := Za ok
 have hp := h.ltp
 have HC := Za hc
 have HS0 := Za h0
 have HS1 := Za h1
 have HS2 := Za h2
 have C0 := Za (Xa h Ze.obj)
 obtain ⟨R, hR⟩ : ∃ R : Pr Ty, R = (r0.go fun x b => .inl (x, b)) := ⟨_, rfl⟩
 rw [← hR]
 have HR0 := Za hR
 clear h ok hR hc h0 h1 h2
 go_enter func57, ntmps57
 go_wp2_with fail
 refine (Y3 pb tb cap a _ 1 ts [[108, 101, 116]] _ _ C0.o.ps.rd (by simp) (by simp)).mono ?_
 rw [Xi, HS0.o]
 rintro e w1 ⟨rfl, hb⟩
 have C1 := Za (C0.o.below hb)
 clear hb
 go_wp2_with fail
 refine (Y3 pb tb cap a _ 1 ts [[105, 102]] _ _ C1.o.ps.rd (by simp) (by simp)).mono ?_
 rw [Xi, HS1.o]
 rintro e w2 ⟨rfl, hb⟩
 have C2 := Za (C1.o.below hb)
 clear hb
 go_wp2_with fail
 refine (Y3 pb tb cap a _ 1 ts [[102, 110]] _ _ C2.o.ps.rd (by simp) (by simp)).mono ?_
 rw [Xi, HS2.o]
 rintro e w3 ⟨rfl, hb⟩
 have C3 := Za (C2.o.below hb)
 clear hb
 go_wp2_with fail
 refine (HC.o _ C3.o.ps).mono ?_
 intro e w4 zhm
 rcases Zy zhm with ⟨er, li, co, hr, rfl, hst⟩ | ⟨D, b, v, hr, rfl, hst, hps, hv⟩
 ·have HE : xQ (R = .inr (er, li, co)) := by rw [HR0.o, hr]; exact rfl
  have HF := Za (C3.o.st.trans hst)
  clear hr hst zhm
  go_wp2_with fail
  exact ⟨rfl, HF.o, by rw [HE.o]⟩
 have HR1 : xQ (R = .inl (D, b)) := by rw [HR0.o, hr]; exact rfl
 obtain ⟨x, rfl, hv⟩ := hv
 have C4 := Za ((C3.o.step hst hps).addN hv C3.o.sz)
 clear hr hst hps zhm hv
 obtain ⟨⟨r0, r1, r2, r3, r4, r5, r6, r7⟩, ⟨f0, f1, f2, f3, f4, f5, f6, f7⟩, hr1⟩ := Zh (x := Ze) (C4.o.b0)
 go_wp2_with fail
 rw [HR1.o]
 refine bodyPost_ret (results_cell_row rfl _ _ w.heap.size 27 _ (0, 0) _ rfl (Yj (x := x) C4.o.b0) underlying27 rfl (by kernel_rfl)) rfl ⟨Yr C4.o.st hp (xR) (x), Yv C4.o.ps hp (x), _, rfl, x, rfl, ?_⟩
 exact ((C4.o.n0).put8 (xU _) (x)).lower (Nat.le_succ _)
end Go.Proofs.YtbnjllkkhhkkaaaGreatDoor
