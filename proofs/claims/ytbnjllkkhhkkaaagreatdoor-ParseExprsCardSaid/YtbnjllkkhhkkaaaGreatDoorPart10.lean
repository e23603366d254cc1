/- Part. -/
import Derived.Test.YtbnjllkkhhkkaaaGreatDoorPart9
set_option maxRecDepth 100000
set_option maxHeartbeats 4000000
namespace Go.Proofs.YtbnjllkkhhkkaaaGreatDoor
open Tryz
open Go.RowKit
attribute [local go_sem ↓] Go.wp_at_zero Go.wp_at_succ
theorem L9 (t : Tok) (k : Int) (tx : ByteArray) (N : Int) (ta : Option Addr) (tl tc : Nat) (na : Option Addr) (nl nc : Nat) (ka : Option Addr) (kl kc : Nat) (w : World) : Calls prog 171 #[Pu t, .agg #[.int .i64 k, .string tx, .int .i64 N, .int .i64 0, .int .i64 0, .slice ta tl tc, .slice na nl nc, .slice ka kl kc]] w fun e w' => ∃ z : NV, e = .returned z.val ∧ xQ (z = ⟨k, tx, N, t.line, t.col, ta, tl, tc, na, nl, nc, ka, kl, kc⟩) ∧ Below w.heap.size w w' :=
 (Vu t ⟨k, tx, N, 0, 0, ta, tl, tc, na, nl, nc, ka, kl, kc⟩ w).mono fun _ _ ⟨h1, h2⟩ => ⟨_, h1, rfl, h2⟩
def Mt (ts : List Tok) (K sub : Nat → Pr Ty) (x : Ty) (a : Nat) : Pr Ty :=
 if ([[60], [60, 61], [61, 61]] : List (List UInt8)).any fun s => Zc ts a s then (sub (a + 1)).go fun y b => .inl (Zi 14 (Zg ts a).text 0 (Zg ts a).line (Zg ts a).col [] [] [x, y], b)
 else if Zc ts a [105, 115] then (Pm ts (a + 1)).go fun i b => .inl (Zi 12 [] i (Zg ts a).line (Zg ts a).col [] [] [x], b)
 else if Zc ts a [97, 115] then (K (a + 1)).go fun t b => .inl (Zi 13 [] 0 (Zg ts a).line (Zg ts a).col [t] [] [x], b)
 else .inl (x, a)
theorem K8 {lo tb : Nat} {w : World} {k : Int} {nm : ByteArray} {na : Option Addr} {nl nc : Nat} {ka : Option Addr} {kl kc : Nat} {D : Ty} (h : Zt lo w (.agg #[.int .i64 k, .string nm, .slice na nl nc, .slice ka kl kc]) D) (hk : w.heap[tb]? = some (Zq k nm na nl nc ka kl kc)) (hlo : lo ≤ tb) : ∃ m, Xw w lo m (some ⟨tb, 0, none⟩) [D] := by
 obtain ⟨m, h⟩ := h
 refine ⟨m, .inr ⟨tb, 0, rfl, hlo, ⟨_, _, hk⟩, fun i hi => ?_⟩⟩
 match i, hi with
 | 0, _ => exact ⟨_, _, _, _, by rw [cell_of_row _ _ _ _ _ _ hk]; rfl, by rw [cell_of_row _ _ _ _ _ _ hk]; rfl, by rw [cell_of_row _ _ _ _ _ _ hk]; rfl, by rw [cell_of_row _ _ _ _ _ _ hk]; rfl, h⟩
abbrev isNV (t : Tok) (i : Int) (kb : Nat) : NV := ⟨12, ⟨#[]⟩, i, t.line, t.col, none, 0, 0, none, 0, 0, some ⟨kb, 0, none⟩, 1, 1⟩
abbrev asNV (t : Tok) (tb kb : Nat) : NV := ⟨13, ⟨#[]⟩, 0, t.line, t.col, some ⟨tb, 0, none⟩, 1, 1, none, 0, 0, some ⟨kb, 0, none⟩, 1, 1⟩
theorem cmp_c (pb tb cap d : Nat) (ts : List Tok) (K : Nat → Pr Ty) (hK : Yg pb tb cap d ts Zt 30 K) (sub : Nat → Pr Ty) (hs : Yg pb tb cap d ts Zo 205 sub) (ok : Z0 ts) (a : Nat) (w : World) (h : Ps w pb tb cap ts a d) :
  Calls prog 196 #[.pointer (some ⟨pb, 0, none⟩)] w (Zs pb tb cap ts d w Zo ((sub a).go fun x b => Mt ts K sub x b)) := by
 have H := Za h
 have OK := Za ok
 have hp := h.ltp
 have HS1 := Za hs
 have HK1 := Za hK
 have C0 := Za (Xa h Ze.obj)
 obtain ⟨R, hR⟩ : ∃ R : Pr Ty, R = ((sub a).go fun x b => Mt ts K sub x b) := ⟨_, rfl⟩
 rw [← hR]
 have HR0 := Za hR
 clear h ok hR hs hK
 go_enter func196, ntmps196
 go_wp2_with fail
 refine (HS1.o.calls a _ C0.o.ps).mono ?_
 intro e w1 zhm
 rcases Zy zhm with ⟨er, li, co, hr, rfl, hst⟩ | ⟨D1, b1, v, hr, rfl, hst, hps, hv⟩
 ·have HE : xQ (R = .inr (er, li, co)) := by rw [HR0.o, hr]; exact rfl
  have HF := Za (C0.o.st.trans hst)
  clear hr hst zhm
  go_wp2_with fail
  exact ⟨rfl, HF.o, by rw [HE.o]⟩
 have HR1 : xQ (R = Mt ts K sub D1 b1) := by rw [HR0.o, hr]; exact rfl
 obtain ⟨x1, rfl, hv⟩ := hv
 have C1 := Za ((C0.o.step hst hps).addN hv C0.o.sz)
 have C2 := Za (C1.o.alloc (x1.obj))
 clear hr hst hps zhm hv
 go_wp2_with fail
 obtain ⟨t, ht⟩ := xE (Zg ts b1)
 have HRc := HR1
 unfold Mt at HRc
 rw [← ht] at HRc
 have HTk := Za ht
 clear ht
 cases h3 : ([[60], [60, 61], [61, 61]] : List (List UInt8)).any fun s => Zc ts b1 s with
 | true =>
  have HNx : xQ (b1 + 1 < ts.length) := by
   obtain ⟨s, _, h2⟩ := List.any_eq_true.1 h3
   exact Wz OK.o.ends C2.o.ps.lt h2
  have HR2 : xQ (R = (sub (b1 + 1)).go fun y b => .inl (Zi 14 t.text 0 t.line t.col [] [] [D1, y], b)) := by rw [HRc.o, if_pos h3]; exact rfl
  refine (Y3 pb tb cap b1 _ 3 ts [[60], [60, 61], [61, 61]] _ _ C2.o.ps.rd (by simp) (by simp)).mono ?_
  rw [h3]
  rintro e w2 ⟨rfl, hb⟩
  have C3 := Za (C2.o.below hb)
  clear hb
  clear h3
  go_wp2_with fail
  have HPa := Za (V7 pb tb cap b1 d ts _ C3.o.ps HNx.o OK.o.len)
  rw [← HTk.o] at HPa
  refine (HPa.o).mono ?_
  rintro e w3 ⟨rfl, hst, hps⟩
  have C4 := Za (C3.o.step hst hps)
  have C5 := Za (C4.o.alloc (Zk t))
  clear hst hps
  obtain ⟨⟨n0, n1, n2, n3, n4, n5, n6, n7⟩, _, hn1⟩ := Zh (x := x1) C4.o.b0
  go_wp2_with fail
  have hne0 : w3.heap.size ≠ w.heap.size := by have := C4.o.sz; omega
  have hne1 : w1.heap.size ≠ w.heap.size := by have := C1.o.sz; omega
  have hS0 : (((w3.alloc (Zk t)).drew).cell? ⟨w3.heap.size, 0, none⟩ = some (.int .i64 t.kind) ∧ ((w3.alloc (Zk t)).drew).cell? ⟨w3.heap.size, 1, none⟩ = some (.string ⟨t.text.toArray⟩) ∧ ((w3.alloc (Zk t)).drew).cell? ⟨w3.heap.size, 2, none⟩ = some (.int .i64 t.line) ∧ ((w3.alloc (Zk t)).drew).cell? ⟨w3.heap.size, 3, none⟩ = some (.int .i64 t.col)) ∧ (((w3.alloc (Zk t)).drew).cell? ⟨w1.heap.size, 0, none⟩ = some (.int .i64 x1.k) ∧ ((w3.alloc (Zk t)).drew).cell? ⟨w1.heap.size, 1, none⟩ = some (.string x1.tx) ∧ ((w3.alloc (Zk t)).drew).cell? ⟨w1.heap.size, 2, none⟩ = some (.int .i64 x1.N) ∧ ((w3.alloc (Zk t)).drew).cell? ⟨w1.heap.size, 3, none⟩ = some (.int .i64 x1.li) ∧ ((w3.alloc (Zk t)).drew).cell? ⟨w1.heap.size, 4, none⟩ = some (.int .i64 x1.co) ∧ ((w3.alloc (Zk t)).drew).cell? ⟨w1.heap.size, 5, none⟩ = some (.slice x1.ta x1.tl x1.tc) ∧ ((w3.alloc (Zk t)).drew).cell? ⟨w1.heap.size, 6, none⟩ = some (.slice x1.na x1.nl x1.nc) ∧ ((w3.alloc (Zk t)).drew).cell? ⟨w1.heap.size, 7, none⟩ = some (.slice x1.ka x1.kl x1.kc)) := ⟨(Z7 (((C5.o.drew).has (w3.heap.size, Zk t) (by simp)).1)), (Zh (x := x1) (((C5.o.drew).has (w1.heap.size, x1.obj) (by simp)).1)).1⟩
  have HS00 : xQ (∀ o, ((((w3.alloc (Zk t)).alloc o).drew).cell? ⟨w3.heap.size, 0, none⟩ = some (.int .i64 t.kind) ∧ (((w3.alloc (Zk t)).alloc o).drew).cell? ⟨w3.heap.size, 1, none⟩ = some (.string ⟨t.text.toArray⟩) ∧ (((w3.alloc (Zk t)).alloc o).drew).cell? ⟨w3.heap.size, 2, none⟩ = some (.int .i64 t.line) ∧ (((w3.alloc (Zk t)).alloc o).drew).cell? ⟨w3.heap.size, 3, none⟩ = some (.int .i64 t.col)) ∧ ((((w3.alloc (Zk t)).alloc o).drew).cell? ⟨w1.heap.size, 0, none⟩ = some (.int .i64 x1.k) ∧ (((w3.alloc (Zk t)).alloc o).drew).cell? ⟨w1.heap.size, 1, none⟩ = some (.string x1.tx) ∧ (((w3.alloc (Zk t)).alloc o).drew).cell? ⟨w1.heap.size, 2, none⟩ = some (.int .i64 x1.N) ∧ (((w3.alloc (Zk t)).alloc o).drew).cell? ⟨w1.heap.size, 3, none⟩ = some (.int .i64 x1.li) ∧ (((w3.alloc (Zk t)).alloc o).drew).cell? ⟨w1.heap.size, 4, none⟩ = some (.int .i64 x1.co) ∧ (((w3.alloc (Zk t)).alloc o).drew).cell? ⟨w1.heap.size, 5, none⟩ = some (.slice x1.ta x1.tl x1.tc) ∧ (((w3.alloc (Zk t)).alloc o).drew).cell? ⟨w1.heap.size, 6, none⟩ = some (.slice x1.na x1.nl x1.nc) ∧ (((w3.alloc (Zk t)).alloc o).drew).cell? ⟨w1.heap.size, 7, none⟩ = some (.slice x1.ka x1.kl x1.kc))) := (fun o => ⟨(Z7 ((((C5.o.alloc o).drew).has (w3.heap.size, Zk t) (by simp)).1)), (Zh (x := x1) ((((C5.o.alloc o).drew).has (w1.heap.size, x1.obj) (by simp)).1)).1⟩)
  have HC : xQ (∀ wa bx, Z5 pb tb cap d ts w wa (b1 + 1) bx [(x1, D1)] [] → (w3.heap.size, Zk t) ∈ bx → (w1.heap.size, x1.obj) ∈ bx → Calls prog 205 #[.pointer (some ⟨pb, 0, none⟩)] wa fun e w9 => (∃ chain, e = .panicked chain ∧ Zs pb tb cap ts d w Zo R e w9) ∨ ∃ (y : NV) (D2 : Ty) (b2 : Nat), e = .returned (y.val) ∧ ((w9.cell? ⟨w3.heap.size, 0, none⟩ = some (.int .i64 t.kind) ∧ w9.cell? ⟨w3.heap.size, 1, none⟩ = some (.string ⟨t.text.toArray⟩) ∧ w9.cell? ⟨w3.heap.size, 2, none⟩ = some (.int .i64 t.line) ∧ w9.cell? ⟨w3.heap.size, 3, none⟩ = some (.int .i64 t.col)) ∧ (w9.cell? ⟨w1.heap.size, 0, none⟩ = some (.int .i64 x1.k) ∧ w9.cell? ⟨w1.heap.size, 1, none⟩ = some (.string x1.tx) ∧ w9.cell? ⟨w1.heap.size, 2, none⟩ = some (.int .i64 x1.N) ∧ w9.cell? ⟨w1.heap.size, 3, none⟩ = some (.int .i64 x1.li) ∧ w9.cell? ⟨w1.heap.size, 4, none⟩ = some (.int .i64 x1.co) ∧ w9.cell? ⟨w1.heap.size, 5, none⟩ = some (.slice x1.ta x1.tl x1.tc) ∧ w9.cell? ⟨w1.heap.size, 6, none⟩ = some (.slice x1.na x1.nl x1.nc) ∧ w9.cell? ⟨w1.heap.size, 7, none⟩ = some (.slice x1.ka x1.kl x1.kc))) ∧ xQ (R = .inl (Zi 14 t.text 0 t.line t.col [] [] [D1, D2], b2) ∧ Z5 pb tb cap d ts w w9 b2 bx [(y, D2), (x1, D1)] [])) := by
   intro wa bx CA m0 m1
   refine (HS1.o.calls (b1 + 1) _ CA.ps).mono ?_
   intro e w9 zhm
   rcases Zy zhm with ⟨er, li, co, hr, rfl, hst⟩ | ⟨D2, b2, v, hr, rfl, hst, hps, hv⟩
   ·exact .inl ⟨_, rfl, CA.st.trans hst, by rw [HR2.o, hr]; rfl⟩
   obtain ⟨y, rfl, hv⟩ := hv
   have CN := (CA.step hst hps).addN hv CA.sz
   exact .inr ⟨y, D2, b2, rfl, ⟨(Z7 (((CN).has (w3.heap.size, Zk t) m0).1)), (Zh (x := x1) (((CN).has (w1.heap.size, x1.obj) m1).1)).1⟩, by rw [HR2.o, hr]; rfl, CN⟩
  go_wp2_with fail
  go_region_held (fun W => (W.cell? ⟨w3.heap.size, 0, none⟩ = some (.int .i64 t.kind) ∧ W.cell? ⟨w3.heap.size, 1, none⟩ = some (.string ⟨t.text.toArray⟩) ∧ W.cell? ⟨w3.heap.size, 2, none⟩ = some (.int .i64 t.line) ∧ W.cell? ⟨w3.heap.size, 3, none⟩ = some (.int .i64 t.col)) ∧ (W.cell? ⟨w1.heap.size, 0, none⟩ = some (.int .i64 x1.k) ∧ W.cell? ⟨w1.heap.size, 1, none⟩ = some (.string x1.tx) ∧ W.cell? ⟨w1.heap.size, 2, none⟩ = some (.int .i64 x1.N) ∧ W.cell? ⟨w1.heap.size, 3, none⟩ = some (.int .i64 x1.li) ∧ W.cell? ⟨w1.heap.size, 4, none⟩ = some (.int .i64 x1.co) ∧ W.cell? ⟨w1.heap.size, 5, none⟩ = some (.slice x1.ta x1.tl x1.tc) ∧ W.cell? ⟨w1.heap.size, 6, none⟩ = some (.slice x1.na x1.nl x1.nc) ∧ W.cell? ⟨w1.heap.size, 7, none⟩ = some (.slice x1.ka x1.kl x1.kc))) (first | with_reducible assumption | with_reducible exact HS00.o _ | with_reducible exact HS3.o _ | with_reducible exact HS33.o _ _ | with_reducible exact HS4.o _ _ _ _ _ _ _ _) (first
   | (go_at_call 205; refine (HC.o _ _ (by first | exact C5.o.drew | exact (C5.o.alloc _).drew) (by simp) (by simp)).mono ?_; rintro e w9 (⟨ch, rfl, hf⟩ | ⟨y, D2, b2, rfl, t5, HX⟩); exact ⟨rfl, hf⟩; have HS3 : xQ (∀ o, (((w9.alloc o)).cell? ⟨w3.heap.size, 0, none⟩ = some (.int .i64 t.kind) ∧ ((w9.alloc o)).cell? ⟨w3.heap.size, 1, none⟩ = some (.string ⟨t.text.toArray⟩) ∧ ((w9.alloc o)).cell? ⟨w3.heap.size, 2, none⟩ = some (.int .i64 t.line) ∧ ((w9.alloc o)).cell? ⟨w3.heap.size, 3, none⟩ = some (.int .i64 t.col)) ∧ (((w9.alloc o)).cell? ⟨w1.heap.size, 0, none⟩ = some (.int .i64 x1.k) ∧ ((w9.alloc o)).cell? ⟨w1.heap.size, 1, none⟩ = some (.string x1.tx) ∧ ((w9.alloc o)).cell? ⟨w1.heap.size, 2, none⟩ = some (.int .i64 x1.N) ∧ ((w9.alloc o)).cell? ⟨w1.heap.size, 3, none⟩ = some (.int .i64 x1.li) ∧ ((w9.alloc o)).cell? ⟨w1.heap.size, 4, none⟩ = some (.int .i64 x1.co) ∧ ((w9.alloc o)).cell? ⟨w1.heap.size, 5, none⟩ = some (.slice x1.ta x1.tl x1.tc) ∧ ((w9.alloc o)).cell? ⟨w1.heap.size, 6, none⟩ = some (.slice x1.na x1.nl x1.nc) ∧ ((w9.alloc o)).cell? ⟨w1.heap.size, 7, none⟩ = some (.slice x1.ka x1.kl x1.kc))) := (fun o => ⟨(Z7 (((HX.o.2.alloc o).has (w3.heap.size, Zk t) (by simp)).1)), (Zh (x := x1) (((HX.o.2.alloc o).has (w1.heap.size, x1.obj) (by simp)).1)).1⟩); have HS33 : xQ (∀ o o2, ((((w9.alloc o).alloc o2)).cell? ⟨w3.heap.size, 0, none⟩ = some (.int .i64 t.kind) ∧ (((w9.alloc o).alloc o2)).cell? ⟨w3.heap.size, 1, none⟩ = some (.string ⟨t.text.toArray⟩) ∧ (((w9.alloc o).alloc o2)).cell? ⟨w3.heap.size, 2, none⟩ = some (.int .i64 t.line) ∧ (((w9.alloc o).alloc o2)).cell? ⟨w3.heap.size, 3, none⟩ = some (.int .i64 t.col)) ∧ ((((w9.alloc o).alloc o2)).cell? ⟨w1.heap.size, 0, none⟩ = some (.int .i64 x1.k) ∧ (((w9.alloc o).alloc o2)).cell? ⟨w1.heap.size, 1, none⟩ = some (.string x1.tx) ∧ (((w9.alloc o).alloc o2)).cell? ⟨w1.heap.size, 2, none⟩ = some (.int .i64 x1.N) ∧ (((w9.alloc o).alloc o2)).cell? ⟨w1.heap.size, 3, none⟩ = some (.int .i64 x1.li) ∧ (((w9.alloc o).alloc o2)).cell? ⟨w1.heap.size, 4, none⟩ = some (.int .i64 x1.co) ∧ (((w9.alloc o).alloc o2)).cell? ⟨w1.heap.size, 5, none⟩ = some (.slice x1.ta x1.tl x1.tc) ∧ (((w9.alloc o).alloc o2)).cell? ⟨w1.heap.size, 6, none⟩ = some (.slice x1.na x1.nl x1.nc) ∧ (((w9.alloc o).alloc o2)).cell? ⟨w1.heap.size, 7, none⟩ = some (.slice x1.ka x1.kl x1.kc))) := (fun o o2 => ⟨(Z7 ((((HX.o.2.alloc o).alloc o2).has (w3.heap.size, Zk t) (by simp)).1)), (Zh (x := x1) ((((HX.o.2.alloc o).alloc o2).has (w1.heap.size, x1.obj) (by simp)).1)).1⟩))
   | (go_at_call 195; refine (A6 t x1 y _).mono ?_; rintro e w10 ⟨kb, rfl, hb, hkb, hk⟩; have HKb := Za hk; have HKl := Za hkb; clear hk hkb; (first | have HX2 := Za (HX.o.2.below hb) | have HX2 := Za ((HX.o.2.alloc _).below hb) | have HX2 := Za (((HX.o.2.alloc _).alloc _).below hb)); have t6 : (w10.cell? ⟨w3.heap.size, 0, none⟩ = some (.int .i64 t.kind) ∧ w10.cell? ⟨w3.heap.size, 1, none⟩ = some (.string ⟨t.text.toArray⟩) ∧ w10.cell? ⟨w3.heap.size, 2, none⟩ = some (.int .i64 t.line) ∧ w10.cell? ⟨w3.heap.size, 3, none⟩ = some (.int .i64 t.col)) ∧ (w10.cell? ⟨w1.heap.size, 0, none⟩ = some (.int .i64 x1.k) ∧ w10.cell? ⟨w1.heap.size, 1, none⟩ = some (.string x1.tx) ∧ w10.cell? ⟨w1.heap.size, 2, none⟩ = some (.int .i64 x1.N) ∧ w10.cell? ⟨w1.heap.size, 3, none⟩ = some (.int .i64 x1.li) ∧ w10.cell? ⟨w1.heap.size, 4, none⟩ = some (.int .i64 x1.co) ∧ w10.cell? ⟨w1.heap.size, 5, none⟩ = some (.slice x1.ta x1.tl x1.tc) ∧ w10.cell? ⟨w1.heap.size, 6, none⟩ = some (.slice x1.na x1.nl x1.nc) ∧ w10.cell? ⟨w1.heap.size, 7, none⟩ = some (.slice x1.ka x1.kl x1.kc)) := ⟨(Z7 (((HX2.o).has (w3.heap.size, Zk t) (by simp)).1)), (Zh (x := x1) (((HX2.o).has (w1.heap.size, x1.obj) (by simp)).1)).1⟩; have HB8 := Za (Zh (x := Ze) (HX2.o.has (w.heap.size, Ze.obj) (by simp)).1); obtain ⟨⟨r0, r1, r2, r3, r4, r5, r6, r7⟩, ⟨f0, f1, f2, f3, f4, f5, f6, f7⟩, hr1⟩ := HB8.o; have HS4 : xQ (∀ v0 v1 v2 v3 v4 v5 v6 v7, (((Z2 w10 w.heap.size v0 v1 v2 v3 v4 v5 v6 v7)).cell? ⟨w3.heap.size, 0, none⟩ = some (.int .i64 t.kind) ∧ ((Z2 w10 w.heap.size v0 v1 v2 v3 v4 v5 v6 v7)).cell? ⟨w3.heap.size, 1, none⟩ = some (.string ⟨t.text.toArray⟩) ∧ ((Z2 w10 w.heap.size v0 v1 v2 v3 v4 v5 v6 v7)).cell? ⟨w3.heap.size, 2, none⟩ = some (.int .i64 t.line) ∧ ((Z2 w10 w.heap.size v0 v1 v2 v3 v4 v5 v6 v7)).cell? ⟨w3.heap.size, 3, none⟩ = some (.int .i64 t.col)) ∧ (((Z2 w10 w.heap.size v0 v1 v2 v3 v4 v5 v6 v7)).cell? ⟨w1.heap.size, 0, none⟩ = some (.int .i64 x1.k) ∧ ((Z2 w10 w.heap.size v0 v1 v2 v3 v4 v5 v6 v7)).cell? ⟨w1.heap.size, 1, none⟩ = some (.string x1.tx) ∧ ((Z2 w10 w.heap.size v0 v1 v2 v3 v4 v5 v6 v7)).cell? ⟨w1.heap.size, 2, none⟩ = some (.int .i64 x1.N) ∧ ((Z2 w10 w.heap.size v0 v1 v2 v3 v4 v5 v6 v7)).cell? ⟨w1.heap.size, 3, none⟩ = some (.int .i64 x1.li) ∧ ((Z2 w10 w.heap.size v0 v1 v2 v3 v4 v5 v6 v7)).cell? ⟨w1.heap.size, 4, none⟩ = some (.int .i64 x1.co) ∧ ((Z2 w10 w.heap.size v0 v1 v2 v3 v4 v5 v6 v7)).cell? ⟨w1.heap.size, 5, none⟩ = some (.slice x1.ta x1.tl x1.tc) ∧ ((Z2 w10 w.heap.size v0 v1 v2 v3 v4 v5 v6 v7)).cell? ⟨w1.heap.size, 6, none⟩ = some (.slice x1.na x1.nl x1.nc) ∧ ((Z2 w10 w.heap.size v0 v1 v2 v3 v4 v5 v6 v7)).cell? ⟨w1.heap.size, 7, none⟩ = some (.slice x1.ka x1.kl x1.kc))) := (fun v0 v1 v2 v3 v4 v5 v6 v7 => ⟨(Z7 ((Vo hne0 v0 v1 v2 v3 v4 v5 v6 v7).trans (((HX2.o).has (w3.heap.size, Zk t) (by simp)).1))), (Zh (x := x1) ((Vo hne1 v0 v1 v2 v3 v4 v5 v6 v7).trans (((HX2.o).has (w1.heap.size, x1.obj) (by simp)).1))).1⟩); have HBL := Za hb; clear hb))
  all_goals
   go_wp2_with fail
   rw [HX.o.1]
   have hnd : Zv (w.heap.size + 1) w10 (Wp t kb) (Zi 14 t.text 0 t.line t.col [] [] [D1, D2]) := by
    first
     | exact zgh HX.o.2.n1 HX.o.2.n0 HBL.o (by have := HKl.o; have := HX.o.2.sz; omega) HKb.o
   refine bodyPost_ret (results_cell_row rfl _ _ w.heap.size 27 _ (0, 0) _ rfl (Yj (x := Wp t kb) (HX2.o.has (w.heap.size, Ze.obj) (by simp)).1) underlying27 rfl (by kernel_rfl)) rfl ⟨Yr HX2.o.st hp (xR) (Wp t kb), Yv HX2.o.ps hp (Wp t kb), _, rfl, Wp t kb, rfl, ?_⟩
   exact (hnd.put8 (xU _) (Wp t kb)).lower (Nat.le_succ _)
 | false =>
  refine (Y3 pb tb cap b1 _ 3 ts [[60], [60, 61], [61, 61]] _ _ C2.o.ps.rd (by simp) (by simp)).mono ?_
  rw [h3]
  rintro e w2 ⟨rfl, hb⟩
  have C3 := Za (C2.o.below hb)
  clear hb
  have HRd : xQ (R = if Zc ts b1 [105, 115] then (Pm ts (b1 + 1)).go fun i b => .inl (Zi 12 [] i t.line t.col [] [] [D1], b) else if Zc ts b1 [97, 115] then (K (b1 + 1)).go fun t2 b => .inl (Zi 13 [] 0 t.line t.col [t2] [] [D1], b) else .inl (D1, b1)) := by rw [HRc.o, if_neg (by simp [h3])]; exact rfl
  clear h3
  go_wp2_with fail
  cases h4 : Zc ts b1 [105, 115] with
  | true =>
   have HNx := Za (Wz OK.o.ends C3.o.ps.lt h4)
   have HR2 : xQ (R = (Pm ts (b1 + 1)).go fun i b => .inl (Zi 12 [] i t.line t.col [] [] [D1], b)) := by rw [HRd.o, if_pos h4]; exact rfl
   refine (Y3 pb tb cap b1 _ 1 ts [[105, 115]] _ _ C3.o.ps.rd (by simp) (by simp)).mono ?_
   rw [Xi, h4]
   rintro e w3 ⟨rfl, hb⟩
   have C4 := Za (C3.o.below hb)
   clear hb
   clear h4
   go_wp2_with fail
   have HPa := Za (V7 pb tb cap b1 d ts _ C4.o.ps HNx.o OK.o.len)
   rw [← HTk.o] at HPa
   refine (HPa.o).mono ?_
   rintro e w4 ⟨rfl, hst, hps⟩
   have C5 := Za (C4.o.step hst hps)
   have C6 := Za (C5.o.alloc (Zk t))
   clear hst hps
   obtain ⟨⟨n0, n1, n2, n3, n4, n5, n6, n7⟩, _, hn1⟩ := Zh (x := x1) C5.o.b0
   go_wp2_with fail
   have hne0 : w4.heap.size ≠ w.heap.size := by have := C5.o.sz; omega
   have hne1 : w1.heap.size ≠ w.heap.size := by have := C1.o.sz; omega
   have hS0 : (((w4.alloc (Zk t)).drew).cell? ⟨w4.heap.size, 0, none⟩ = some (.int .i64 t.kind) ∧ ((w4.alloc (Zk t)).drew).cell? ⟨w4.heap.size, 1, none⟩ = some (.string ⟨t.text.toArray⟩) ∧ ((w4.alloc (Zk t)).drew).cell? ⟨w4.heap.size, 2, none⟩ = some (.int .i64 t.line) ∧ ((w4.alloc (Zk t)).drew).cell? ⟨w4.heap.size, 3, none⟩ = some (.int .i64 t.col)) ∧ (((w4.alloc (Zk t)).drew).cell? ⟨w1.heap.size, 0, none⟩ = some (.int .i64 x1.k) ∧ ((w4.alloc (Zk t)).drew).cell? ⟨w1.heap.size, 1, none⟩ = some (.string x1.tx) ∧ ((w4.alloc (Zk t)).drew).cell? ⟨w1.heap.size, 2, none⟩ = some (.int .i64 x1.N) ∧ ((w4.alloc (Zk t)).drew).cell? ⟨w1.heap.size, 3, none⟩ = some (.int .i64 x1.li) ∧ ((w4.alloc (Zk t)).drew).cell? ⟨w1.heap.size, 4, none⟩ = some (.int .i64 x1.co) ∧ ((w4.alloc (Zk t)).drew).cell? ⟨w1.heap.size, 5, none⟩ = some (.slice x1.ta x1.tl x1.tc) ∧ ((w4.alloc (Zk t)).drew).cell? ⟨w1.heap.size, 6, none⟩ = some (.slice x1.na x1.nl x1.nc) ∧ ((w4.alloc (Zk t)).drew).cell? ⟨w1.heap.size, 7, none⟩ = some (.slice x1.ka x1.kl x1.kc)) := ⟨(Z7 (((C6.o.drew).has (w4.heap.size, Zk t) (by simp)).1)), (Zh (x := x1) (((C6.o.drew).has (w1.heap.size, x1.obj) (by simp)).1)).1⟩
   have HS00 : xQ (∀ o, ((((w4.alloc (Zk t)).alloc o).drew).cell? ⟨w4.heap.size, 0, none⟩ = some (.int .i64 t.kind) ∧ (((w4.alloc (Zk t)).alloc o).drew).cell? ⟨w4.heap.size, 1, none⟩ = some (.string ⟨t.text.toArray⟩) ∧ (((w4.alloc (Zk t)).alloc o).drew).cell? ⟨w4.heap.size, 2, none⟩ = some (.int .i64 t.line) ∧ (((w4.alloc (Zk t)).alloc o).drew).cell? ⟨w4.heap.size, 3, none⟩ = some (.int .i64 t.col)) ∧ ((((w4.alloc (Zk t)).alloc o).drew).cell? ⟨w1.heap.size, 0, none⟩ = some (.int .i64 x1.k) ∧ (((w4.alloc (Zk t)).alloc o).drew).cell? ⟨w1.heap.size, 1, none⟩ = some (.string x1.tx) ∧ (((w4.alloc (Zk t)).alloc o).drew).cell? ⟨w1.heap.size, 2, none⟩ = some (.int .i64 x1.N) ∧ (((w4.alloc (Zk t)).alloc o).drew).cell? ⟨w1.heap.size, 3, none⟩ = some (.int .i64 x1.li) ∧ (((w4.alloc (Zk t)).alloc o).drew).cell? ⟨w1.heap.size, 4, none⟩ = some (.int .i64 x1.co) ∧ (((w4.alloc (Zk t)).alloc o).drew).cell? ⟨w1.heap.size, 5, none⟩ = some (.slice x1.ta x1.tl x1.tc) ∧ (((w4.alloc (Zk t)).alloc o).drew).cell? ⟨w1.heap.size, 6, none⟩ = some (.slice x1.na x1.nl x1.nc) ∧ (((w4.alloc (Zk t)).alloc o).drew).cell? ⟨w1.heap.size, 7, none⟩ = some (.slice x1.ka x1.kl x1.kc))) := (fun o => ⟨(Z7 ((((C6.o.alloc o).drew).has (w4.heap.size, Zk t) (by simp)).1)), (Zh (x := x1) ((((C6.o.alloc o).drew).has (w1.heap.size, x1.obj) (by simp)).1)).1⟩)
   have HC : xQ (∀ wa bx, Z5 pb tb cap d ts w wa (b1 + 1) bx [(x1, D1)] [] → (w4.heap.size, Zk t) ∈ bx → (w1.heap.size, x1.obj) ∈ bx → Calls prog 206 #[.pointer (some ⟨pb, 0, none⟩)] wa fun e w9 => (∃ chain, e = .panicked chain ∧ Zs pb tb cap ts d w Zo R e w9) ∨ ∃ (i0 : Int) (b2 : Nat), e = .returned (.int .i64 i0) ∧ ((w9.cell? ⟨w4.heap.size, 0, none⟩ = some (.int .i64 t.kind) ∧ w9.cell? ⟨w4.heap.size, 1, none⟩ = some (.string ⟨t.text.toArray⟩) ∧ w9.cell? ⟨w4.heap.size, 2, none⟩ = some (.int .i64 t.line) ∧ w9.cell? ⟨w4.heap.size, 3, none⟩ = some (.int .i64 t.col)) ∧ (w9.cell? ⟨w1.heap.size, 0, none⟩ = some (.int .i64 x1.k) ∧ w9.cell? ⟨w1.heap.size, 1, none⟩ = some (.string x1.tx) ∧ w9.cell? ⟨w1.heap.size, 2, none⟩ = some (.int .i64 x1.N) ∧ w9.cell? ⟨w1.heap.size, 3, none⟩ = some (.int .i64 x1.li) ∧ w9.cell? ⟨w1.heap.size, 4, none⟩ = some (.int .i64 x1.co) ∧ w9.cell? ⟨w1.heap.size, 5, none⟩ = some (.slice x1.ta x1.tl x1.tc) ∧ w9.cell? ⟨w1.heap.size, 6, none⟩ = some (.slice x1.na x1.nl x1.nc) ∧ w9.cell? ⟨w1.heap.size, 7, none⟩ = some (.slice x1.ka x1.kl x1.kc))) ∧ xQ (R = .inl (Zi 12 [] i0 t.line t.col [] [] [D1], b2) ∧ Z5 pb tb cap d ts w w9 b2 bx [(x1, D1)] [])) := by
    intro wa bx CA m0 m1
    refine (tag_c pb tb cap d ts OK.o (b1 + 1) _ CA.ps).mono ?_
    intro e w9 zhm
    rcases Zy zhm with ⟨er, li, co, hr, rfl, hst⟩ | ⟨i0, b2, v, hr, rfl, hst, hps, hv⟩
    ·exact .inl ⟨_, rfl, CA.st.trans hst, by rw [HR2.o, hr]; rfl⟩
    subst hv
    have CN := (CA.step hst hps)
    exact .inr ⟨i0, b2, rfl, ⟨(Z7 (((CN).has (w4.heap.size, Zk t) m0).1)), (Zh (x := x1) (((CN).has (w1.heap.size, x1.obj) m1).1)).1⟩, by rw [HR2.o, hr]; rfl, CN⟩
   go_wp2_with fail
   go_region_held (fun W => (W.cell? ⟨w4.heap.size, 0, none⟩ = some (.int .i64 t.kind) ∧ W.cell? ⟨w4.heap.size, 1, none⟩ = some (.string ⟨t.text.toArray⟩) ∧ W.cell? ⟨w4.heap.size, 2, none⟩ = some (.int .i64 t.line) ∧ W.cell? ⟨w4.heap.size, 3, none⟩ = some (.int .i64 t.col)) ∧ (W.cell? ⟨w1.heap.size, 0, none⟩ = some (.int .i64 x1.k) ∧ W.cell? ⟨w1.heap.size, 1, none⟩ = some (.string x1.tx) ∧ W.cell? ⟨w1.heap.size, 2, none⟩ = some (.int .i64 x1.N) ∧ W.cell? ⟨w1.heap.size, 3, none⟩ = some (.int .i64 x1.li) ∧ W.cell? ⟨w1.heap.size, 4, none⟩ = some (.int .i64 x1.co) ∧ W.cell? ⟨w1.heap.size, 5, none⟩ = some (.slice x1.ta x1.tl x1.tc) ∧ W.cell? ⟨w1.heap.size, 6, none⟩ = some (.slice x1.na x1.nl x1.nc) ∧ W.cell? ⟨w1.heap.size, 7, none⟩ = some (.slice x1.ka x1.kl x1.kc))) (first | with_reducible assumption | with_reducible exact HS00.o _ | with_reducible exact HS3.o _ | with_reducible exact HS33.o _ _ | with_reducible exact HS4.o _ _ _ _ _ _ _ _) (first
    | (go_at_call 206; refine (HC.o _ _ (by first | exact C6.o.drew | exact (C6.o.alloc _).drew) (by simp) (by simp)).mono ?_; rintro e w9 (⟨ch, rfl, hf⟩ | ⟨i0, b2, rfl, t5, HX⟩); exact ⟨rfl, hf⟩; have HS3 : xQ (∀ o, (((w9.alloc o)).cell? ⟨w4.heap.size, 0, none⟩ = some (.int .i64 t.kind) ∧ ((w9.alloc o)).cell? ⟨w4.heap.size, 1, none⟩ = some (.string ⟨t.text.toArray⟩) ∧ ((w9.alloc o)).cell? ⟨w4.heap.size, 2, none⟩ = some (.int .i64 t.line) ∧ ((w9.alloc o)).cell? ⟨w4.heap.size, 3, none⟩ = some (.int .i64 t.col)) ∧ (((w9.alloc o)).cell? ⟨w1.heap.size, 0, none⟩ = some (.int .i64 x1.k) ∧ ((w9.alloc o)).cell? ⟨w1.heap.size, 1, none⟩ = some (.string x1.tx) ∧ ((w9.alloc o)).cell? ⟨w1.heap.size, 2, none⟩ = some (.int .i64 x1.N) ∧ ((w9.alloc o)).cell? ⟨w1.heap.size, 3, none⟩ = some (.int .i64 x1.li) ∧ ((w9.alloc o)).cell? ⟨w1.heap.size, 4, none⟩ = some (.int .i64 x1.co) ∧ ((w9.alloc o)).cell? ⟨w1.heap.size, 5, none⟩ = some (.slice x1.ta x1.tl x1.tc) ∧ ((w9.alloc o)).cell? ⟨w1.heap.size, 6, none⟩ = some (.slice x1.na x1.nl x1.nc) ∧ ((w9.alloc o)).cell? ⟨w1.heap.size, 7, none⟩ = some (.slice x1.ka x1.kl x1.kc))) := (fun o => ⟨(Z7 (((HX.o.2.alloc o).has (w4.heap.size, Zk t) (by simp)).1)), (Zh (x := x1) (((HX.o.2.alloc o).has (w1.heap.size, x1.obj) (by simp)).1)).1⟩); have HS33 : xQ (∀ o o2, ((((w9.alloc o).alloc o2)).cell? ⟨w4.heap.size, 0, none⟩ = some (.int .i64 t.kind) ∧ (((w9.alloc o).alloc o2)).cell? ⟨w4.heap.size, 1, none⟩ = some (.string ⟨t.text.toArray⟩) ∧ (((w9.alloc o).alloc o2)).cell? ⟨w4.heap.size, 2, none⟩ = some (.int .i64 t.line) ∧ (((w9.alloc o).alloc o2)).cell? ⟨w4.heap.size, 3, none⟩ = some (.int .i64 t.col)) ∧ ((((w9.alloc o).alloc o2)).cell? ⟨w1.heap.size, 0, none⟩ = some (.int .i64 x1.k) ∧ (((w9.alloc o).alloc o2)).cell? ⟨w1.heap.size, 1, none⟩ = some (.string x1.tx) ∧ (((w9.alloc o).alloc o2)).cell? ⟨w1.heap.size, 2, none⟩ = some (.int .i64 x1.N) ∧ (((w9.alloc o).alloc o2)).cell? ⟨w1.heap.size, 3, none⟩ = some (.int .i64 x1.li) ∧ (((w9.alloc o).alloc o2)).cell? ⟨w1.heap.size, 4, none⟩ = some (.int .i64 x1.co) ∧ (((w9.alloc o).alloc o2)).cell? ⟨w1.heap.size, 5, none⟩ = some (.slice x1.ta x1.tl x1.tc) ∧ (((w9.alloc o).alloc o2)).cell? ⟨w1.heap.size, 6, none⟩ = some (.slice x1.na x1.nl x1.nc) ∧ (((w9.alloc o).alloc o2)).cell? ⟨w1.heap.size, 7, none⟩ = some (.slice x1.ka x1.kl x1.kc))) := (fun o o2 => ⟨(Z7 ((((HX.o.2.alloc o).alloc o2).has (w4.heap.size, Zk t) (by simp)).1)), (Zh (x := x1) ((((HX.o.2.alloc o).alloc o2).has (w1.heap.size, x1.obj) (by simp)).1)).1⟩))
    | (go_at_call 171; refine (L9 t _ _ _ _ _ _ _ _ _ _ _ _ _).mono ?_; rintro e w10 ⟨z, rfl, HZ, hb⟩; (first | have HX2 := Za (HX.o.2.below hb) | have HX2 := Za ((HX.o.2.alloc _).below hb) | have HX2 := Za (((HX.o.2.alloc _).alloc _).below hb)); have t6 : (w10.cell? ⟨w4.heap.size, 0, none⟩ = some (.int .i64 t.kind) ∧ w10.cell? ⟨w4.heap.size, 1, none⟩ = some (.string ⟨t.text.toArray⟩) ∧ w10.cell? ⟨w4.heap.size, 2, none⟩ = some (.int .i64 t.line) ∧ w10.cell? ⟨w4.heap.size, 3, none⟩ = some (.int .i64 t.col)) ∧ (w10.cell? ⟨w1.heap.size, 0, none⟩ = some (.int .i64 x1.k) ∧ w10.cell? ⟨w1.heap.size, 1, none⟩ = some (.string x1.tx) ∧ w10.cell? ⟨w1.heap.size, 2, none⟩ = some (.int .i64 x1.N) ∧ w10.cell? ⟨w1.heap.size, 3, none⟩ = some (.int .i64 x1.li) ∧ w10.cell? ⟨w1.heap.size, 4, none⟩ = some (.int .i64 x1.co) ∧ w10.cell? ⟨w1.heap.size, 5, none⟩ = some (.slice x1.ta x1.tl x1.tc) ∧ w10.cell? ⟨w1.heap.size, 6, none⟩ = some (.slice x1.na x1.nl x1.nc) ∧ w10.cell? ⟨w1.heap.size, 7, none⟩ = some (.slice x1.ka x1.kl x1.kc)) := ⟨(Z7 (((HX2.o).has (w4.heap.size, Zk t) (by simp)).1)), (Zh (x := x1) (((HX2.o).has (w1.heap.size, x1.obj) (by simp)).1)).1⟩; have HB8 := Za (Zh (x := Ze) (HX2.o.has (w.heap.size, Ze.obj) (by simp)).1); obtain ⟨⟨r0, r1, r2, r3, r4, r5, r6, r7⟩, ⟨f0, f1, f2, f3, f4, f5, f6, f7⟩, hr1⟩ := HB8.o; have HS4 : xQ (∀ v0 v1 v2 v3 v4 v5 v6 v7, (((Z2 w10 w.heap.size v0 v1 v2 v3 v4 v5 v6 v7)).cell? ⟨w4.heap.size, 0, none⟩ = some (.int .i64 t.kind) ∧ ((Z2 w10 w.heap.size v0 v1 v2 v3 v4 v5 v6 v7)).cell? ⟨w4.heap.size, 1, none⟩ = some (.string ⟨t.text.toArray⟩) ∧ ((Z2 w10 w.heap.size v0 v1 v2 v3 v4 v5 v6 v7)).cell? ⟨w4.heap.size, 2, none⟩ = some (.int .i64 t.line) ∧ ((Z2 w10 w.heap.size v0 v1 v2 v3 v4 v5 v6 v7)).cell? ⟨w4.heap.size, 3, none⟩ = some (.int .i64 t.col)) ∧ (((Z2 w10 w.heap.size v0 v1 v2 v3 v4 v5 v6 v7)).cell? ⟨w1.heap.size, 0, none⟩ = some (.int .i64 x1.k) ∧ ((Z2 w10 w.heap.size v0 v1 v2 v3 v4 v5 v6 v7)).cell? ⟨w1.heap.size, 1, none⟩ = some (.string x1.tx) ∧ ((Z2 w10 w.heap.size v0 v1 v2 v3 v4 v5 v6 v7)).cell? ⟨w1.heap.size, 2, none⟩ = some (.int .i64 x1.N) ∧ ((Z2 w10 w.heap.size v0 v1 v2 v3 v4 v5 v6 v7)).cell? ⟨w1.heap.size, 3, none⟩ = some (.int .i64 x1.li) ∧ ((Z2 w10 w.heap.size v0 v1 v2 v3 v4 v5 v6 v7)).cell? ⟨w1.heap.size, 4, none⟩ = some (.int .i64 x1.co) ∧ ((Z2 w10 w.heap.size v0 v1 v2 v3 v4 v5 v6 v7)).cell? ⟨w1.heap.size, 5, none⟩ = some (.slice x1.ta x1.tl x1.tc) ∧ ((Z2 w10 w.heap.size v0 v1 v2 v3 v4 v5 v6 v7)).cell? ⟨w1.heap.size, 6, none⟩ = some (.slice x1.na x1.nl x1.nc) ∧ ((Z2 w10 w.heap.size v0 v1 v2 v3 v4 v5 v6 v7)).cell? ⟨w1.heap.size, 7, none⟩ = some (.slice x1.ka x1.kl x1.kc))) := (fun v0 v1 v2 v3 v4 v5 v6 v7 => ⟨(Z7 ((Vo hne0 v0 v1 v2 v3 v4 v5 v6 v7).trans (((HX2.o).has (w4.heap.size, Zk t) (by simp)).1))), (Zh (x := x1) ((Vo hne1 v0 v1 v2 v3 v4 v5 v6 v7).trans (((HX2.o).has (w1.heap.size, x1.obj) (by simp)).1))).1⟩); have HBL := Za hb; clear hb))
   all_goals
    go_wp2_with fail
    rw [HX.o.1]
    have hnd : Zv (w.heap.size + 1) w10 (z) (Zi 12 [] i0 t.line t.col [] [] [D1]) := by
     rw [HZ.o]
     first
      | exact V2 HX2.o.n0 (HX2.o.has (w9.heap.size, x1.obj) (by simp)).1 (by have := HX.o.2.sz; have := C5.o.sz; omega) (isNV t i0 (w9.heap.size)) [] [] ⟨rfl, rfl⟩ ⟨rfl, xZ _, 0, .inl rfl⟩ ⟨rfl, xZ _, .inl rfl⟩
      | exact V2 HX2.o.n0 (HX2.o.has (w4.heap.size + 1, x1.obj) (by simp)).1 (by have := HX.o.2.sz; have := C5.o.sz; omega) (isNV t i0 (w4.heap.size + 1)) [] [] ⟨rfl, rfl⟩ ⟨rfl, xZ _, 0, .inl rfl⟩ ⟨rfl, xZ _, .inl rfl⟩
    refine bodyPost_ret (results_cell_row rfl _ _ w.heap.size 27 _ (0, 0) _ rfl (Yj (x := z) (HX2.o.has (w.heap.size, Ze.obj) (by simp)).1) underlying27 rfl (by kernel_rfl)) rfl ⟨Yr HX2.o.st hp (xR) (z), Yv HX2.o.ps hp (z), _, rfl, z, rfl, ?_⟩
    exact (hnd.put8 (xU _) (z)).lower (Nat.le_succ _)
  | false =>
   refine (Y3 pb tb cap b1 _ 1 ts [[105, 115]] _ _ C3.o.ps.rd (by simp) (by simp)).mono ?_
   rw [Xi, h4]
   rintro e w3 ⟨rfl, hb⟩
   have C4 := Za (C3.o.below hb)
   clear hb
   have HRe : xQ (R = if Zc ts b1 [97, 115] then (K (b1 + 1)).go fun t2 b => .inl (Zi 13 [] 0 t.line t.col [t2] [] [D1], b) else .inl (D1, b1)) := by rw [HRd.o, if_neg (by simp [h4])]; exact rfl
   clear h4
   go_wp2_with fail
   cases h5 : Zc ts b1 [97, 115] with
   | true =>
    have HNx := Za (Wz OK.o.ends C4.o.ps.lt h5)
    have HR2 : xQ (R = (K (b1 + 1)).go fun t2 b => .inl (Zi 13 [] 0 t.line t.col [t2] [] [D1], b)) := by rw [HRe.o, if_pos h5]; exact rfl
    refine (Y3 pb tb cap b1 _ 1 ts [[97, 115]] _ _ C4.o.ps.rd (by simp) (by simp)).mono ?_
    rw [Xi, h5]
    rintro e w4 ⟨rfl, hb⟩
    have C5 := Za (C4.o.below hb)
    clear hb
    clear h5
    go_wp2_with fail
    have HPa := Za (V7 pb tb cap b1 d ts _ C5.o.ps HNx.o OK.o.len)
    rw [← HTk.o] at HPa
    refine (HPa.o).mono ?_
    rintro e w5 ⟨rfl, hst, hps⟩
    have C6 := Za (C5.o.step hst hps)
    have C7 := Za (C6.o.alloc (Zk t))
    clear hst hps
    obtain ⟨⟨n0, n1, n2, n3, n4, n5, n6, n7⟩, _, hn1⟩ := Zh (x := x1) C6.o.b0
    go_wp2_with fail
    have hne0 : w5.heap.size ≠ w.heap.size := by have := C6.o.sz; omega
    have hne1 : w1.heap.size ≠ w.heap.size := by have := C1.o.sz; omega
    have hS0 : (((w5.alloc (Zk t)).drew).cell? ⟨w5.heap.size, 0, none⟩ = some (.int .i64 t.kind) ∧ ((w5.alloc (Zk t)).drew).cell? ⟨w5.heap.size, 1, none⟩ = some (.string ⟨t.text.toArray⟩) ∧ ((w5.alloc (Zk t)).drew).cell? ⟨w5.heap.size, 2, none⟩ = some (.int .i64 t.line) ∧ ((w5.alloc (Zk t)).drew).cell? ⟨w5.heap.size, 3, none⟩ = some (.int .i64 t.col)) ∧ (((w5.alloc (Zk t)).drew).cell? ⟨w1.heap.size, 0, none⟩ = some (.int .i64 x1.k) ∧ ((w5.alloc (Zk t)).drew).cell? ⟨w1.heap.size, 1, none⟩ = some (.string x1.tx) ∧ ((w5.alloc (Zk t)).drew).cell? ⟨w1.heap.size, 2, none⟩ = some (.int .i64 x1.N) ∧ ((w5.alloc (Zk t)).drew).cell? ⟨w1.heap.size, 3, none⟩ = some (.int .i64 x1.li) ∧ ((w5.alloc (Zk t)).drew).cell? ⟨w1.heap.size, 4, none⟩ = some (.int .i64 x1.co) ∧ ((w5.alloc (Zk t)).drew).cell? ⟨w1.heap.size, 5, none⟩ = some (.slice x1.ta x1.tl x1.tc) ∧ ((w5.alloc (Zk t)).drew).cell? ⟨w1.heap.size, 6, none⟩ = some (.slice x1.na x1.nl x1.nc) ∧ ((w5.alloc (Zk t)).drew).cell? ⟨w1.heap.size, 7, none⟩ = some (.slice x1.ka x1.kl x1.kc)) := ⟨(Z7 (((C7.o.drew).has (w5.heap.size, Zk t) (by simp)).1)), (Zh (x := x1) (((C7.o.drew).has (w1.heap.size, x1.obj) (by simp)).1)).1⟩
    have HS00 : xQ (∀ o, ((((w5.alloc (Zk t)).alloc o).drew).cell? ⟨w5.heap.size, 0, none⟩ = some (.int .i64 t.kind) ∧ (((w5.alloc (Zk t)).alloc o).drew).cell? ⟨w5.heap.size, 1, none⟩ = some (.string ⟨t.text.toArray⟩) ∧ (((w5.alloc (Zk t)).alloc o).drew).cell? ⟨w5.heap.size, 2, none⟩ = some (.int .i64 t.line) ∧ (((w5.alloc (Zk t)).alloc o).drew).cell? ⟨w5.heap.size, 3, none⟩ = some (.int .i64 t.col)) ∧ ((((w5.alloc (Zk t)).alloc o).drew).cell? ⟨w1.heap.size, 0, none⟩ = some (.int .i64 x1.k) ∧ (((w5.alloc (Zk t)).alloc o).drew).cell? ⟨w1.heap.size, 1, none⟩ = some (.string x1.tx) ∧ (((w5.alloc (Zk t)).alloc o).drew).cell? ⟨w1.heap.size, 2, none⟩ = some (.int .i64 x1.N) ∧ (((w5.alloc (Zk t)).alloc o).drew).cell? ⟨w1.heap.size, 3, none⟩ = some (.int .i64 x1.li) ∧ (((w5.alloc (Zk t)).alloc o).drew).cell? ⟨w1.heap.size, 4, none⟩ = some (.int .i64 x1.co) ∧ (((w5.alloc (Zk t)).alloc o).drew).cell? ⟨w1.heap.size, 5, none⟩ = some (.slice x1.ta x1.tl x1.tc) ∧ (((w5.alloc (Zk t)).alloc o).drew).cell? ⟨w1.heap.size, 6, none⟩ = some (.slice x1.na x1.nl x1.nc) ∧ (((w5.alloc (Zk t)).alloc o).drew).cell? ⟨w1.heap.size, 7, none⟩ = some (.slice x1.ka x1.kl x1.kc))) := (fun o => ⟨(Z7 ((((C7.o.alloc o).drew).has (w5.heap.size, Zk t) (by simp)).1)), (Zh (x := x1) ((((C7.o.alloc o).drew).has (w1.heap.size, x1.obj) (by simp)).1)).1⟩)
    have HC : xQ (∀ wa bx, Z5 pb tb cap d ts w wa (b1 + 1) bx [(x1, D1)] [] → (w5.heap.size, Zk t) ∈ bx → (w1.heap.size, x1.obj) ∈ bx → Calls prog 30 #[.pointer (some ⟨pb, 0, none⟩)] wa fun e w9 => (∃ chain, e = .panicked chain ∧ Zs pb tb cap ts d w Zo R e w9) ∨ ∃ (DT : Ty) (b2 : Nat) (k4 : Int) (nm4 : ByteArray) (na4 : Option Addr) (nl4 : Nat) (nc4 : Nat) (ka4 : Option Addr) (kl4 : Nat) (kc4 : Nat), e = .returned (.agg #[.int .i64 k4, .string nm4, .slice na4 nl4 nc4, .slice ka4 kl4 kc4]) ∧ ((w9.cell? ⟨w5.heap.size, 0, none⟩ = some (.int .i64 t.kind) ∧ w9.cell? ⟨w5.heap.size, 1, none⟩ = some (.string ⟨t.text.toArray⟩) ∧ w9.cell? ⟨w5.heap.size, 2, none⟩ = some (.int .i64 t.line) ∧ w9.cell? ⟨w5.heap.size, 3, none⟩ = some (.int .i64 t.col)) ∧ (w9.cell? ⟨w1.heap.size, 0, none⟩ = some (.int .i64 x1.k) ∧ w9.cell? ⟨w1.heap.size, 1, none⟩ = some (.string x1.tx) ∧ w9.cell? ⟨w1.heap.size, 2, none⟩ = some (.int .i64 x1.N) ∧ w9.cell? ⟨w1.heap.size, 3, none⟩ = some (.int .i64 x1.li) ∧ w9.cell? ⟨w1.heap.size, 4, none⟩ = some (.int .i64 x1.co) ∧ w9.cell? ⟨w1.heap.size, 5, none⟩ = some (.slice x1.ta x1.tl x1.tc) ∧ w9.cell? ⟨w1.heap.size, 6, none⟩ = some (.slice x1.na x1.nl x1.nc) ∧ w9.cell? ⟨w1.heap.size, 7, none⟩ = some (.slice x1.ka x1.kl x1.kc))) ∧ xQ (R = .inl (Zi 13 [] 0 t.line t.col [DT] [] [D1], b2) ∧ Z5 pb tb cap d ts w w9 b2 bx [(x1, D1)] [(.agg #[.int .i64 k4, .string nm4, .slice na4 nl4 nc4, .slice ka4 kl4 kc4], DT)])) := by
     intro wa bx CA m0 m1
     refine (HK1.o.calls (b1 + 1) _ CA.ps).mono ?_
     intro e w9 zhm
     rcases Zy zhm with ⟨er, li, co, hr, rfl, hst⟩ | ⟨DT, b2, v, hr, rfl, hst, hps, hv⟩
     ·exact .inl ⟨_, rfl, CA.st.trans hst, by rw [HR2.o, hr]; rfl⟩
     obtain ⟨k4, nm4, na4, nl4, nc4, ka4, kl4, kc4, rfl⟩ := hv.cells
     have CN := (CA.step hst hps).addT hv CA.sz
     exact .inr ⟨DT, b2, k4, nm4, na4, nl4, nc4, ka4, kl4, kc4, rfl, ⟨(Z7 (((CN).has (w5.heap.size, Zk t) m0).1)), (Zh (x := x1) (((CN).has (w1.heap.size, x1.obj) m1).1)).1⟩, by rw [HR2.o, hr]; rfl, CN⟩
    go_wp2_with fail
    go_region_held (fun W => (W.cell? ⟨w5.heap.size, 0, none⟩ = some (.int .i64 t.kind) ∧ W.cell? ⟨w5.heap.size, 1, none⟩ = some (.string ⟨t.text.toArray⟩) ∧ W.cell? ⟨w5.heap.size, 2, none⟩ = some (.int .i64 t.line) ∧ W.cell? ⟨w5.heap.size, 3, none⟩ = some (.int .i64 t.col)) ∧ (W.cell? ⟨w1.heap.size, 0, none⟩ = some (.int .i64 x1.k) ∧ W.cell? ⟨w1.heap.size, 1, none⟩ = some (.string x1.tx) ∧ W.cell? ⟨w1.heap.size, 2, none⟩ = some (.int .i64 x1.N) ∧ W.cell? ⟨w1.heap.size, 3, none⟩ = some (.int .i64 x1.li) ∧ W.cell? ⟨w1.heap.size, 4, none⟩ = some (.int .i64 x1.co) ∧ W.cell? ⟨w1.heap.size, 5, none⟩ = some (.slice x1.ta x1.tl x1.tc) ∧ W.cell? ⟨w1.heap.size, 6, none⟩ = some (.slice x1.na x1.nl x1.nc) ∧ W.cell? ⟨w1.heap.size, 7, none⟩ = some (.slice x1.ka x1.kl x1.kc))) (first | with_reducible assumption | with_reducible exact HS00.o _ | with_reducible exact HS3.o _ | with_reducible exact HS33.o _ _ | with_reducible exact HS4.o _ _ _ _ _ _ _ _) (first
     | (go_at_call 30; refine (HC.o _ _ (by first | exact C7.o.drew | exact (C7.o.alloc _).drew) (by simp) (by simp)).mono ?_; rintro e w9 (⟨ch, rfl, hf⟩ | ⟨DT, b2, k4, nm4, na4, nl4, nc4, ka4, kl4, kc4, rfl, t5, HX⟩); exact ⟨rfl, hf⟩; have HS3 : xQ (∀ o, (((w9.alloc o)).cell? ⟨w5.heap.size, 0, none⟩ = some (.int .i64 t.kind) ∧ ((w9.alloc o)).cell? ⟨w5.heap.size, 1, none⟩ = some (.string ⟨t.text.toArray⟩) ∧ ((w9.alloc o)).cell? ⟨w5.heap.size, 2, none⟩ = some (.int .i64 t.line) ∧ ((w9.alloc o)).cell? ⟨w5.heap.size, 3, none⟩ = some (.int .i64 t.col)) ∧ (((w9.alloc o)).cell? ⟨w1.heap.size, 0, none⟩ = some (.int .i64 x1.k) ∧ ((w9.alloc o)).cell? ⟨w1.heap.size, 1, none⟩ = some (.string x1.tx) ∧ ((w9.alloc o)).cell? ⟨w1.heap.size, 2, none⟩ = some (.int .i64 x1.N) ∧ ((w9.alloc o)).cell? ⟨w1.heap.size, 3, none⟩ = some (.int .i64 x1.li) ∧ ((w9.alloc o)).cell? ⟨w1.heap.size, 4, none⟩ = some (.int .i64 x1.co) ∧ ((w9.alloc o)).cell? ⟨w1.heap.size, 5, none⟩ = some (.slice x1.ta x1.tl x1.tc) ∧ ((w9.alloc o)).cell? ⟨w1.heap.size, 6, none⟩ = some (.slice x1.na x1.nl x1.nc) ∧ ((w9.alloc o)).cell? ⟨w1.heap.size, 7, none⟩ = some (.slice x1.ka x1.kl x1.kc))) := (fun o => ⟨(Z7 (((HX.o.2.alloc o).has (w5.heap.size, Zk t) (by simp)).1)), (Zh (x := x1) (((HX.o.2.alloc o).has (w1.heap.size, x1.obj) (by simp)).1)).1⟩); have HS33 : xQ (∀ o o2, ((((w9.alloc o).alloc o2)).cell? ⟨w5.heap.size, 0, none⟩ = some (.int .i64 t.kind) ∧ (((w9.alloc o).alloc o2)).cell? ⟨w5.heap.size, 1, none⟩ = some (.string ⟨t.text.toArray⟩) ∧ (((w9.alloc o).alloc o2)).cell? ⟨w5.heap.size, 2, none⟩ = some (.int .i64 t.line) ∧ (((w9.alloc o).alloc o2)).cell? ⟨w5.heap.size, 3, none⟩ = some (.int .i64 t.col)) ∧ ((((w9.alloc o).alloc o2)).cell? ⟨w1.heap.size, 0, none⟩ = some (.int .i64 x1.k) ∧ (((w9.alloc o).alloc o2)).cell? ⟨w1.heap.size, 1, none⟩ = some (.string x1.tx) ∧ (((w9.alloc o).alloc o2)).cell? ⟨w1.heap.size, 2, none⟩ = some (.int .i64 x1.N) ∧ (((w9.alloc o).alloc o2)).cell? ⟨w1.heap.size, 3, none⟩ = some (.int .i64 x1.li) ∧ (((w9.alloc o).alloc o2)).cell? ⟨w1.heap.size, 4, none⟩ = some (.int .i64 x1.co) ∧ (((w9.alloc o).alloc o2)).cell? ⟨w1.heap.size, 5, none⟩ = some (.slice x1.ta x1.tl x1.tc) ∧ (((w9.alloc o).alloc o2)).cell? ⟨w1.heap.size, 6, none⟩ = some (.slice x1.na x1.nl x1.nc) ∧ (((w9.alloc o).alloc o2)).cell? ⟨w1.heap.size, 7, none⟩ = some (.slice x1.ka x1.kl x1.kc))) := (fun o o2 => ⟨(Z7 ((((HX.o.2.alloc o).alloc o2).has (w5.heap.size, Zk t) (by simp)).1)), (Zh (x := x1) ((((HX.o.2.alloc o).alloc o2).has (w1.heap.size, x1.obj) (by simp)).1)).1⟩))
     | (go_at_call 171; refine (L9 t _ _ _ _ _ _ _ _ _ _ _ _ _).mono ?_; rintro e w10 ⟨z, rfl, HZ, hb⟩; (first | have HX2 := Za (HX.o.2.below hb) | have HX2 := Za ((HX.o.2.alloc _).below hb) | have HX2 := Za (((HX.o.2.alloc _).alloc _).below hb)); have t6 : (w10.cell? ⟨w5.heap.size, 0, none⟩ = some (.int .i64 t.kind) ∧ w10.cell? ⟨w5.heap.size, 1, none⟩ = some (.string ⟨t.text.toArray⟩) ∧ w10.cell? ⟨w5.heap.size, 2, none⟩ = some (.int .i64 t.line) ∧ w10.cell? ⟨w5.heap.size, 3, none⟩ = some (.int .i64 t.col)) ∧ (w10.cell? ⟨w1.heap.size, 0, none⟩ = some (.int .i64 x1.k) ∧ w10.cell? ⟨w1.heap.size, 1, none⟩ = some (.string x1.tx) ∧ w10.cell? ⟨w1.heap.size, 2, none⟩ = some (.int .i64 x1.N) ∧ w10.cell? ⟨w1.heap.size, 3, none⟩ = some (.int .i64 x1.li) ∧ w10.cell? ⟨w1.heap.size, 4, none⟩ = some (.int .i64 x1.co) ∧ w10.cell? ⟨w1.heap.size, 5, none⟩ = some (.slice x1.ta x1.tl x1.tc) ∧ w10.cell? ⟨w1.heap.size, 6, none⟩ = some (.slice x1.na x1.nl x1.nc) ∧ w10.cell? ⟨w1.heap.size, 7, none⟩ = some (.slice x1.ka x1.kl x1.kc)) := ⟨(Z7 (((HX2.o).has (w5.heap.size, Zk t) (by simp)).1)), (Zh (x := x1) (((HX2.o).has (w1.heap.size, x1.obj) (by simp)).1)).1⟩; have HB8 := Za (Zh (x := Ze) (HX2.o.has (w.heap.size, Ze.obj) (by simp)).1); obtain ⟨⟨r0, r1, r2, r3, r4, r5, r6, r7⟩, ⟨f0, f1, f2, f3, f4, f5, f6, f7⟩, hr1⟩ := HB8.o; have HS4 : xQ (∀ v0 v1 v2 v3 v4 v5 v6 v7, (((Z2 w10 w.heap.size v0 v1 v2 v3 v4 v5 v6 v7)).cell? ⟨w5.heap.size, 0, none⟩ = some (.int .i64 t.kind) ∧ ((Z2 w10 w.heap.size v0 v1 v2 v3 v4 v5 v6 v7)).cell? ⟨w5.heap.size, 1, none⟩ = some (.string ⟨t.text.toArray⟩) ∧ ((Z2 w10 w.heap.size v0 v1 v2 v3 v4 v5 v6 v7)).cell? ⟨w5.heap.size, 2, none⟩ = some (.int .i64 t.line) ∧ ((Z2 w10 w.heap.size v0 v1 v2 v3 v4 v5 v6 v7)).cell? ⟨w5.heap.size, 3, none⟩ = some (.int .i64 t.col)) ∧ (((Z2 w10 w.heap.size v0 v1 v2 v3 v4 v5 v6 v7)).cell? ⟨w1.heap.size, 0, none⟩ = some (.int .i64 x1.k) ∧ ((Z2 w10 w.heap.size v0 v1 v2 v3 v4 v5 v6 v7)).cell? ⟨w1.heap.size, 1, none⟩ = some (.string x1.tx) ∧ ((Z2 w10 w.heap.size v0 v1 v2 v3 v4 v5 v6 v7)).cell? ⟨w1.heap.size, 2, none⟩ = some (.int .i64 x1.N) ∧ ((Z2 w10 w.heap.size v0 v1 v2 v3 v4 v5 v6 v7)).cell? ⟨w1.heap.size, 3, none⟩ = some (.int .i64 x1.li) ∧ ((Z2 w10 w.heap.size v0 v1 v2 v3 v4 v5 v6 v7)).cell? ⟨w1.heap.size, 4, none⟩ = some (.int .i64 x1.co) ∧ ((Z2 w10 w.heap.size v0 v1 v2 v3 v4 v5 v6 v7)).cell? ⟨w1.heap.size, 5, none⟩ = some (.slice x1.ta x1.tl x1.tc) ∧ ((Z2 w10 w.heap.size v0 v1 v2 v3 v4 v5 v6 v7)).cell? ⟨w1.heap.size, 6, none⟩ = some (.slice x1.na x1.nl x1.nc) ∧ ((Z2 w10 w.heap.size v0 v1 v2 v3 v4 v5 v6 v7)).cell? ⟨w1.heap.size, 7, none⟩ = some (.slice x1.ka x1.kl x1.kc))) := (fun v0 v1 v2 v3 v4 v5 v6 v7 => ⟨(Z7 ((Vo hne0 v0 v1 v2 v3 v4 v5 v6 v7).trans (((HX2.o).has (w5.heap.size, Zk t) (by simp)).1))), (Zh (x := x1) ((Vo hne1 v0 v1 v2 v3 v4 v5 v6 v7).trans (((HX2.o).has (w1.heap.size, x1.obj) (by simp)).1))).1⟩); have HBL := Za hb; clear hb))
    all_goals
     go_wp2_with fail
     rw [HX.o.1]
     have hnd : Zv (w.heap.size + 1) w10 (z) (Zi 13 [] 0 t.line t.col [DT] [] [D1]) := by
      rw [HZ.o]
      first
       | exact V2 HX2.o.n0 (HX2.o.has (w9.heap.size + 1, x1.obj) (by simp)).1 (by have := HX.o.2.sz; have := C6.o.sz; omega) (asNV t (w9.heap.size) (w9.heap.size + 1)) [DT] [] ⟨rfl, rfl⟩ ⟨rfl, by simp, K8 HX2.o.t0 (HX2.o.has (w9.heap.size, Zq k4 nm4 na4 nl4 nc4 ka4 kl4 kc4) (by simp)).1 (by have := HX.o.2.sz; omega)⟩ ⟨rfl, xZ _, .inl rfl⟩
       | exact V2 HX2.o.n0 (HX2.o.has (w9.heap.size, x1.obj) (by simp)).1 (by have := HX.o.2.sz; have := C6.o.sz; omega) (asNV t (w9.heap.size + 1) (w9.heap.size)) [DT] [] ⟨rfl, rfl⟩ ⟨rfl, by simp, K8 HX2.o.t0 (HX2.o.has (w9.heap.size + 1, Zq k4 nm4 na4 nl4 nc4 ka4 kl4 kc4) (by simp)).1 (by have := HX.o.2.sz; omega)⟩ ⟨rfl, xZ _, .inl rfl⟩
       | exact V2 HX2.o.n0 (HX2.o.has (w5.heap.size + 1, x1.obj) (by simp)).1 (by have := HX.o.2.sz; have := C6.o.sz; omega) (asNV t (w9.heap.size) (w5.heap.size + 1)) [DT] [] ⟨rfl, rfl⟩ ⟨rfl, by simp, K8 HX2.o.t0 (HX2.o.has (w9.heap.size, Zq k4 nm4 na4 nl4 nc4 ka4 kl4 kc4) (by simp)).1 (by have := HX.o.2.sz; omega)⟩ ⟨rfl, xZ _, .inl rfl⟩
     refine bodyPost_ret (results_cell_row rfl _ _ w.heap.size 27 _ (0, 0) _ rfl (Yj (x := z) (HX2.o.has (w.heap.size, Ze.obj) (by simp)).1) underlying27 rfl (by kernel_rfl)) rfl ⟨Yr HX2.o.st hp (xR) (z), Yv HX2.o.ps hp (z), _, rfl, z, rfl, ?_⟩
     exact (hnd.put8 (xU _) (z)).lower (Nat.le_succ _)
   | false =>
    refine (Y3 pb tb cap b1 _ 1 ts [[97, 115]] _ _ C4.o.ps.rd (by simp) (by simp)).mono ?_
    rw [Xi, h5]
    rintro e w4 ⟨rfl, hb⟩
    have C5 := Za (C4.o.below hb)
    clear hb
    have HR2 : xQ (R = .inl (D1, b1)) := by rw [HRe.o, if_neg (by simp [h5])]; exact rfl
    clear h5
    obtain ⟨⟨r0, r1, r2, r3, r4, r5, r6, r7⟩, ⟨f0, f1, f2, f3, f4, f5, f6, f7⟩, hr1⟩ := Zh (x := Ze) (C5.o.b1)
    obtain ⟨⟨n0, n1, n2, n3, n4, n5, n6, n7⟩, _, hn1⟩ := Zh (x := x1) C5.o.b0
    have hne : ¬ w1.heap.size = w.heap.size := by have := C1.o.sz; omega
    go_wp2_with fail
    rw [HR2.o]
    refine bodyPost_ret (results_cell_row rfl _ _ w.heap.size 27 _ (0, 0) _ rfl (Yj (x := x1) C5.o.b1) underlying27 rfl (by kernel_rfl)) rfl ⟨Yr C5.o.st hp (xR) (x1), Yv C5.o.ps hp (x1), _, rfl, x1, rfl, ?_⟩
    exact ((C5.o.n0).put8 (xU _) (x1)).lower (Nat.le_succ _)
end Go.Proofs.YtbnjllkkhhkkaaaGreatDoor
