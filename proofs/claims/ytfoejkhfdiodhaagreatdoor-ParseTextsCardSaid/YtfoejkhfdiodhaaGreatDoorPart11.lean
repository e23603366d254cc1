/- Part. -/
import Derived.Deep.Cut
import Derived.Deep.CutRange
import Derived.Test.YtfoejkhfdiodhaaGreatDoorPart10
set_option maxRecDepth 100000
set_option maxHeartbeats 4000000
namespace Go.Proofs.YtfoejkhfdiodhaaGreatDoor
open Go.Proofs.Tryz
open Go.RowKit
attribute [local go_sem ↓] Go.wp_at_zero Go.wp_at_succ
section
variable {w : World} {lo nb kb : Nat} {x y : NV} {D1 D2 : Ty}
theorem gD (h1 : Xj lo nb w x D1) (h2 : Xj lo nb w y D2) (hk : w.heap[kb]? = some (.cells #[.int .i64 x.k, .string x.tx, .int .i64 x.N, .int .i64 x.li, .int .i64 x.co, .slice x.ta x.tl x.tc, .slice x.na x.nl x.nc, .slice x.ka x.kl x.kc, .int .i64 y.k, .string y.tx, .int .i64 y.N, .int .i64 y.li, .int .i64 y.co, .slice y.ta y.tl y.tc, .slice y.na y.nl y.nc, .slice y.ka y.kl y.kc] 38)) (Tj : lo <= kb) (hnk : kb ≠ nb) (z : NV) (hz : z.ka = some ⟨kb, 0, none⟩ /\ z.kl = 2) (ht : z.tl = 0) (hn : z.nl = 0) : Xj lo nb w z (Zn z.k z.tx.data.toList z.N z.li z.co [] [] [D1, D2]) := fun o =>
 Jn (h1 o) (h2 o) ((Gh o hnk).trans hk) Tj z [] [] hz ⟨ht, xZ _, 0, .inl rfl⟩ ⟨hn, xZ _, .inl rfl⟩
theorem tE (h1 : Xj lo nb w x D1) (hk : w.heap[kb]? = some x.obj) (Tj : lo <= kb) (hnk : kb ≠ nb) (z : NV) (hz : z.ka = some ⟨kb, 0, none⟩ /\ z.kl = 1) (ht : z.tl = 0) (hn : z.nl = 0) : Xj lo nb w z (Zn z.k z.tx.data.toList z.N z.li z.co [] [] [D1]) := fun o =>
 Nz (h1 o) ((Gh o hnk).trans hk) Tj z [] [] hz ⟨ht, xZ _, 0, .inl rfl⟩ ⟨hn, xZ _, .inl rfl⟩
theorem Xj.drew (h : Xj lo nb w x D1) : Xj lo nb w.drew x D1 := fun o => (h o).keep (xR) fun _ _ _ => rfl
end
theorem Yy.reput {pb tb cap d b nb : Nat} {ts : List Tok} {w0 w : World} {bx bx' : List (Nat × Obj)} {ns : List (NV × Ty)} {tys : List (Value × Ty)} (h : Yy pb tb cap d ts w0 w b bx ns tys) (Wb : w0.heap.size < nb) (z : NV) (hn : ∃ y : NV, (nb, y.obj) ∈ bx) (hb : ∀ p ∈ bx', (p = (nb, z.obj) ∨ (p ∈ bx /\ p.1 ≠ nb))) : Yy pb tb cap d ts w0 (put8 w nb z) b bx' [] [] where
 st := Wg h.st h.hp (by omega) z
 ps := Wn h.ps (by have := h.hp; omega) z
 hp := h.hp
 sz := by rw [Q3]; exact h.sz
 has := fun p hp => by
  rcases hb p hp with rfl | ⟨h1, h2⟩
  ·obtain ⟨y, hy⟩ := hn
   exact ⟨Xn (h.has _ hy).1, (h.has _ hy).2⟩
  ·exact ⟨(U0 h2).trans (h.has p h1).1, (h.has p h1).2⟩
 nds := (fun _ h => nomatch h)
 tys := (fun _ h => nomatch h)
theorem bK {ts : List Tok} {E : Nat -> Pr Ty} {a c : Nat} {x : Ty} (hE : ∀ a x b, E a = .inl (x, b) -> a <= b) (h : ((Ze ts a [40]).go fun _ b => (E b).go fun x b => (Ze ts b [41]).go fun _ b => .inl (x, b)) = .inl (x, c)) : a + 1 <= c := by
 cases h1 : Ze ts a [40] with
 | inr e => rw [h1] at h; cases h
 | inl p =>
  obtain ⟨u, b⟩ := p;have := Ck h1;rw [h1, Km] at h
  have hu : Uw b ((E b).go fun x b => (Ze ts b [41]).go fun _ b => .inl (x, b)) := Yp (Tc hE (xR)) fun _ _ h1 => Yp (Td h1 _) fun _ _ h2 => Xh h2 _
  have := hu _ _ h;omega
theorem fG {ts : List Tok} {E : Nat -> Pr Ty} {f a : Nat} {x : Ty} (h : Zh ts a [40] = true) : Uf ts E (f + 1) x a = ((Ze ts a [40]).go fun _ b => (E b).go fun y b => (Ze ts b [41]).go fun _ b => .inl (y, b)).go fun y b => Uf ts E f (Zn 7 [] 0 (Zk ts a).line (Zk ts a).col [] [] [x, y]) b := by
 rw [Uf, if_pos h]
 rw [show Ze ts a [40] = .inl ((), a + 1) by unfold Ze; rw [if_pos h], Km]
 cases E (a + 1) with
 | inr e => rfl
 | inl p =>
  obtain ⟨y, b⟩ := p;rw [Km, Km]
  cases Ze ts b [41] with
  | inr e => rfl
  | inl q => rfl
theorem fJ {ts : List Tok} {E : Nat -> Pr Ty} {f a : Nat} {x : Ty} (h0 : Zh ts a [40] = false) (h : Zh ts a [46] = true) : Uf ts E (f + 1) x a = (Zr ts (a + 1)).go fun s b => Uf ts E f (Zn 9 s 0 (Zk ts a).line (Zk ts a).col [] [] [x]) b := by
 rw [Uf, if_neg (by simp [h0]), if_pos h]
 rfl
theorem fH {ts : List Tok} {E : Nat -> Pr Ty} {f a : Nat} {x : Ty} (h0 : Zh ts a [40] = false) (h : Zh ts a [46] = false) : Uf ts E (f + 1) x a = .inl (x, a) := by
 rw [Uf, if_neg (by simp [h0]), if_neg (by simp [h])]
theorem post_c (pb tb cap d : Nat) (ts : List Tok) (P : Nat -> Pr Ty) (hA : Xg pb tb cap d ts Z4 181 P) (E : Nat -> Pr Ty) (hE : Xg pb tb cap d ts Z4 19 E) (ok : Yh ts) (a : Nat) (w : World) (h : Ps w pb tb cap ts a d) :
  Calls prog 180 #[pP pb] w (Z7 pb tb cap ts d w Z4 ((P a).go fun x b => Uf ts E ts.length x b)) := by
 have H := Za h
 have OK := Za ok
 have hp := h.ltp
 have HA1 := Za hA
 have Tn := Za hE
 have C0 := Za (Vz h Zi.obj)
 obtain ⟨R, hR⟩ : ∃ R : Pr Ty, R = ((P a).go fun x b => Uf ts E ts.length x b) := ⟨_, rfl⟩
 rw [<- hR]
 have Z9 := Za hR
 clear h ok hR hA hE
 go_enter func180, ntmps180
 go_wp2_with fail
 refine (HA1.o.calls a _ C0.o.ps).mono ?_
 intro e w1 Zg
 rcases Yj Zg with ⟨er, li, co, hr, rfl, Zb⟩ | ⟨D, b, v, hr, rfl, Zb, Zc, hv⟩
 ·have HE : xQ (R = .inr (er, li, co)) := by rw [Z9.o, hr]; exact rfl
  have HF := Za (C0.o.st.trans Zb);clear hr Zb Zg;go_wp2_with fail;exact ⟨rfl, HF.o, by rw [HE.o]⟩
 have Yk : xQ (R = Uf ts E ts.length D b) := by rw [Z9.o, hr]; exact rfl
 obtain ⟨x, rfl, hv⟩ := hv
 have Mn := Za (I2 (lo := w.heap.size + 1) (hv.lower C0.o.sz) x.obj)
 have C1 := Za ((C0.o.step Zb Zc))
 have C2 := Za (C1.o.alloc (x.obj))
 clear hr Zb Zc Zg hv
 obtain ⟨nb, Wb⟩ := xE w1.heap.size
 have Wk : w.heap.size < nb := by rw [Wb]; exact C1.o.sz
 rw [<- Wb] at C2 Mn
 go_wp2_with fail
 rw [<- Wb]
 clear Wb
 go_loopg [4] (ts.length - b) (fun gk _ wr => ∃ (b m : Nat) (x : NV) (D : Ty), xQ (Yy pb tb cap d ts w wr b [(nb, x.obj), (w.heap.size, Zi.obj)] [] []) /\ xQ (Xj (w.heap.size + 1) nb wr x D) /\ xQ (R = Uf ts E m D b) /\ xQ (ts.length <= b + m) /\ ts.length - b <= gk)
 case atStart => exact ⟨b, ts.length, x, D, C2, Mn, Yk, Nat.le_add_left _ _, xR⟩
 case round =>
  clear C2 Mn Yk C1;obtain ⟨b, m, x, D, C2, HX, HRp, U1, Ts⟩ := hrel
  obtain ⟨m, rfl⟩ : ∃ q, m = q + 1 := ⟨m - 1, by have := U1.o; have := C2.o.ps.lt; omega⟩
  have Ug := Za (B9 pb tb cap b d ts _ C2.o.ps);obtain ⟨t, ht⟩ := xE (Zk ts b);rw [<- ht] at Ug;have Qx := Za ht;clear ht
  have HnL : xQ (∀ wa, Yy pb tb cap d ts w wa b [(nb, x.obj), (w.heap.size, Zi.obj)] [] [] -> nb < wa.heap.size) := fun wa ca => xB ca.b0
  go_wp2_with fail;refine Ug.o.mono ?_;rintro e w2 ⟨rfl, hb⟩;have C3 := Za (C2.o.below hb);have Tq := Za (((HX.o.below (xB C2.o.b0) hb)).alloc (xB C3.o.b0) (Zp t));have C4 := Za (C3.o.alloc (Zp t));clear hb;go_wp2_with fail
  have hnt : w2.heap.size ≠ nb := by have := xB C3.o.b0; omega
  cases h1 : Zh ts b [40] with
  | true =>
   refine (Vo pb tb cap b _ 1 ts [[40]] _ _ C4.o.ps.rd (by simp) (by simp)).mono ?_;rw [Ul, h1];rintro e w3 ⟨rfl, hb⟩;have C5 := Za (C4.o.below hb);have Q9 := Za (Tq.o.below (xB C4.o.b1) hb);clear hb;have Zz := Za (HRp.o.trans (fG h1));rw [<- Qx.o] at Zz;clear h1
   have HC : xQ (∀ wa bx, Yy pb tb cap d ts w wa b bx [] [] -> Xj (w.heap.size + 1) nb wa x D -> (w2.heap.size, Zp t) ∈ bx -> (nb, x.obj) ∈ bx -> Calls prog 182 #[pP pb] wa fun e w9 => (∃ chain, e = .panicked chain /\ Z7 pb tb cap ts d w Z4 R e w9) ∨ ∃ (y : NV) (D2 : Ty) (b2 : Nat), e = .returned (y.val) /\ ((w9.cell? ⟨w2.heap.size, 0, none⟩ = some (.int .i64 t.kind) /\ w9.cell? ⟨w2.heap.size, 1, none⟩ = some (.string ⟨t.text.toArray⟩) /\ w9.cell? ⟨w2.heap.size, 2, none⟩ = some (.int .i64 t.line) /\ w9.cell? ⟨w2.heap.size, 3, none⟩ = some (.int .i64 t.col)) /\ (w9.cell? ⟨nb, 0, none⟩ = some (.int .i64 x.k) /\ w9.cell? ⟨nb, 1, none⟩ = some (.string x.tx) /\ w9.cell? ⟨nb, 2, none⟩ = some (.int .i64 x.N) /\ w9.cell? ⟨nb, 3, none⟩ = some (.int .i64 x.li) /\ w9.cell? ⟨nb, 4, none⟩ = some (.int .i64 x.co) /\ w9.cell? ⟨nb, 5, none⟩ = some (.slice x.ta x.tl x.tc) /\ w9.cell? ⟨nb, 6, none⟩ = some (.slice x.na x.nl x.nc) /\ w9.cell? ⟨nb, 7, none⟩ = some (.slice x.ka x.kl x.kc))) /\ (w2.heap.size < w9.heap.size /\ nb < w9.heap.size) /\ xQ (R = Uf ts E m (Zn 7 [] 0 t.line t.col [] [] [D, D2]) b2 /\ Yy pb tb cap d ts w w9 b2 bx [] [] /\ Xj (w.heap.size + 1) nb w9 x D /\ Xj (w.heap.size + 1) nb w9 y D2 /\ b + 1 <= b2)) := by
    intro wa bx CA NA m0 m1;refine (zA pb tb cap d ts E Tn.o OK.o b _ CA.ps).mono ?_;intro e w9 Zg;rcases Yj Zg with ⟨er, li, co, hr, rfl, Zb⟩ | ⟨D2, b2, v, hr, rfl, Zb, Zc, hv⟩
    ·exact .inl ⟨_, rfl, CA.st.trans Zb, by rw [Zz.o, hr]; rfl⟩
    obtain ⟨y, rfl, hv⟩ := hv;have CN := CA.step Zb Zc;exact .inr ⟨y, D2, b2, rfl, ⟨(Y1 (CN.has _ m0).1), (Zm (x := x) (CN.has _ m1).1).1⟩, ⟨xB (CN.has _ m0).1, xB (CN.has _ m1).1⟩, by rw [Zz.o, hr]; rfl, CN, NA.stay (xB (CA.has _ m1).1) Zb (by omega), I1 hv (xB (CA.has _ m1).1) CA.sz, bK Tn.o.up hr⟩
   have Nn : (w3.cell? ⟨w2.heap.size, 0, none⟩ = some (.int .i64 t.kind) /\ w3.cell? ⟨w2.heap.size, 1, none⟩ = some (.string ⟨t.text.toArray⟩) /\ w3.cell? ⟨w2.heap.size, 2, none⟩ = some (.int .i64 t.line) /\ w3.cell? ⟨w2.heap.size, 3, none⟩ = some (.int .i64 t.col)) /\ (w3.cell? ⟨nb, 0, none⟩ = some (.int .i64 x.k) /\ w3.cell? ⟨nb, 1, none⟩ = some (.string x.tx) /\ w3.cell? ⟨nb, 2, none⟩ = some (.int .i64 x.N) /\ w3.cell? ⟨nb, 3, none⟩ = some (.int .i64 x.li) /\ w3.cell? ⟨nb, 4, none⟩ = some (.int .i64 x.co) /\ w3.cell? ⟨nb, 5, none⟩ = some (.slice x.ta x.tl x.tc) /\ w3.cell? ⟨nb, 6, none⟩ = some (.slice x.na x.nl x.nc) /\ w3.cell? ⟨nb, 7, none⟩ = some (.slice x.ka x.kl x.kc)) := ⟨(Y1 (C5.o.has (w2.heap.size, Zp t) (by simp)).1), (Zm (x := x) (C5.o.has (nb, x.obj) (by simp)).1).1⟩
   have V0 : w2.heap.size < w3.heap.size := xB (C5.o.has (w2.heap.size, Zp t) (by simp)).1;have hl3 : nb < w3.heap.size := xB (C5.o.has (nb, x.obj) (by simp)).1;obtain ⟨⟨k0, k1, k2, k3⟩, n0, n1, n2, n3, n4, n5, n6, n7⟩ := Nn;go_wp2_with fail
   go_region_with (first
    | (go_at_call 123; refine (Oa t _ _ _ _ _ _ _ _ _ _ _ _ _).mono ?_; rintro e w10 ⟨z, rfl, HZ, hb⟩; (first | have Zv := Za (HY.o.2.1.below hb) | have Zv := Za ((HY.o.2.1.alloc _).below hb)); have Tm := Za (Zm (x := x) (Zv.o.has (nb, x.obj) (by simp)).1); obtain ⟨⟨p0, p1, p2, p3, p4, p5, p6, p7⟩, ⟨f0, f1, f2, f3, f4, f5, f6, f7⟩, Yn⟩ := Tm.o; have HBL : xQ (Below w9.heap.size w9 w10) := (by first | exact hb | exact Zx (Zq _ _) hb); clear hb)
    | (go_at_call 182; refine (HC.o _ _ (by first | exact C5.o.drew | exact (C5.o.alloc _).drew) (by first | exact Q9.o.drew | exact (Q9.o.alloc (xB (C5.o.has (nb, x.obj) (by simp)).1) _).drew) (by simp) (by simp)).mono ?_; rintro e w9 (⟨ch, rfl, hf⟩ | ⟨y, D2, b2, rfl, t5, t7, HY⟩); exact ⟨rfl, hf⟩; obtain ⟨⟨q0, q1, q2, q3⟩, m0, m1, m2, m3, m4, m5, m6, m7⟩ := t5; obtain ⟨hl4, hl5⟩ := t7))
   all_goals
    go_wp2_with fail
    have Hh : Xj (w.heap.size + 1) nb w10 z (Zn 7 [] 0 t.line t.col [] [] [D, D2]) := by
     rw [HZ.o]
     first
      | exact gD (HY.o.2.2.1.below hl5 HBL.o) (HY.o.2.2.2.1.below hl5 HBL.o) (Zv.o.has (w9.heap.size, .cells #[.int .i64 x.k, .string x.tx, .int .i64 x.N, .int .i64 x.li, .int .i64 x.co, .slice x.ta x.tl x.tc, .slice x.na x.nl x.nc, .slice x.ka x.kl x.kc, .int .i64 y.k, .string y.tx, .int .i64 y.N, .int .i64 y.li, .int .i64 y.co, .slice y.ta y.tl y.tc, .slice y.na y.nl y.nc, .slice y.ka y.kl y.kc] 38) (by simp)).1 (by have := HY.o.2.1.sz; omega) (by omega) _ ⟨rfl, rfl⟩ rfl rfl
    have hC := Zv.o.reput (bx' := [(nb, z.obj), (w.heap.size, Zi.obj)]) Wk z ⟨x, by simp⟩ (by
     intro p hp;rcases List.mem_cons.1 hp with rfl | hp
     ·exact .inl rfl
     ·rw [List.mem_singleton.1 hp]; exact .inr ⟨by simp, by show w.heap.size ≠ nb; omega⟩)
    go_roundg (ts.length - b2)
    case measure => have := Zv.o.ps.lt; have := HY.o.2.2.2.2; omega
    case rel => exact ⟨b2, m, z, _, hC, Hh.put8 (xB (Zv.o.has (nb, x.obj) (by simp)).1) z, HY.o.1, (by have := U1.o; have := HY.o.2.2.2.2; show _ <= _; omega), xR⟩
  | false =>
   refine (Vo pb tb cap b _ 1 ts [[40]] _ _ C4.o.ps.rd (by simp) (by simp)).mono ?_;rw [Ul, h1];rintro e w3 ⟨rfl, hb⟩;have C5 := Za (C4.o.below hb);have Q9 := Za (Tq.o.below (xB C4.o.b1) hb);clear hb;have HT := Za (V6 pb tb cap b d ts [46] _ C5.o.ps OK.o);go_wp2_with fail
   cases h2 : Zh ts b [46] with
   | true =>
    rw [h2, if_pos rfl] at HT;have Zz := Za (HRp.o.trans (fJ h1 h2));rw [<- Qx.o] at Zz;clear h1 h2;refine HT.o.mono ?_;rintro e w4 ⟨rfl, Zb, Zc⟩;have C6 := Za (C5.o.step Zb Zc);have HX5 := Za (Q9.o.stay (xB C5.o.b1) Zb (by omega));clear Zb Zc
    have HC : xQ (∀ wa bx, Yy pb tb cap d ts w wa (b + 1) bx [] [] -> Xj (w.heap.size + 1) nb wa x D -> (w2.heap.size, Zp t) ∈ bx -> (nb, x.obj) ∈ bx -> Calls prog 67 #[pP pb] wa fun e w9 => (∃ chain, e = .panicked chain /\ Z7 pb tb cap ts d w Z4 R e w9) ∨ ∃ (s : List UInt8) (b2 : Nat), e = .returned (.string ⟨s.toArray⟩) /\ ((w9.cell? ⟨w2.heap.size, 0, none⟩ = some (.int .i64 t.kind) /\ w9.cell? ⟨w2.heap.size, 1, none⟩ = some (.string ⟨t.text.toArray⟩) /\ w9.cell? ⟨w2.heap.size, 2, none⟩ = some (.int .i64 t.line) /\ w9.cell? ⟨w2.heap.size, 3, none⟩ = some (.int .i64 t.col)) /\ (w9.cell? ⟨nb, 0, none⟩ = some (.int .i64 x.k) /\ w9.cell? ⟨nb, 1, none⟩ = some (.string x.tx) /\ w9.cell? ⟨nb, 2, none⟩ = some (.int .i64 x.N) /\ w9.cell? ⟨nb, 3, none⟩ = some (.int .i64 x.li) /\ w9.cell? ⟨nb, 4, none⟩ = some (.int .i64 x.co) /\ w9.cell? ⟨nb, 5, none⟩ = some (.slice x.ta x.tl x.tc) /\ w9.cell? ⟨nb, 6, none⟩ = some (.slice x.na x.nl x.nc) /\ w9.cell? ⟨nb, 7, none⟩ = some (.slice x.ka x.kl x.kc))) /\ (w2.heap.size < w9.heap.size /\ nb < w9.heap.size) /\ xQ (R = Uf ts E m (Zn 9 s 0 t.line t.col [] [] [D]) b2 /\ Yy pb tb cap d ts w w9 b2 bx [] [] /\ Xj (w.heap.size + 1) nb w9 x D /\ True /\ b + 1 <= b2)) := by
     intro wa bx CA NA m0 m1;refine (Jo pb tb cap (b + 1) d ts _ CA.ps OK.o).mono ?_;intro e w9 Zg;rcases Yj Zg with ⟨er, li, co, hr, rfl, Zb⟩ | ⟨s, b2, v, hr, rfl, Zb, Zc, hv⟩
     ·exact .inl ⟨_, rfl, CA.st.trans Zb, by rw [Zz.o, hr]; rfl⟩
     subst hv;have CN := CA.step Zb Zc;exact .inr ⟨s, b2, rfl, ⟨(Y1 (CN.has _ m0).1), (Zm (x := x) (CN.has _ m1).1).1⟩, ⟨xB (CN.has _ m0).1, xB (CN.has _ m1).1⟩, by rw [Zz.o, hr]; rfl, CN, NA.stay (xB (CA.has _ m1).1) Zb (by omega), trivial, by have := Gw hr; omega⟩
    have Nn : (w4.cell? ⟨w2.heap.size, 0, none⟩ = some (.int .i64 t.kind) /\ w4.cell? ⟨w2.heap.size, 1, none⟩ = some (.string ⟨t.text.toArray⟩) /\ w4.cell? ⟨w2.heap.size, 2, none⟩ = some (.int .i64 t.line) /\ w4.cell? ⟨w2.heap.size, 3, none⟩ = some (.int .i64 t.col)) /\ (w4.cell? ⟨nb, 0, none⟩ = some (.int .i64 x.k) /\ w4.cell? ⟨nb, 1, none⟩ = some (.string x.tx) /\ w4.cell? ⟨nb, 2, none⟩ = some (.int .i64 x.N) /\ w4.cell? ⟨nb, 3, none⟩ = some (.int .i64 x.li) /\ w4.cell? ⟨nb, 4, none⟩ = some (.int .i64 x.co) /\ w4.cell? ⟨nb, 5, none⟩ = some (.slice x.ta x.tl x.tc) /\ w4.cell? ⟨nb, 6, none⟩ = some (.slice x.na x.nl x.nc) /\ w4.cell? ⟨nb, 7, none⟩ = some (.slice x.ka x.kl x.kc)) := ⟨(Y1 (C6.o.has (w2.heap.size, Zp t) (by simp)).1), (Zm (x := x) (C6.o.has (nb, x.obj) (by simp)).1).1⟩
    have V0 : w2.heap.size < w4.heap.size := xB (C6.o.has (w2.heap.size, Zp t) (by simp)).1;have hl3 : nb < w4.heap.size := xB (C6.o.has (nb, x.obj) (by simp)).1;obtain ⟨⟨k0, k1, k2, k3⟩, n0, n1, n2, n3, n4, n5, n6, n7⟩ := Nn;go_wp2_with fail
    go_region_with (first
     | (go_at_call 123; refine (Oa t _ _ _ _ _ _ _ _ _ _ _ _ _).mono ?_; rintro e w10 ⟨z, rfl, HZ, hb⟩; (first | have Zv := Za (HY.o.2.1.below hb) | have Zv := Za ((HY.o.2.1.alloc _).below hb)); have Tm := Za (Zm (x := x) (Zv.o.has (nb, x.obj) (by simp)).1); obtain ⟨⟨p0, p1, p2, p3, p4, p5, p6, p7⟩, ⟨f0, f1, f2, f3, f4, f5, f6, f7⟩, Yn⟩ := Tm.o; have HBL : xQ (Below w9.heap.size w9 w10) := (by first | exact hb | exact Zx (Zq _ _) hb); clear hb)
     | (go_at_call 67; refine (HC.o _ _ (by first | exact C6.o.drew | exact (C6.o.alloc _).drew) (by first | exact HX5.o.drew | exact (HX5.o.alloc (xB (C6.o.has (nb, x.obj) (by simp)).1) _).drew) (by simp) (by simp)).mono ?_; rintro e w9 (⟨ch, rfl, hf⟩ | ⟨s, b2, rfl, t5, t7, HY⟩); exact ⟨rfl, hf⟩; obtain ⟨⟨q0, q1, q2, q3⟩, m0, m1, m2, m3, m4, m5, m6, m7⟩ := t5; obtain ⟨hl4, hl5⟩ := t7))
    all_goals
     go_wp2_with fail
     have Hh : Xj (w.heap.size + 1) nb w10 z (Zn 9 s 0 t.line t.col [] [] [D]) := by
      rw [HZ.o]
      first
       | exact tE (HY.o.2.2.1.below hl5 HBL.o) (Zv.o.has (w9.heap.size, x.obj) (by simp)).1 (by have := HY.o.2.1.sz; have := C6.o.sz; omega) (by omega) _ ⟨rfl, rfl⟩ rfl rfl
       | exact tE (HY.o.2.2.1.below hl5 HBL.o) (Zv.o.has (w4.heap.size, x.obj) (by simp)).1 (by have := HY.o.2.1.sz; have := C6.o.sz; omega) (by omega) _ ⟨rfl, rfl⟩ rfl rfl
     have hC := Zv.o.reput (bx' := [(nb, z.obj), (w.heap.size, Zi.obj)]) Wk z ⟨x, by simp⟩ (by
      intro p hp;rcases List.mem_cons.1 hp with rfl | hp
      ·exact .inl rfl
      ·rw [List.mem_singleton.1 hp]; exact .inr ⟨by simp, by show w.heap.size ≠ nb; omega⟩)
     go_roundg (ts.length - b2)
     case measure => have := Zv.o.ps.lt; have := HY.o.2.2.2.2; omega
     case rel => exact ⟨b2, m, z, _, hC, Hh.put8 (xB (Zv.o.has (nb, x.obj) (by simp)).1) z, HY.o.1, (by have := U1.o; have := HY.o.2.2.2.2; show _ <= _; omega), xR⟩
   | false =>
    rw [h2, if_neg (by simp)] at HT;have Zz := Za (HRp.o.trans (fH h1 h2));clear h1 h2;refine HT.o.mono ?_;rintro e w4 ⟨rfl, Zb, Zc⟩;have C6 := Za (C5.o.step Zb Zc);have HX5 := Za (Q9.o.stay (xB C5.o.b1) Zb (by omega));clear Zb Zc;obtain ⟨⟨r0, r1, r2, r3, r4, r5, r6, r7⟩, ⟨f0, f1, f2, f3, f4, f5, f6, f7⟩, Yn⟩ := Zm (x := Zi) C6.o.b2;obtain ⟨⟨n0, n1, n2, n3, n4, n5, n6, n7⟩, _, Kj⟩ := Zm (x := x) C6.o.b1
    have Z3 : ¬ nb = w.heap.size := by omega
    go_wp2_with fail;rw [Zz.o];refine r38 rfl rfl (Xn (x := x) C6.o.b2) rfl ⟨Wg C6.o.st hp (xR) x, Wn C6.o.ps hp x, _, rfl, x, rfl, ?_⟩;exact ((HX5.o.now Kj).put8 (xU _) x).lower (Nat.le_succ _)
theorem Yy.reset {pb tb cap d b nb o : Nat} {u : Value} {ob : Obj} {ts : List Tok} {w0 w : World} {bx bx' : List (Nat × Obj)} {ns : List (NV × Ty)} {tys : List (Value × Ty)} (h : Yy pb tb cap d ts w0 w b bx ns tys) (Wb : w0.heap.size < nb) (hn : (w.setCell ⟨nb, o, none⟩ u).heap[nb]? = some ob) (hb : ∀ p ∈ bx', (p = (nb, ob) ∨ (p ∈ bx /\ p.1 ≠ nb))) : Yy pb tb cap d ts w0 (w.setCell ⟨nb, o, none⟩ u) b bx' [] [] where
 st := h.st.own h.hp (by omega) o u
 ps := h.ps.other (by have := h.hp; omega) o u
 hp := h.hp
 sz := by rw [Ye]; exact h.sz
 has := fun p hp => by
  rcases hb p hp with rfl | ⟨h1, h2⟩
  ·exact ⟨hn, by have := h.hp; show pb < nb; omega⟩
  ·exact ⟨(xH h2).trans (h.has p h1).1, (h.has p h1).2⟩
 nds := (fun _ h => nomatch h)
 tys := (fun _ h => nomatch h)
theorem Yy.less {pb tb cap d b : Nat} {ts : List Tok} {w0 w : World} {bx bx' : List (Nat × Obj)} {ns : List (NV × Ty)} {tys : List (Value × Ty)} (h : Yy pb tb cap d ts w0 w b bx ns tys) (hb : ∀ p ∈ bx', p ∈ bx) : Yy pb tb cap d ts w0 w b bx' ns tys := ⟨h.st, h.ps, h.hp, h.sz, fun p hp => h.has p (hb p hp), h.nds, h.tys⟩
abbrev Uz (t : Tok) (s : List UInt8) (ta : Option Addr) (tl tc : Nat) (ka : Option Addr) (kl kc : Nat) : NV := ⟨5, ⟨s.toArray⟩, 0, t.line, t.col, ta, tl, tc, none, 0, 0, ka, kl, kc⟩
structure Qo (lo : Nat) (w : World) (ta : Option Addr) (tys : List Ty) (ns : List (NV × Ty)) : Prop where
 kd : ∃ m, Ut w lo m ta tys
 nd : ∀ p ∈ ns, Yi lo w p.1 p.2
section
variable {lo pb b : Nat} {w w' : World} {ta : Option Addr} {tys : List Ty} {ns : List (NV × Ty)} {x : NV} {D : Ty}
theorem Qo.keep (h : Qo lo w ta tys ns) (hs : w.heap.size <= w'.heap.size) (hk : ∀ b, lo <= b -> b < w.heap.size -> w'.heap[b]? = w.heap[b]?) : Qo lo w' ta tys ns := by
 obtain ⟨m, h1⟩ := h.kd
 exact ⟨⟨m, Ni h1 hs hk⟩, fun p hp => (h.nd p hp).keep hs hk⟩
theorem Qo.stay (h : Qo lo w ta tys ns) (hs : Zl pb w w') (hp : pb < lo) : Qo lo w' ta tys ns := h.keep hs.size fun b hb hl => hs.keep b (by omega) hl
theorem Qo.below (h : Qo lo w ta tys ns) (hb : Below w.heap.size w w') : Qo lo w' ta tys ns := h.keep hb.size fun b _ hl => hb.block b hl
theorem Qo.alloc (h : Qo lo w ta tys ns) (o : Obj) : Qo lo (w.alloc o) ta tys ns := h.below (Zq _ _)
theorem Qo.set1 (h : Qo lo w ta tys ns) (hb : b < lo) (o : Nat) (u : Value) : Qo lo (w.setCell ⟨b, o, none⟩ u) ta tys ns := h.keep (by rw [Ye]; exact xR) fun i hi _ => xH (by show i ≠ b; omega)
theorem Qo.put8 (h : Qo lo w ta tys ns) (hb : b < lo) (y : NV) : Qo lo (put8 w b y) ta tys ns := h.keep (by rw [Q3]; exact xR) fun i hi _ => U0 (by omega)
theorem Qo.add (h : Qo lo w ta tys ns) (hx : Yi lo w x D) : Qo lo w ta tys ((x, D) :: ns) := ⟨h.kd, fun p hp => by
 rcases List.mem_cons.1 hp with rfl | hp
 ·exact hx
 ·exact h.nd p hp⟩
end
theorem xY {W : World} {m n : Nat} {x : NV} (h : W.heap[m]? = some x.obj) (e : m = n) : Eh W n x := by
 subst e
 exact Zm h
theorem let_c (pb tb cap d : Nat) (ts : List Tok) (K E : Nat -> Pr Ty) (hK : Xg pb tb cap d ts Yb 21 K) (hE : Xg pb tb cap d ts Z4 19 E) (ok : Yh ts) (a : Nat) (w : World) (h : Ps w pb tb cap ts a d) :
  Calls prog 81 #[pP pb] w (Z7 pb tb cap ts d w Z4 ((Ze ts a [108, 101, 116]).go fun _ b => (Zr ts b).go fun s b => (Vi ts K [58] b).go fun y b => (Ze ts b [61]).go fun _ b => (E b).go fun v b => (Ze ts b [59]).go fun _ b => (E b).go fun r b => .inl (Zn 5 s 0 (Zk ts a).line (Zk ts a).col (if y.2 then [y.1] else []) [] [v, r], b))) := by
 have H := Za h
 have OK := Za ok
 have hp := h.ltp
 have Tn := Za hE
 have Py := Za hK
 have HM0 := Za (fun w h => Vw pb tb cap a d ts [108, 101, 116] w h ok)
 obtain ⟨t, ht⟩ := xE (Zk ts a)
 rw [<- ht] at HM0 ⊢
 clear ht
 have C0 := Za (Vz h Zi.obj)
 obtain ⟨R, hR⟩ : ∃ R : Pr Ty, R = ((Ze ts a [108, 101, 116]).go fun _ b => (Zr ts b).go fun s b => (Vi ts K [58] b).go fun y b => (Ze ts b [61]).go fun _ b => (E b).go fun v b => (Ze ts b [59]).go fun _ b => (E b).go fun r b => .inl (Zn 5 s 0 t.line t.col (if y.2 then [y.1] else []) [] [v, r], b)) := ⟨_, rfl⟩
 rw [<- hR]
 have Z9 := Za hR
 clear h ok hR hE hK
 go_enter func81, ntmps81
 go_wp2_with fail
 refine (HM0.o _ C0.o.ps).mono ?_
 intro e w1 Zg
 rcases Yj Zg with ⟨er, li, co, hr, rfl, Zb⟩ | ⟨u, b1, v, hr, rfl, Zb, Zc, hv⟩
 ·have HE : xQ (R = .inr (er, li, co)) := by rw [Z9.o, hr]; exact rfl
  have HF := Za (C0.o.st.trans Zb);clear hr Zb Zg;go_wp2_with fail;exact ⟨rfl, HF.o, by rw [HE.o]⟩
 have Yk : xQ (R = (Zr ts b1).go fun s b => (Vi ts K [58] b).go fun y b => (Ze ts b [61]).go fun _ b => (E b).go fun v b => (Ze ts b [59]).go fun _ b => (E b).go fun r b => .inl (Zn 5 s 0 t.line t.col (if y.2 then [y.1] else []) [] [v, r], b)) := by rw [Z9.o, hr]; exact rfl
 subst hv
 have C1 := Za ((C0.o.step Zb Zc))
 have C2 := Za (C1.o.alloc (Zp t))
 clear hr Zb Zc Zg  
 obtain ⟨⟨k0, k1, k2, k3⟩, _, P8⟩ := Z6 C2.o.b0
 go_wp2_with fail
 have Vx : (((w1.alloc (Zp t)).drew).cell? ⟨w1.heap.size, 0, none⟩ = some (.int .i64 t.kind) /\ ((w1.alloc (Zp t)).drew).cell? ⟨w1.heap.size, 1, none⟩ = some (.string ⟨t.text.toArray⟩) /\ ((w1.alloc (Zp t)).drew).cell? ⟨w1.heap.size, 2, none⟩ = some (.int .i64 t.line) /\ ((w1.alloc (Zp t)).drew).cell? ⟨w1.heap.size, 3, none⟩ = some (.int .i64 t.col)) := Y1 C2.o.b0
 have Jx : xQ (∀ o, ((((w1.alloc (Zp t)).alloc o).drew).cell? ⟨w1.heap.size, 0, none⟩ = some (.int .i64 t.kind) /\ (((w1.alloc (Zp t)).alloc o).drew).cell? ⟨w1.heap.size, 1, none⟩ = some (.string ⟨t.text.toArray⟩) /\ (((w1.alloc (Zp t)).alloc o).drew).cell? ⟨w1.heap.size, 2, none⟩ = some (.int .i64 t.line) /\ (((w1.alloc (Zp t)).alloc o).drew).cell? ⟨w1.heap.size, 3, none⟩ = some (.int .i64 t.col))) := (fun o => Y1 (C2.o.alloc o).drew.b1)
 have HC : xQ (∀ wa bx, Yy pb tb cap d ts w wa b1 bx [] [] -> (w1.heap.size, Zp t) ∈ bx -> Calls prog 67 #[pP pb] wa fun e w9 => (∃ chain, e = .panicked chain /\ Z7 pb tb cap ts d w Z4 R e w9) ∨ ∃ (s : List UInt8) (b2 : Nat), e = .returned (.string ⟨s.toArray⟩) /\ ((w9.cell? ⟨w1.heap.size, 0, none⟩ = some (.int .i64 t.kind) /\ w9.cell? ⟨w1.heap.size, 1, none⟩ = some (.string ⟨t.text.toArray⟩) /\ w9.cell? ⟨w1.heap.size, 2, none⟩ = some (.int .i64 t.line) /\ w9.cell? ⟨w1.heap.size, 3, none⟩ = some (.int .i64 t.col))) /\ xQ (R = ((Vi ts K [58] b2).go fun y b => (Ze ts b [61]).go fun _ b => (E b).go fun v b => (Ze ts b [59]).go fun _ b => (E b).go fun r b => .inl (Zn 5 s 0 t.line t.col (if y.2 then [y.1] else []) [] [v, r], b)) /\ Yy pb tb cap d ts w w9 b2 bx [] [])) := by
  intro wa bx CA m0;refine (Jo pb tb cap b1 d ts _ CA.ps OK.o).mono ?_;intro e w9 Zg;rcases Yj Zg with ⟨er, li, co, hr, rfl, Zb⟩ | ⟨s, b2, v, hr, rfl, Zb, Zc, hv⟩
  ·exact .inl ⟨_, rfl, CA.st.trans Zb, by rw [Yk.o, hr]; rfl⟩
  subst hv;have CN := CA.step Zb Zc;exact .inr ⟨s, b2, rfl, Y1 (CN.has _ m0).1, by rw [Yk.o, hr]; rfl, CN⟩
 have hnt0 : w1.heap.size ≠ w.heap.size := by have := C1.o.sz; omega
 have hsz1 := C1.o.sz
 go_wp2_with fail
 go_cut [4] from 12 (fun s4 wx => ∃ (nb : Nat) (s : List UInt8) (b2 : Nat), s4 = .pointer (some ⟨nb, 0, none⟩) /\ w.heap.size < nb /\ xQ (R = ((Vi ts K [58] b2).go fun y b => (Ze ts b [61]).go fun _ b => (E b).go fun v b => (Ze ts b [59]).go fun _ b => (E b).go fun r b => .inl (Zn 5 s 0 t.line t.col (if y.2 then [y.1] else []) [] [v, r], b)) /\ Yy pb tb cap d ts w wx b2 [(nb, (Wi 5 s 0 t).obj), (w.heap.size, Zi.obj)] [] []))
 case first =>
  go_region_held (fun W => (W.cell? ⟨w1.heap.size, 0, none⟩ = some (.int .i64 t.kind) /\ W.cell? ⟨w1.heap.size, 1, none⟩ = some (.string ⟨t.text.toArray⟩) /\ W.cell? ⟨w1.heap.size, 2, none⟩ = some (.int .i64 t.line) /\ W.cell? ⟨w1.heap.size, 3, none⟩ = some (.int .i64 t.col))) (first | with_reducible assumption | with_reducible exact Jx.o _ | with_reducible exact Wt.o _ | with_reducible exact M0.o _ | with_reducible exact HS4a.o _ _ _ _ _ _ _ _ | with_reducible exact HS4b.o _ _ _ _ _ _ _ _) (first
   | (go_at_call 67; refine (HC.o _ _ (by first | exact C2.o.drew | exact (C2.o.alloc _).drew) (by simp)).mono ?_; rintro e w9 (⟨ch, rfl, hf⟩ | ⟨s, b2, rfl, t5, HX⟩); exact ⟨rfl, hf⟩; have Wt : xQ (∀ o, (((w9.alloc o)).cell? ⟨w1.heap.size, 0, none⟩ = some (.int .i64 t.kind) /\ ((w9.alloc o)).cell? ⟨w1.heap.size, 1, none⟩ = some (.string ⟨t.text.toArray⟩) /\ ((w9.alloc o)).cell? ⟨w1.heap.size, 2, none⟩ = some (.int .i64 t.line) /\ ((w9.alloc o)).cell? ⟨w1.heap.size, 3, none⟩ = some (.int .i64 t.col))) := (fun o => Y1 ((HX.o.2.alloc o).has (w1.heap.size, Zp t) (by simp)).1))
   | (go_at_call 123; refine (Nl t ⟨5, ⟨s.toArray⟩, 0, 0, 0, none, 0, 0, none, 0, 0, none, 0, 0⟩ _).mono ?_; rintro e w10 ⟨rfl, hb⟩; (first | have Zv := Za (HX.o.2.below hb) | have Zv := Za ((HX.o.2.alloc _).below hb)); have t6 : (w10.cell? ⟨w1.heap.size, 0, none⟩ = some (.int .i64 t.kind) /\ w10.cell? ⟨w1.heap.size, 1, none⟩ = some (.string ⟨t.text.toArray⟩) /\ w10.cell? ⟨w1.heap.size, 2, none⟩ = some (.int .i64 t.line) /\ w10.cell? ⟨w1.heap.size, 3, none⟩ = some (.int .i64 t.col)) := Y1 (Zv.o.has (w1.heap.size, Zp t) (by simp)).1; have M0 : xQ (∀ o, (((w10.alloc o)).cell? ⟨w1.heap.size, 0, none⟩ = some (.int .i64 t.kind) /\ ((w10.alloc o)).cell? ⟨w1.heap.size, 1, none⟩ = some (.string ⟨t.text.toArray⟩) /\ ((w10.alloc o)).cell? ⟨w1.heap.size, 2, none⟩ = some (.int .i64 t.line) /\ ((w10.alloc o)).cell? ⟨w1.heap.size, 3, none⟩ = some (.int .i64 t.col))) := (fun o => Y1 ((Zv.o.alloc o).has (w1.heap.size, Zp t) (by simp)).1); have HS4a : xQ (∀ v0 v1 v2 v3 v4 v5 v6 v7, (((Yo w10 (w1.heap.size + 1) v0 v1 v2 v3 v4 v5 v6 v7)).cell? ⟨w1.heap.size, 0, none⟩ = some (.int .i64 t.kind) /\ ((Yo w10 (w1.heap.size + 1) v0 v1 v2 v3 v4 v5 v6 v7)).cell? ⟨w1.heap.size, 1, none⟩ = some (.string ⟨t.text.toArray⟩) /\ ((Yo w10 (w1.heap.size + 1) v0 v1 v2 v3 v4 v5 v6 v7)).cell? ⟨w1.heap.size, 2, none⟩ = some (.int .i64 t.line) /\ ((Yo w10 (w1.heap.size + 1) v0 v1 v2 v3 v4 v5 v6 v7)).cell? ⟨w1.heap.size, 3, none⟩ = some (.int .i64 t.col))) := (fun v0 v1 v2 v3 v4 v5 v6 v7 => Y1 ((Bs (by omega) v0 v1 v2 v3 v4 v5 v6 v7).trans (Zv.o.has (w1.heap.size, Zp t) (by simp)).1)); have HL9 := Za (xB (HX.o.2.has (w1.heap.size, Zp t) (by simp)).1); have HS4b : xQ (∀ v0 v1 v2 v3 v4 v5 v6 v7, (((Yo w10 w9.heap.size v0 v1 v2 v3 v4 v5 v6 v7)).cell? ⟨w1.heap.size, 0, none⟩ = some (.int .i64 t.kind) /\ ((Yo w10 w9.heap.size v0 v1 v2 v3 v4 v5 v6 v7)).cell? ⟨w1.heap.size, 1, none⟩ = some (.string ⟨t.text.toArray⟩) /\ ((Yo w10 w9.heap.size v0 v1 v2 v3 v4 v5 v6 v7)).cell? ⟨w1.heap.size, 2, none⟩ = some (.int .i64 t.line) /\ ((Yo w10 w9.heap.size v0 v1 v2 v3 v4 v5 v6 v7)).cell? ⟨w1.heap.size, 3, none⟩ = some (.int .i64 t.col))) := (fun v0 v1 v2 v3 v4 v5 v6 v7 => Y1 ((Bs (by have := HL9.o; omega) v0 v1 v2 v3 v4 v5 v6 v7).trans (Zv.o.has (w1.heap.size, Zp t) (by simp)).1)); (first | (have Tm := Za (xY (x := Zi) (n := w1.heap.size + 1) Zv.o.b0 (xS w1 (Zp t))); obtain ⟨⟨r0, r1, r2, r3, r4, r5, r6, r7⟩, ⟨f0, f1, f2, f3, f4, f5, f6, f7⟩, Yn⟩ := Tm.o) | (have Tm := Za (xY (x := Zi) (n := w9.heap.size) Zv.o.b0 (Eq.refl w9.heap.size)); obtain ⟨⟨r0, r1, r2, r3, r4, r5, r6, r7⟩, ⟨f0, f1, f2, f3, f4, f5, f6, f7⟩, Yn⟩ := Tm.o) | skip); clear hb))
  all_goals go_wp2_with fail
  all_goals go_meet
  ·exact ⟨_, s, b2, rfl, Zv.o.sz, HX.o.1, (Zv.o.alloc (Wi 5 s 0 t).obj).less (by intro p hp; rcases List.mem_cons.1 hp with rfl | hp; simp; rw [List.mem_singleton.1 hp]; simp)⟩
  ·exact ⟨_, s, b2, rfl, HX.o.2.sz, HX.o.1, Zv.o.reput (bx' := [(w9.heap.size, (Wi 5 s 0 t).obj), (w.heap.size, Zi.obj)]) (HX.o.2.sz) (Wi 5 s 0 t) ⟨Zi, by simp⟩ (by intro p hp; rcases List.mem_cons.1 hp with rfl | hp; exact .inl rfl; rw [List.mem_singleton.1 hp]; exact .inr ⟨by simp, by show w.heap.size ≠ _; have := HX.o.2.sz; omega⟩)⟩
  ·exact ⟨_, s, b2, rfl, (by omega), HX.o.1, Zv.o.reput (bx' := [(w1.heap.size + 1, (Wi 5 s 0 t).obj), (w.heap.size, Zi.obj)]) (by omega) (Wi 5 s 0 t) ⟨Zi, by simp⟩ (by intro p hp; rcases List.mem_cons.1 hp with rfl | hp; exact .inl rfl; rw [List.mem_singleton.1 hp]; exact .inr ⟨by simp, by show w.heap.size ≠ _; omega⟩)⟩
 case rest =>
  obtain ⟨nb, s, b2, rfl, Wb, HXc⟩ := hcut;have Zz := Za HXc.o.1;have C3 := Za HXc.o.2;clear HXc HC Vx Jx k0 k1 k2 k3;have HnL := Za (xB C3.o.b0);go_wp2_with fail;refine (A5 pb tb cap d ts [58] K Py.o OK.o b2 _ C3.o.ps).mono ?_;intro e w3 Zg;rcases Yj Zg with ⟨er, li, co, hr, rfl, Zb⟩ | ⟨y, b3, v, hr, rfl, Zb, Zc, hv⟩
  ·have HE : xQ (R = .inr (er, li, co)) := by rw [Zz.o, hr]; exact rfl
   have HF := Za (C3.o.st.trans Zb);clear hr Zb Zg;go_wp2_with fail;exact ⟨rfl, HF.o, by rw [HE.o]⟩
  have Yt : xQ (R = (Ze ts b3 [61]).go fun _ b => (E b).go fun v b => (Ze ts b [59]).go fun _ b => (E b).go fun r b => .inl (Zn 5 s 0 t.line t.col (if y.2 then [y.1] else []) [] [v, r], b)) := by rw [Zz.o, hr]; exact rfl
  obtain ⟨DT, okb⟩ := y;obtain ⟨u4, rfl, hv⟩ := hv;obtain ⟨k4, nm4, na4, nl4, nc4, ka4, kl4, kc4, rfl⟩ := hv.cells;have HVt := Za hv;have HSz3 := Za Zb.size;have C4 := Za ((C3.o.step Zb Zc));have C5 := Za (C4.o.alloc (Z5 k4 nm4 na4 nl4 nc4 ka4 kl4 kc4));clear hr Zb Zc Zg hv;obtain ⟨lo, Tj⟩ := xE wc.heap.size;rw [<- Tj] at HVt HnL HSz3
  have HLo : xQ (w.heap.size + 1 <= lo) := by rw [Tj]; exact C3.o.sz
  clear Tj;have Y0 := HnL.o;have Wh := HLo.o
  cases okb with
  | false =>
   have Xi : xQ (R = (Ze ts b3 [61]).go fun _ b => (E b).go fun v b => (Ze ts b [59]).go fun _ b => (E b).go fun r b => .inl (Zn 5 s 0 t.line t.col [] [] [v, r], b)) := Yt.o
   have HLv : xQ (Qo lo (w3.alloc (Z5 k4 nm4 na4 nl4 nc4 ka4 kl4 kc4)) none [] []) := ⟨⟨0, .inl rfl⟩, (fun _ h => nomatch h)⟩
   have C6 := Za (C5.o.less (bx' := [(nb, (Uz t s none 0 0 none 0 0).obj), (w.heap.size, Zi.obj)]) (by intro p hp; exact xW _ hp))
   have HSzA : xQ (lo <= (w3.alloc (Z5 k4 nm4 na4 nl4 nc4 ka4 kl4 kc4)).heap.size) := by have := HSz3.o; show _ <= _; rw [xS]; omega
   go_wp2_with fail;refine (Vw pb tb cap b3 d ts [61] _ C6.o.ps OK.o).mono ?_;intro e w4 Zg;rcases Yj Zg with ⟨er, li, co, hr, rfl, Zb⟩ | ⟨u4, b4, v4, hr, rfl, Zb, Zc, hv⟩
   ·have HE : xQ (R = .inr (er, li, co)) := by rw [Xi.o, hr]; exact rfl
    have HF := Za (C6.o.st.trans Zb);clear hr Zb Zg;go_wp2_with fail;exact ⟨rfl, HF.o, by rw [HE.o]⟩
   have Xq : xQ (R = (E b4).go fun v b => (Ze ts b [59]).go fun _ b => (E b).go fun r b => .inl (Zn 5 s 0 t.line t.col [] [] [v, r], b)) := by rw [Xi.o, hr]; exact rfl
   have HLw := Za (HLv.o.stay Zb (by omega));have Fd := Za (Nat.le_trans HSzA.o Zb.size);have C7 := Za ((C6.o.step Zb Zc));clear hr Zb Zc Zg hv;go_wp2_with fail;refine (Tn.o.calls b4 _ C7.o.ps).mono ?_;intro e w5 Zg;rcases Yj Zg with ⟨er, li, co, hr, rfl, Zb⟩ | ⟨D1, b5, v, hr, rfl, Zb, Zc, hv⟩
   ·have HE : xQ (R = .inr (er, li, co)) := by rw [Xq.o, hr]; exact rfl
    have HF := Za (C7.o.st.trans Zb);clear hr Zb Zg;go_wp2_with fail;exact ⟨rfl, HF.o, by rw [HE.o]⟩
   have Te : xQ (R = (Ze ts b5 [59]).go fun _ b => (E b).go fun r b => .inl (Zn 5 s 0 t.line t.col [] [] [D1, r], b)) := by rw [Xq.o, hr]; exact rfl
   obtain ⟨x1, rfl, hv⟩ := hv;have Sh := Za Zb.size;have HLx := Za (((HLw.o.stay Zb (by omega)).add (hv.lower Fd.o)).alloc x1.obj);have C8 := Za ((C7.o.step Zb Zc));have C9 := Za (C8.o.alloc (x1.obj));clear hr Zb Zc Zg hv;go_wp2_with fail;refine (Vw pb tb cap b5 d ts [59] _ C9.o.ps OK.o).mono ?_;intro e w6 Zg;rcases Yj Zg with ⟨er, li, co, hr, rfl, Zb⟩ | ⟨u6, b6, v6, hr, rfl, Zb, Zc, hv⟩
   ·have HE : xQ (R = .inr (er, li, co)) := by rw [Te.o, hr]; exact rfl
    have HF := Za (C9.o.st.trans Zb);clear hr Zb Zg;go_wp2_with fail;exact ⟨rfl, HF.o, by rw [HE.o]⟩
   have Vs : xQ (R = (E b6).go fun r b => .inl (Zn 5 s 0 t.line t.col [] [] [D1, r], b)) := by rw [Te.o, hr]; exact rfl
   have HLy := Za (HLx.o.stay Zb (by omega));have HSzD := Za (Nat.le_trans (Nat.le_trans Fd.o Sh.o) (Nat.le_trans (by rw [xS]; exact Nat.le_succ _) Zb.size));have C10 := Za ((C9.o.step Zb Zc));clear hr Zb Zc Zg hv;obtain ⟨⟨n0, n1, n2, n3, n4, n5, n6, n7⟩, _, Kj⟩ := Zm (x := x1) C10.o.b0;obtain ⟨⟨m0, m1, m2, m3, m4, m5, m6, m7⟩, ⟨g0, g1, g2, g3, g4, g5, g6, g7⟩, B6⟩ := Zm (x := Uz t s (none) 0 0 none 0 0) C10.o.b1
   go_wp2_with fail
   have Jh : w5.heap.size ≠ nb := by have := Fd.o; have := Sh.o; omega
   have Vx : ((w6.drew).cell? ⟨w5.heap.size, 0, none⟩ = some (.int .i64 x1.k) /\ (w6.drew).cell? ⟨w5.heap.size, 1, none⟩ = some (.string x1.tx) /\ (w6.drew).cell? ⟨w5.heap.size, 2, none⟩ = some (.int .i64 x1.N) /\ (w6.drew).cell? ⟨w5.heap.size, 3, none⟩ = some (.int .i64 x1.li) /\ (w6.drew).cell? ⟨w5.heap.size, 4, none⟩ = some (.int .i64 x1.co) /\ (w6.drew).cell? ⟨w5.heap.size, 5, none⟩ = some (.slice x1.ta x1.tl x1.tc) /\ (w6.drew).cell? ⟨w5.heap.size, 6, none⟩ = some (.slice x1.na x1.nl x1.nc) /\ (w6.drew).cell? ⟨w5.heap.size, 7, none⟩ = some (.slice x1.ka x1.kl x1.kc)) := (Zm (x := x1) C10.o.drew.b0).1
   have HC : xQ (Calls prog 19 #[pP pb] w6.drew fun e w9 => (∃ chain, e = .panicked chain /\ Z7 pb tb cap ts d w Z4 R e w9) ∨ ∃ (y : NV) (D2 : Ty) (b7 : Nat), e = .returned y.val /\ ((w9.cell? ⟨w5.heap.size, 0, none⟩ = some (.int .i64 x1.k) /\ w9.cell? ⟨w5.heap.size, 1, none⟩ = some (.string x1.tx) /\ w9.cell? ⟨w5.heap.size, 2, none⟩ = some (.int .i64 x1.N) /\ w9.cell? ⟨w5.heap.size, 3, none⟩ = some (.int .i64 x1.li) /\ w9.cell? ⟨w5.heap.size, 4, none⟩ = some (.int .i64 x1.co) /\ w9.cell? ⟨w5.heap.size, 5, none⟩ = some (.slice x1.ta x1.tl x1.tc) /\ w9.cell? ⟨w5.heap.size, 6, none⟩ = some (.slice x1.na x1.nl x1.nc) /\ w9.cell? ⟨w5.heap.size, 7, none⟩ = some (.slice x1.ka x1.kl x1.kc))) /\ Eh w9 nb (Uz t s (none) 0 0 none 0 0) /\ xQ (R = (.inl (Zn 5 s 0 t.line t.col [] [] [D1, D2], b7)) /\ Yy pb tb cap d ts w w9 b7 [(w5.heap.size, x1.obj), (nb, (Uz t s (none) 0 0 none 0 0).obj), (w.heap.size, Zi.obj)] [] [] /\ Qo lo w9 (none) [] [(y, D2), (x1, D1)])) := by
    refine (Tn.o.calls b6 _ C10.o.drew.ps).mono ?_;intro e w9 Zg;rcases Yj Zg with ⟨er, li, co, hr, rfl, Zb⟩ | ⟨D2, b7, v, hr, rfl, Zb, Zc, hv⟩
    ·exact .inl ⟨_, rfl, C10.o.drew.st.trans Zb, by rw [Vs.o, hr]; rfl⟩
    obtain ⟨y, rfl, hv⟩ := hv;have CN := C10.o.drew.step Zb Zc;exact .inr ⟨y, D2, b7, rfl, (Zm (x := x1) CN.b0).1, Zm (x := Uz t s (none) 0 0 none 0 0) CN.b1, by rw [Vs.o, hr]; rfl, CN, (HLy.o.stay Zb.undrew (by omega)).add (hv.lower (by have := HSzD.o; show lo <= w6.heap.size; omega))⟩
   go_region_held (fun W => (W.cell? ⟨w5.heap.size, 0, none⟩ = some (.int .i64 x1.k) /\ W.cell? ⟨w5.heap.size, 1, none⟩ = some (.string x1.tx) /\ W.cell? ⟨w5.heap.size, 2, none⟩ = some (.int .i64 x1.N) /\ W.cell? ⟨w5.heap.size, 3, none⟩ = some (.int .i64 x1.li) /\ W.cell? ⟨w5.heap.size, 4, none⟩ = some (.int .i64 x1.co) /\ W.cell? ⟨w5.heap.size, 5, none⟩ = some (.slice x1.ta x1.tl x1.tc) /\ W.cell? ⟨w5.heap.size, 6, none⟩ = some (.slice x1.na x1.nl x1.nc) /\ W.cell? ⟨w5.heap.size, 7, none⟩ = some (.slice x1.ka x1.kl x1.kc))) (first | with_reducible assumption | with_reducible exact Wt.o _ | with_reducible exact HS7.o _ _) (first
    | (go_at_call 19; refine HC.o.mono ?_; rintro e w9 (⟨ch, rfl, hf⟩ | ⟨y, D2, b7, rfl, t5, t7, HX⟩); exact ⟨rfl, hf⟩; have Wt : xQ (∀ o, (((w9.alloc o)).cell? ⟨w5.heap.size, 0, none⟩ = some (.int .i64 x1.k) /\ ((w9.alloc o)).cell? ⟨w5.heap.size, 1, none⟩ = some (.string x1.tx) /\ ((w9.alloc o)).cell? ⟨w5.heap.size, 2, none⟩ = some (.int .i64 x1.N) /\ ((w9.alloc o)).cell? ⟨w5.heap.size, 3, none⟩ = some (.int .i64 x1.li) /\ ((w9.alloc o)).cell? ⟨w5.heap.size, 4, none⟩ = some (.int .i64 x1.co) /\ ((w9.alloc o)).cell? ⟨w5.heap.size, 5, none⟩ = some (.slice x1.ta x1.tl x1.tc) /\ ((w9.alloc o)).cell? ⟨w5.heap.size, 6, none⟩ = some (.slice x1.na x1.nl x1.nc) /\ ((w9.alloc o)).cell? ⟨w5.heap.size, 7, none⟩ = some (.slice x1.ka x1.kl x1.kc))) := (fun o => (Zm (x := x1) (HX.o.2.1.alloc o).b1).1); have HS7 : xQ (∀ u o, ((((w9.setCell ⟨nb, 7, none⟩ u).alloc o)).cell? ⟨w5.heap.size, 0, none⟩ = some (.int .i64 x1.k) /\ (((w9.setCell ⟨nb, 7, none⟩ u).alloc o)).cell? ⟨w5.heap.size, 1, none⟩ = some (.string x1.tx) /\ (((w9.setCell ⟨nb, 7, none⟩ u).alloc o)).cell? ⟨w5.heap.size, 2, none⟩ = some (.int .i64 x1.N) /\ (((w9.setCell ⟨nb, 7, none⟩ u).alloc o)).cell? ⟨w5.heap.size, 3, none⟩ = some (.int .i64 x1.li) /\ (((w9.setCell ⟨nb, 7, none⟩ u).alloc o)).cell? ⟨w5.heap.size, 4, none⟩ = some (.int .i64 x1.co) /\ (((w9.setCell ⟨nb, 7, none⟩ u).alloc o)).cell? ⟨w5.heap.size, 5, none⟩ = some (.slice x1.ta x1.tl x1.tc) /\ (((w9.setCell ⟨nb, 7, none⟩ u).alloc o)).cell? ⟨w5.heap.size, 6, none⟩ = some (.slice x1.na x1.nl x1.nc) /\ (((w9.setCell ⟨nb, 7, none⟩ u).alloc o)).cell? ⟨w5.heap.size, 7, none⟩ = some (.slice x1.ka x1.kl x1.kc))) := (fun u o => (Zm (x := x1) ((xA (by rw [Ye]; exact xB HX.o.2.1.b0)).trans ((xH Jh).trans HX.o.2.1.b0))).1); obtain ⟨⟨q0, q1, q2, q3, q4, q5, q6, q7⟩, ⟨j0, j1, j2, j3, j4, j5, j6, j7⟩, hq1⟩ := t7; obtain ⟨⟨r0, r1, r2, r3, r4, r5, r6, r7⟩, ⟨f0, f1, f2, f3, f4, f5, f6, f7⟩, Yn⟩ := Zm (x := Zi) HX.o.2.1.b2))
   all_goals
    have Vq : ¬ nb = w.heap.size := by omega
    have Wl : ¬ w.heap.size = nb := by omega
    have Hi : ¬ w9.heap.size = nb := by omega
    have Fr : ¬ w9.heap.size = w.heap.size := by omega
    go_wp2_with fail;rw [HX.o.1];have hrb : (w9.setCell ⟨nb, 7, none⟩ (.slice (some ⟨w9.heap.size, 0, none⟩) 2 2)).heap[w.heap.size]? = some Zi.obj := (xH Wl).trans HX.o.2.1.b2;refine r38 rfl rfl ((xA (show w.heap.size < (put8 (w9.setCell ⟨nb, 7, none⟩ (.slice (some ⟨w9.heap.size, 0, none⟩) 2 2)) w.heap.size (Uz t s (none) 0 0 (some ⟨w9.heap.size, 0, none⟩) 2 2)).heap.size by rw [Q3, Ye]; exact Yn)).trans (Xn (x := Uz t s (none) 0 0 (some ⟨w9.heap.size, 0, none⟩) 2 2) hrb)) rfl ⟨(Wg (HX.o.2.1.st.own hp (by omega) 7 _) hp (xR) (Uz t s (none) 0 0 (some ⟨w9.heap.size, 0, none⟩) 2 2)).alloc hp _, (Wn (HX.o.2.1.ps.other (by omega) 7 _) hp (Uz t s (none) 0 0 (some ⟨w9.heap.size, 0, none⟩) 2 2)).alloc _, _, rfl, Uz t s (none) 0 0 (some ⟨w9.heap.size, 0, none⟩) 2 2, rfl, ?_⟩
    have hLv := (((HX.o.2.2.set1 Y0 7 (.slice (some ⟨w9.heap.size, 0, none⟩) 2 2)).put8 (b := w.heap.size) (by omega) (Uz t s (none) 0 0 (some ⟨w9.heap.size, 0, none⟩) 2 2)).alloc (.cells #[.int .i64 x1.k, .string x1.tx, .int .i64 x1.N, .int .i64 x1.li, .int .i64 x1.co, .slice x1.ta x1.tl x1.tc, .slice x1.na x1.nl x1.nc, .slice x1.ka x1.kl x1.kc, .int .i64 y.k, .string y.tx, .int .i64 y.N, .int .i64 y.li, .int .i64 y.co, .slice y.ta y.tl y.tc, .slice y.na y.nl y.nc, .slice y.ka y.kl y.kc] 38))
    have hk : ((put8 (w9.setCell ⟨nb, 7, none⟩ (.slice (some ⟨w9.heap.size, 0, none⟩) 2 2)) w.heap.size (Uz t s (none) 0 0 (some ⟨w9.heap.size, 0, none⟩) 2 2)).alloc (.cells #[.int .i64 x1.k, .string x1.tx, .int .i64 x1.N, .int .i64 x1.li, .int .i64 x1.co, .slice x1.ta x1.tl x1.tc, .slice x1.na x1.nl x1.nc, .slice x1.ka x1.kl x1.kc, .int .i64 y.k, .string y.tx, .int .i64 y.N, .int .i64 y.li, .int .i64 y.co, .slice y.ta y.tl y.tc, .slice y.na y.nl y.nc, .slice y.ka y.kl y.kc] 38)).heap[w9.heap.size]? = some (.cells #[.int .i64 x1.k, .string x1.tx, .int .i64 x1.N, .int .i64 x1.li, .int .i64 x1.co, .slice x1.ta x1.tl x1.tc, .slice x1.na x1.nl x1.nc, .slice x1.ka x1.kl x1.kc, .int .i64 y.k, .string y.tx, .int .i64 y.N, .int .i64 y.li, .int .i64 y.co, .slice y.ta y.tl y.tc, .slice y.na y.nl y.nc, .slice y.ka y.kl y.kc] 38) := by
     have := xL (put8 (w9.setCell ⟨nb, 7, none⟩ (.slice (some ⟨w9.heap.size, 0, none⟩) 2 2)) w.heap.size (Uz t s (none) 0 0 (some ⟨w9.heap.size, 0, none⟩) 2 2)) (.cells #[.int .i64 x1.k, .string x1.tx, .int .i64 x1.N, .int .i64 x1.li, .int .i64 x1.co, .slice x1.ta x1.tl x1.tc, .slice x1.na x1.nl x1.nc, .slice x1.ka x1.kl x1.kc, .int .i64 y.k, .string y.tx, .int .i64 y.N, .int .i64 y.li, .int .i64 y.co, .slice y.ta y.tl y.tc, .slice y.na y.nl y.nc, .slice y.ka y.kl y.kc] 38)
     rw [Q3, Ye] at this;exact this
    exact (Jn (hLv.nd (x1, D1) (by simp)) (hLv.nd (y, D2) (by simp)) hk (by have := xB HX.o.2.1.b0; have := Fd.o; have := Sh.o; omega) (Uz t s (none) 0 0 (some ⟨w9.heap.size, 0, none⟩) 2 2) [] [] ⟨rfl, rfl⟩ ⟨rfl, by simp, hLv.kd⟩ ⟨rfl, xZ _, .inl rfl⟩).lower (by omega)
  | true =>
   have Xi : xQ (R = (Ze ts b3 [61]).go fun _ b => (E b).go fun v b => (Ze ts b [59]).go fun _ b => (E b).go fun r b => .inl (Zn 5 s 0 t.line t.col [DT] [] [v, r], b)) := Yt.o;obtain ⟨⟨q0, q1, q2, q3, q4, q5, q6, q7⟩, ⟨j0, j1, j2, j3, j4, j5, j6, j7⟩, hq1⟩ := Zm (x := Wi 5 s 0 t) C4.o.b0
   have Xy : (w3.setCell ⟨nb, 5, none⟩ (.slice (some ⟨w3.heap.size + 1, 0, none⟩) 1 1)).heap[nb]? = some (Uz t s (some ⟨w3.heap.size + 1, 0, none⟩) 1 1 none 0 0).obj := by
    have := Xe (o := 5) (u := .slice (some ⟨w3.heap.size + 1, 0, none⟩) 1 1) C4.o.b0
    simpa using this
   have Yu : (((w3.setCell ⟨nb, 5, none⟩ (.slice (some ⟨w3.heap.size + 1, 0, none⟩) 1 1)).alloc (Z5 k4 nm4 na4 nl4 nc4 ka4 kl4 kc4)).alloc (Z5 k4 nm4 na4 nl4 nc4 ka4 kl4 kc4)).heap[w3.heap.size + 1]? = some (Z5 k4 nm4 na4 nl4 nc4 ka4 kl4 kc4) := by
    have := xL ((w3.setCell ⟨nb, 5, none⟩ (.slice (some ⟨w3.heap.size + 1, 0, none⟩) 1 1)).alloc (Z5 k4 nm4 na4 nl4 nc4 ka4 kl4 kc4)) (Z5 k4 nm4 na4 nl4 nc4 ka4 kl4 kc4);rw [xS, Ye] at this;exact this
   have HSzA : xQ (lo <= (((w3.setCell ⟨nb, 5, none⟩ (.slice (some ⟨w3.heap.size + 1, 0, none⟩) 1 1)).alloc (Z5 k4 nm4 na4 nl4 nc4 ka4 kl4 kc4)).alloc (Z5 k4 nm4 na4 nl4 nc4 ka4 kl4 kc4)).heap.size) := by have := HSz3.o; show _ <= _; rw [xS, xS, Ye]; omega
   have HLv : xQ (Qo lo (((w3.setCell ⟨nb, 5, none⟩ (.slice (some ⟨w3.heap.size + 1, 0, none⟩) 1 1)).alloc (Z5 k4 nm4 na4 nl4 nc4 ka4 kl4 kc4)).alloc (Z5 k4 nm4 na4 nl4 nc4 ka4 kl4 kc4)) (some ⟨w3.heap.size + 1, 0, none⟩) [DT] []) := ⟨Oo (((HVt.o.set1 Y0 5 _).alloc _).alloc _) Yu (by have := HSz3.o; omega), (fun _ h => nomatch h)⟩
   have C6 := Za ((((C4.o.reset (bx' := [(nb, (Uz t s (some ⟨w3.heap.size + 1, 0, none⟩) 1 1 none 0 0).obj), (w.heap.size, Zi.obj)]) Wb Xy (by intro p hp; rcases List.mem_cons.1 hp with rfl | hp; exact .inl rfl; rw [List.mem_singleton.1 hp]; exact .inr ⟨by simp, by show w.heap.size ≠ nb; omega⟩)).alloc (Z5 k4 nm4 na4 nl4 nc4 ka4 kl4 kc4)).alloc (Z5 k4 nm4 na4 nl4 nc4 ka4 kl4 kc4)).less (bx' := [(nb, (Uz t s (some ⟨w3.heap.size + 1, 0, none⟩) 1 1 none 0 0).obj), (w.heap.size, Zi.obj)]) (by intro p hp; exact xW _ (xW _ hp)))
   clear Xy Yu;go_wp2_with fail;refine (Vw pb tb cap b3 d ts [61] _ C6.o.ps OK.o).mono ?_;intro e w4 Zg;rcases Yj Zg with ⟨er, li, co, hr, rfl, Zb⟩ | ⟨u4, b4, v4, hr, rfl, Zb, Zc, hv⟩
   ·have HE : xQ (R = .inr (er, li, co)) := by rw [Xi.o, hr]; exact rfl
    have HF := Za (C6.o.st.trans Zb);clear hr Zb Zg;go_wp2_with fail;exact ⟨rfl, HF.o, by rw [HE.o]⟩
   have Xq : xQ (R = (E b4).go fun v b => (Ze ts b [59]).go fun _ b => (E b).go fun r b => .inl (Zn 5 s 0 t.line t.col [DT] [] [v, r], b)) := by rw [Xi.o, hr]; exact rfl
   have HLw := Za (HLv.o.stay Zb (by omega));have Fd := Za (Nat.le_trans HSzA.o Zb.size);have C7 := Za ((C6.o.step Zb Zc));clear hr Zb Zc Zg hv;go_wp2_with fail;refine (Tn.o.calls b4 _ C7.o.ps).mono ?_;intro e w5 Zg;rcases Yj Zg with ⟨er, li, co, hr, rfl, Zb⟩ | ⟨D1, b5, v, hr, rfl, Zb, Zc, hv⟩
   ·have HE : xQ (R = .inr (er, li, co)) := by rw [Xq.o, hr]; exact rfl
    have HF := Za (C7.o.st.trans Zb);clear hr Zb Zg;go_wp2_with fail;exact ⟨rfl, HF.o, by rw [HE.o]⟩
   have Te : xQ (R = (Ze ts b5 [59]).go fun _ b => (E b).go fun r b => .inl (Zn 5 s 0 t.line t.col [DT] [] [D1, r], b)) := by rw [Xq.o, hr]; exact rfl
   obtain ⟨x1, rfl, hv⟩ := hv;have Sh := Za Zb.size;have HLx := Za (((HLw.o.stay Zb (by omega)).add (hv.lower Fd.o)).alloc x1.obj);have C8 := Za ((C7.o.step Zb Zc));have C9 := Za (C8.o.alloc (x1.obj));clear hr Zb Zc Zg hv;go_wp2_with fail;refine (Vw pb tb cap b5 d ts [59] _ C9.o.ps OK.o).mono ?_;intro e w6 Zg;rcases Yj Zg with ⟨er, li, co, hr, rfl, Zb⟩ | ⟨u6, b6, v6, hr, rfl, Zb, Zc, hv⟩
   ·have HE : xQ (R = .inr (er, li, co)) := by rw [Te.o, hr]; exact rfl
    have HF := Za (C9.o.st.trans Zb);clear hr Zb Zg;go_wp2_with fail;exact ⟨rfl, HF.o, by rw [HE.o]⟩
   have Vs : xQ (R = (E b6).go fun r b => .inl (Zn 5 s 0 t.line t.col [DT] [] [D1, r], b)) := by rw [Te.o, hr]; exact rfl
   have HLy := Za (HLx.o.stay Zb (by omega));have HSzD := Za (Nat.le_trans (Nat.le_trans Fd.o Sh.o) (Nat.le_trans (by rw [xS]; exact Nat.le_succ _) Zb.size));have C10 := Za ((C9.o.step Zb Zc));clear hr Zb Zc Zg hv;obtain ⟨⟨n0, n1, n2, n3, n4, n5, n6, n7⟩, _, Kj⟩ := Zm (x := x1) C10.o.b0;obtain ⟨⟨m0, m1, m2, m3, m4, m5, m6, m7⟩, ⟨g0, g1, g2, g3, g4, g5, g6, g7⟩, B6⟩ := Zm (x := Uz t s (some ⟨w3.heap.size + 1, 0, none⟩) 1 1 none 0 0) C10.o.b1
   go_wp2_with fail
   have Jh : w5.heap.size ≠ nb := by have := Fd.o; have := Sh.o; omega
   have Vx : ((w6.drew).cell? ⟨w5.heap.size, 0, none⟩ = some (.int .i64 x1.k) /\ (w6.drew).cell? ⟨w5.heap.size, 1, none⟩ = some (.string x1.tx) /\ (w6.drew).cell? ⟨w5.heap.size, 2, none⟩ = some (.int .i64 x1.N) /\ (w6.drew).cell? ⟨w5.heap.size, 3, none⟩ = some (.int .i64 x1.li) /\ (w6.drew).cell? ⟨w5.heap.size, 4, none⟩ = some (.int .i64 x1.co) /\ (w6.drew).cell? ⟨w5.heap.size, 5, none⟩ = some (.slice x1.ta x1.tl x1.tc) /\ (w6.drew).cell? ⟨w5.heap.size, 6, none⟩ = some (.slice x1.na x1.nl x1.nc) /\ (w6.drew).cell? ⟨w5.heap.size, 7, none⟩ = some (.slice x1.ka x1.kl x1.kc)) := (Zm (x := x1) C10.o.drew.b0).1
   have HC : xQ (Calls prog 19 #[pP pb] w6.drew fun e w9 => (∃ chain, e = .panicked chain /\ Z7 pb tb cap ts d w Z4 R e w9) ∨ ∃ (y : NV) (D2 : Ty) (b7 : Nat), e = .returned y.val /\ ((w9.cell? ⟨w5.heap.size, 0, none⟩ = some (.int .i64 x1.k) /\ w9.cell? ⟨w5.heap.size, 1, none⟩ = some (.string x1.tx) /\ w9.cell? ⟨w5.heap.size, 2, none⟩ = some (.int .i64 x1.N) /\ w9.cell? ⟨w5.heap.size, 3, none⟩ = some (.int .i64 x1.li) /\ w9.cell? ⟨w5.heap.size, 4, none⟩ = some (.int .i64 x1.co) /\ w9.cell? ⟨w5.heap.size, 5, none⟩ = some (.slice x1.ta x1.tl x1.tc) /\ w9.cell? ⟨w5.heap.size, 6, none⟩ = some (.slice x1.na x1.nl x1.nc) /\ w9.cell? ⟨w5.heap.size, 7, none⟩ = some (.slice x1.ka x1.kl x1.kc))) /\ Eh w9 nb (Uz t s (some ⟨w3.heap.size + 1, 0, none⟩) 1 1 none 0 0) /\ xQ (R = (.inl (Zn 5 s 0 t.line t.col [DT] [] [D1, D2], b7)) /\ Yy pb tb cap d ts w w9 b7 [(w5.heap.size, x1.obj), (nb, (Uz t s (some ⟨w3.heap.size + 1, 0, none⟩) 1 1 none 0 0).obj), (w.heap.size, Zi.obj)] [] [] /\ Qo lo w9 (some ⟨w3.heap.size + 1, 0, none⟩) [DT] [(y, D2), (x1, D1)])) := by
    refine (Tn.o.calls b6 _ C10.o.drew.ps).mono ?_;intro e w9 Zg;rcases Yj Zg with ⟨er, li, co, hr, rfl, Zb⟩ | ⟨D2, b7, v, hr, rfl, Zb, Zc, hv⟩
    ·exact .inl ⟨_, rfl, C10.o.drew.st.trans Zb, by rw [Vs.o, hr]; rfl⟩
    obtain ⟨y, rfl, hv⟩ := hv;have CN := C10.o.drew.step Zb Zc;exact .inr ⟨y, D2, b7, rfl, (Zm (x := x1) CN.b0).1, Zm (x := Uz t s (some ⟨w3.heap.size + 1, 0, none⟩) 1 1 none 0 0) CN.b1, by rw [Vs.o, hr]; rfl, CN, (HLy.o.stay Zb.undrew (by omega)).add (hv.lower (by have := HSzD.o; show lo <= w6.heap.size; omega))⟩
   go_region_held (fun W => (W.cell? ⟨w5.heap.size, 0, none⟩ = some (.int .i64 x1.k) /\ W.cell? ⟨w5.heap.size, 1, none⟩ = some (.string x1.tx) /\ W.cell? ⟨w5.heap.size, 2, none⟩ = some (.int .i64 x1.N) /\ W.cell? ⟨w5.heap.size, 3, none⟩ = some (.int .i64 x1.li) /\ W.cell? ⟨w5.heap.size, 4, none⟩ = some (.int .i64 x1.co) /\ W.cell? ⟨w5.heap.size, 5, none⟩ = some (.slice x1.ta x1.tl x1.tc) /\ W.cell? ⟨w5.heap.size, 6, none⟩ = some (.slice x1.na x1.nl x1.nc) /\ W.cell? ⟨w5.heap.size, 7, none⟩ = some (.slice x1.ka x1.kl x1.kc))) (first | with_reducible assumption | with_reducible exact Wt.o _ | with_reducible exact HS7.o _ _) (first
    | (go_at_call 19; refine HC.o.mono ?_; rintro e w9 (⟨ch, rfl, hf⟩ | ⟨y, D2, b7, rfl, t5, t7, HX⟩); exact ⟨rfl, hf⟩; have Wt : xQ (∀ o, (((w9.alloc o)).cell? ⟨w5.heap.size, 0, none⟩ = some (.int .i64 x1.k) /\ ((w9.alloc o)).cell? ⟨w5.heap.size, 1, none⟩ = some (.string x1.tx) /\ ((w9.alloc o)).cell? ⟨w5.heap.size, 2, none⟩ = some (.int .i64 x1.N) /\ ((w9.alloc o)).cell? ⟨w5.heap.size, 3, none⟩ = some (.int .i64 x1.li) /\ ((w9.alloc o)).cell? ⟨w5.heap.size, 4, none⟩ = some (.int .i64 x1.co) /\ ((w9.alloc o)).cell? ⟨w5.heap.size, 5, none⟩ = some (.slice x1.ta x1.tl x1.tc) /\ ((w9.alloc o)).cell? ⟨w5.heap.size, 6, none⟩ = some (.slice x1.na x1.nl x1.nc) /\ ((w9.alloc o)).cell? ⟨w5.heap.size, 7, none⟩ = some (.slice x1.ka x1.kl x1.kc))) := (fun o => (Zm (x := x1) (HX.o.2.1.alloc o).b1).1); have HS7 : xQ (∀ u o, ((((w9.setCell ⟨nb, 7, none⟩ u).alloc o)).cell? ⟨w5.heap.size, 0, none⟩ = some (.int .i64 x1.k) /\ (((w9.setCell ⟨nb, 7, none⟩ u).alloc o)).cell? ⟨w5.heap.size, 1, none⟩ = some (.string x1.tx) /\ (((w9.setCell ⟨nb, 7, none⟩ u).alloc o)).cell? ⟨w5.heap.size, 2, none⟩ = some (.int .i64 x1.N) /\ (((w9.setCell ⟨nb, 7, none⟩ u).alloc o)).cell? ⟨w5.heap.size, 3, none⟩ = some (.int .i64 x1.li) /\ (((w9.setCell ⟨nb, 7, none⟩ u).alloc o)).cell? ⟨w5.heap.size, 4, none⟩ = some (.int .i64 x1.co) /\ (((w9.setCell ⟨nb, 7, none⟩ u).alloc o)).cell? ⟨w5.heap.size, 5, none⟩ = some (.slice x1.ta x1.tl x1.tc) /\ (((w9.setCell ⟨nb, 7, none⟩ u).alloc o)).cell? ⟨w5.heap.size, 6, none⟩ = some (.slice x1.na x1.nl x1.nc) /\ (((w9.setCell ⟨nb, 7, none⟩ u).alloc o)).cell? ⟨w5.heap.size, 7, none⟩ = some (.slice x1.ka x1.kl x1.kc))) := (fun u o => (Zm (x := x1) ((xA (by rw [Ye]; exact xB HX.o.2.1.b0)).trans ((xH Jh).trans HX.o.2.1.b0))).1); obtain ⟨⟨q0, q1, q2, q3, q4, q5, q6, q7⟩, ⟨j0, j1, j2, j3, j4, j5, j6, j7⟩, hq1⟩ := t7; obtain ⟨⟨r0, r1, r2, r3, r4, r5, r6, r7⟩, ⟨f0, f1, f2, f3, f4, f5, f6, f7⟩, Yn⟩ := Zm (x := Zi) HX.o.2.1.b2))
   all_goals
    have Vq : ¬ nb = w.heap.size := by omega
    have Wl : ¬ w.heap.size = nb := by omega
    have Hi : ¬ w9.heap.size = nb := by omega
    have Fr : ¬ w9.heap.size = w.heap.size := by omega
    go_wp2_with fail;rw [HX.o.1];have hrb : (w9.setCell ⟨nb, 7, none⟩ (.slice (some ⟨w9.heap.size, 0, none⟩) 2 2)).heap[w.heap.size]? = some Zi.obj := (xH Wl).trans HX.o.2.1.b2;refine r38 rfl rfl ((xA (show w.heap.size < (put8 (w9.setCell ⟨nb, 7, none⟩ (.slice (some ⟨w9.heap.size, 0, none⟩) 2 2)) w.heap.size (Uz t s (some ⟨w3.heap.size + 1, 0, none⟩) 1 1 (some ⟨w9.heap.size, 0, none⟩) 2 2)).heap.size by rw [Q3, Ye]; exact Yn)).trans (Xn (x := Uz t s (some ⟨w3.heap.size + 1, 0, none⟩) 1 1 (some ⟨w9.heap.size, 0, none⟩) 2 2) hrb)) rfl ⟨(Wg (HX.o.2.1.st.own hp (by omega) 7 _) hp (xR) (Uz t s (some ⟨w3.heap.size + 1, 0, none⟩) 1 1 (some ⟨w9.heap.size, 0, none⟩) 2 2)).alloc hp _, (Wn (HX.o.2.1.ps.other (by omega) 7 _) hp (Uz t s (some ⟨w3.heap.size + 1, 0, none⟩) 1 1 (some ⟨w9.heap.size, 0, none⟩) 2 2)).alloc _, _, rfl, Uz t s (some ⟨w3.heap.size + 1, 0, none⟩) 1 1 (some ⟨w9.heap.size, 0, none⟩) 2 2, rfl, ?_⟩
    have hLv := (((HX.o.2.2.set1 Y0 7 (.slice (some ⟨w9.heap.size, 0, none⟩) 2 2)).put8 (b := w.heap.size) (by omega) (Uz t s (some ⟨w3.heap.size + 1, 0, none⟩) 1 1 (some ⟨w9.heap.size, 0, none⟩) 2 2)).alloc (.cells #[.int .i64 x1.k, .string x1.tx, .int .i64 x1.N, .int .i64 x1.li, .int .i64 x1.co, .slice x1.ta x1.tl x1.tc, .slice x1.na x1.nl x1.nc, .slice x1.ka x1.kl x1.kc, .int .i64 y.k, .string y.tx, .int .i64 y.N, .int .i64 y.li, .int .i64 y.co, .slice y.ta y.tl y.tc, .slice y.na y.nl y.nc, .slice y.ka y.kl y.kc] 38))
    have hk : ((put8 (w9.setCell ⟨nb, 7, none⟩ (.slice (some ⟨w9.heap.size, 0, none⟩) 2 2)) w.heap.size (Uz t s (some ⟨w3.heap.size + 1, 0, none⟩) 1 1 (some ⟨w9.heap.size, 0, none⟩) 2 2)).alloc (.cells #[.int .i64 x1.k, .string x1.tx, .int .i64 x1.N, .int .i64 x1.li, .int .i64 x1.co, .slice x1.ta x1.tl x1.tc, .slice x1.na x1.nl x1.nc, .slice x1.ka x1.kl x1.kc, .int .i64 y.k, .string y.tx, .int .i64 y.N, .int .i64 y.li, .int .i64 y.co, .slice y.ta y.tl y.tc, .slice y.na y.nl y.nc, .slice y.ka y.kl y.kc] 38)).heap[w9.heap.size]? = some (.cells #[.int .i64 x1.k, .string x1.tx, .int .i64 x1.N, .int .i64 x1.li, .int .i64 x1.co, .slice x1.ta x1.tl x1.tc, .slice x1.na x1.nl x1.nc, .slice x1.ka x1.kl x1.kc, .int .i64 y.k, .string y.tx, .int .i64 y.N, .int .i64 y.li, .int .i64 y.co, .slice y.ta y.tl y.tc, .slice y.na y.nl y.nc, .slice y.ka y.kl y.kc] 38) := by
     have := xL (put8 (w9.setCell ⟨nb, 7, none⟩ (.slice (some ⟨w9.heap.size, 0, none⟩) 2 2)) w.heap.size (Uz t s (some ⟨w3.heap.size + 1, 0, none⟩) 1 1 (some ⟨w9.heap.size, 0, none⟩) 2 2)) (.cells #[.int .i64 x1.k, .string x1.tx, .int .i64 x1.N, .int .i64 x1.li, .int .i64 x1.co, .slice x1.ta x1.tl x1.tc, .slice x1.na x1.nl x1.nc, .slice x1.ka x1.kl x1.kc, .int .i64 y.k, .string y.tx, .int .i64 y.N, .int .i64 y.li, .int .i64 y.co, .slice y.ta y.tl y.tc, .slice y.na y.nl y.nc, .slice y.ka y.kl y.kc] 38)
     rw [Q3, Ye] at this;exact this
    exact (Jn (hLv.nd (x1, D1) (by simp)) (hLv.nd (y, D2) (by simp)) hk (by have := xB HX.o.2.1.b0; have := Fd.o; have := Sh.o; omega) (Uz t s (some ⟨w3.heap.size + 1, 0, none⟩) 1 1 (some ⟨w9.heap.size, 0, none⟩) 2 2) [DT] [] ⟨rfl, rfl⟩ ⟨rfl, by simp, hLv.kd⟩ ⟨rfl, xZ _, .inl rfl⟩).lower (by omega)
end Go.Proofs.YtfoejkhfdiodhaaGreatDoor
