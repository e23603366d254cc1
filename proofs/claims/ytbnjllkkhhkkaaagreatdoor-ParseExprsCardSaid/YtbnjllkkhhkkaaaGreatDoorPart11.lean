/- Part. -/
import Derived.Deep.Cut
import Derived.Deep.CutRange
import Derived.Test.YtbnjllkkhhkkaaaGreatDoorPart10
set_option maxRecDepth 100000
set_option maxHeartbeats 4000000
namespace Go.Proofs.YtbnjllkkhhkkaaaGreatDoor
open Tryz
open Go.RowKit
attribute [local go_sem ↓] Go.wp_at_zero Go.wp_at_succ
section
variable {w : World} {lo nb kb : Nat} {x y : NV} {D1 D2 : Ty}
theorem Ir (h1 : Yi lo nb w x D1) (h2 : Yi lo nb w y D2) (hk : w.heap[kb]? = some (.cells #[.int .i64 x.k, .string x.tx, .int .i64 x.N, .int .i64 x.li, .int .i64 x.co, .slice x.ta x.tl x.tc, .slice x.na x.nl x.nc, .slice x.ka x.kl x.kc, .int .i64 y.k, .string y.tx, .int .i64 y.N, .int .i64 y.li, .int .i64 y.co, .slice y.ta y.tl y.tc, .slice y.na y.nl y.nc, .slice y.ka y.kl y.kc] 27)) (hlo : lo ≤ kb) (hnk : kb ≠ nb) (z : NV) (hz : z.ka = some ⟨kb, 0, none⟩ ∧ z.kl = 2) (ht : z.tl = 0) (hn : z.nl = 0) : Yi lo nb w z (Zi z.k z.tx.data.toList z.N z.li z.co [] [] [D1, D2]) := fun o =>
 To (h1 o) (h2 o) ((Qd o hnk).trans hk) hlo z [] [] hz ⟨ht, xZ _, 0, .inl rfl⟩ ⟨hn, xZ _, .inl rfl⟩
theorem Az (h1 : Yi lo nb w x D1) (hk : w.heap[kb]? = some x.obj) (hlo : lo ≤ kb) (hnk : kb ≠ nb) (z : NV) (hz : z.ka = some ⟨kb, 0, none⟩ ∧ z.kl = 1) (ht : z.tl = 0) (hn : z.nl = 0) : Yi lo nb w z (Zi z.k z.tx.data.toList z.N z.li z.co [] [] [D1]) := fun o =>
 V2 (h1 o) ((Qd o hnk).trans hk) hlo z [] [] hz ⟨ht, xZ _, 0, .inl rfl⟩ ⟨hn, xZ _, .inl rfl⟩
theorem Yi.drew (h : Yi lo nb w x D1) : Yi lo nb w.drew x D1 := fun o => (h o).keep (xR) fun _ _ _ => rfl
end
theorem Z5.reput {pb tb cap d b nb : Nat} {ts : List Tok} {w0 w : World} {bx bx' : List (Nat × Obj)} {ns : List (NV × Ty)} {tys : List (Value × Ty)} (h : Z5 pb tb cap d ts w0 w b bx ns tys) (hnb : w0.heap.size < nb) (z : NV) (hn : ∃ y : NV, (nb, y.obj) ∈ bx) (hb : ∀ p ∈ bx', (p = (nb, z.obj) ∨ (p ∈ bx ∧ p.1 ≠ nb))) : Z5 pb tb cap d ts w0 (put8 w nb z) b bx' [] [] where
 st := Yr h.st h.hp (by omega) z
 ps := Yv h.ps (by have := h.hp; omega) z
 hp := h.hp
 sz := by rw [Wr]; exact h.sz
 has := fun p hp => by
  rcases hb p hp with rfl | ⟨h1, h2⟩
  ·obtain ⟨y, hy⟩ := hn
   exact ⟨Yj (h.has _ hy).1, (h.has _ hy).2⟩
  ·exact ⟨(Xq h2).trans (h.has p h1).1, (h.has p h1).2⟩
 nds := (fun _ h => nomatch h)
 tys := (fun _ h => nomatch h)
theorem zex {ts : List Tok} {E : Nat → Pr Ty} {a c : Nat} {x : Ty} (hE : ∀ a x b, E a = .inl (x, b) → a ≤ b) (h : ((Zb ts a [40]).go fun _ b => (E b).go fun x b => (Zb ts b [41]).go fun _ b => .inl (x, b)) = .inl (x, c)) : a + 1 ≤ c := by
 cases h1 : Zb ts a [40] with
 | inr e => rw [h1] at h; cases h
 | inl p =>
  obtain ⟨u, b⟩ := p
  have := Bm h1
  rw [h1, Tb] at h
  have hu : Xv b ((E b).go fun x b => (Zb ts b [41]).go fun _ b => .inl (x, b)) := Z4 (Xz hE (xR)) fun _ _ h1 => Z4 (Xt h1 _) fun _ _ h2 => Yh h2 _
  have := hu _ _ h
  omega
theorem zft {ts : List Tok} {E : Nat → Pr Ty} {f a : Nat} {x : Ty} (h : Zc ts a [40] = true) : Xe ts E (f + 1) x a = ((Zb ts a [40]).go fun _ b => (E b).go fun y b => (Zb ts b [41]).go fun _ b => .inl (y, b)).go fun y b => Xe ts E f (Zi 7 [] 0 (Zg ts a).line (Zg ts a).col [] [] [x, y]) b := by
 rw [Xe, if_pos h]
 rw [show Zb ts a [40] = .inl ((), a + 1) by unfold Zb; rw [if_pos h], Tb]
 cases E (a + 1) with
 | inr e => rfl
 | inl p =>
  obtain ⟨y, b⟩ := p
  rw [Tb, Tb]
  cases Zb ts b [41] with
  | inr e => rfl
  | inl q => rfl
theorem Eu {ts : List Tok} {E : Nat → Pr Ty} {f a : Nat} {x : Ty} (h0 : Zc ts a [40] = false) (h : Zc ts a [46] = true) : Xe ts E (f + 1) x a = (Zm ts (a + 1)).go fun s b => Xe ts E f (Zi 9 s 0 (Zg ts a).line (Zg ts a).col [] [] [x]) b := by
 rw [Xe, if_neg (by simp [h0]), if_pos h]
 rfl
theorem zcm {ts : List Tok} {E : Nat → Pr Ty} {f a : Nat} {x : Ty} (h0 : Zc ts a [40] = false) (h : Zc ts a [46] = false) : Xe ts E (f + 1) x a = .inl (x, a) := by
 rw [Xe, if_neg (by simp [h0]), if_neg (by simp [h])]
theorem post_c (pb tb cap d : Nat) (ts : List Tok) (P : Nat → Pr Ty) (hA : Yg pb tb cap d ts Zo 227 P) (E : Nat → Pr Ty) (hE : Yg pb tb cap d ts Zo 23 E) (ok : Z0 ts) (a : Nat) (w : World) (h : Ps w pb tb cap ts a d) :
  Calls prog 226 #[.pointer (some ⟨pb, 0, none⟩)] w (Zs pb tb cap ts d w Zo ((P a).go fun x b => Xe ts E ts.length x b)) := by
 have H := Za h
 have OK := Za ok
 have hp := h.ltp
 have HA1 := Za hA
 have HE1 := Za hE
 have C0 := Za (Xa h Ze.obj)
 obtain ⟨R, hR⟩ : ∃ R : Pr Ty, R = ((P a).go fun x b => Xe ts E ts.length x b) := ⟨_, rfl⟩
 rw [← hR]
 have HR0 := Za hR
 clear h ok hR hA hE
 go_enter func226, ntmps226
 go_wp2_with fail
 refine (HA1.o.calls a _ C0.o.ps).mono ?_
 intro e w1 zhm
 rcases Zy zhm with ⟨er, li, co, hr, rfl, hst⟩ | ⟨D, b, v, hr, rfl, hst, hps, hv⟩
 ·have HE : xQ (R = .inr (er, li, co)) := by rw [HR0.o, hr]; exact rfl
  have HF := Za (C0.o.st.trans hst)
  clear hr hst zhm
  go_wp2_with fail
  exact ⟨rfl, HF.o, by rw [HE.o]⟩
 have HR1 : xQ (R = Xe ts E ts.length D b) := by rw [HR0.o, hr]; exact rfl
 obtain ⟨x, rfl, hv⟩ := hv
 have HX0 := Za (L6 (lo := w.heap.size + 1) (hv.lower C0.o.sz) x.obj)
 have C1 := Za ((C0.o.step hst hps))
 have C2 := Za (C1.o.alloc (x.obj))
 clear hr hst hps zhm hv
 obtain ⟨nb, hnb⟩ := xE w1.heap.size
 have hb0 : w.heap.size < nb := by rw [hnb]; exact C1.o.sz
 rw [← hnb] at C2 HX0
 go_wp2_with fail
 rw [← hnb]
 clear hnb
 go_loopg [4] (ts.length - b) (fun gk _ wr => ∃ (b m : Nat) (x : NV) (D : Ty), xQ (Z5 pb tb cap d ts w wr b [(nb, x.obj), (w.heap.size, Ze.obj)] [] []) ∧ xQ (Yi (w.heap.size + 1) nb wr x D) ∧ xQ (R = Xe ts E m D b) ∧ xQ (ts.length ≤ b + m) ∧ ts.length - b ≤ gk)
 case atStart => exact ⟨b, ts.length, x, D, C2, HX0, HR1, Nat.le_add_left _ _, xR⟩
 case round =>
  clear C2 HX0 HR1 C1
  obtain ⟨b, m, x, D, C2, HX, HRp, HLe, hgk⟩ := hrel
  obtain ⟨m, rfl⟩ : ∃ q, m = q + 1 := ⟨m - 1, by have := HLe.o; have := C2.o.ps.lt; omega⟩
  have HPk := Za (Ul pb tb cap b d ts _ C2.o.ps)
  obtain ⟨t, ht⟩ := xE (Zg ts b)
  rw [← ht] at HPk
  have HTk := Za ht
  clear ht
  have HnL : xQ (∀ wa, Z5 pb tb cap d ts w wa b [(nb, x.obj), (w.heap.size, Ze.obj)] [] [] → nb < wa.heap.size) := fun wa ca => xB ca.b0
  go_wp2_with fail
  refine HPk.o.mono ?_
  rintro e w2 ⟨rfl, hb⟩
  have C3 := Za (C2.o.below hb)
  have HX3 := Za (((HX.o.below (xB C2.o.b0) hb)).alloc (xB C3.o.b0) (Zk t))
  have C4 := Za (C3.o.alloc (Zk t))
  clear hb
  go_wp2_with fail
  have hnt : w2.heap.size ≠ nb := by have := xB C3.o.b0; omega
  cases h1 : Zc ts b [40] with
  | true =>
   refine (Y3 pb tb cap b _ 1 ts [[40]] _ _ C4.o.ps.rd (by simp) (by simp)).mono ?_
   rw [Xi, h1]
   rintro e w3 ⟨rfl, hb⟩
   have C5 := Za (C4.o.below hb)
   have HX4 := Za (HX3.o.below (xB C4.o.b1) hb)
   clear hb
   have HR2 := Za (HRp.o.trans (zft h1))
   rw [← HTk.o] at HR2
   clear h1
   have HC : xQ (∀ wa bx, Z5 pb tb cap d ts w wa b bx [] [] → Yi (w.heap.size + 1) nb wa x D → (w2.heap.size, Zk t) ∈ bx → (nb, x.obj) ∈ bx → Calls prog 228 #[.pointer (some ⟨pb, 0, none⟩)] wa fun e w9 => (∃ chain, e = .panicked chain ∧ Zs pb tb cap ts d w Zo R e w9) ∨ ∃ (y : NV) (D2 : Ty) (b2 : Nat), e = .returned (y.val) ∧ ((w9.cell? ⟨w2.heap.size, 0, none⟩ = some (.int .i64 t.kind) ∧ w9.cell? ⟨w2.heap.size, 1, none⟩ = some (.string ⟨t.text.toArray⟩) ∧ w9.cell? ⟨w2.heap.size, 2, none⟩ = some (.int .i64 t.line) ∧ w9.cell? ⟨w2.heap.size, 3, none⟩ = some (.int .i64 t.col)) ∧ (w9.cell? ⟨nb, 0, none⟩ = some (.int .i64 x.k) ∧ w9.cell? ⟨nb, 1, none⟩ = some (.string x.tx) ∧ w9.cell? ⟨nb, 2, none⟩ = some (.int .i64 x.N) ∧ w9.cell? ⟨nb, 3, none⟩ = some (.int .i64 x.li) ∧ w9.cell? ⟨nb, 4, none⟩ = some (.int .i64 x.co) ∧ w9.cell? ⟨nb, 5, none⟩ = some (.slice x.ta x.tl x.tc) ∧ w9.cell? ⟨nb, 6, none⟩ = some (.slice x.na x.nl x.nc) ∧ w9.cell? ⟨nb, 7, none⟩ = some (.slice x.ka x.kl x.kc))) ∧ (w2.heap.size < w9.heap.size ∧ nb < w9.heap.size) ∧ xQ (R = Xe ts E m (Zi 7 [] 0 t.line t.col [] [] [D, D2]) b2 ∧ Z5 pb tb cap d ts w w9 b2 bx [] [] ∧ Yi (w.heap.size + 1) nb w9 x D ∧ Yi (w.heap.size + 1) nb w9 y D2 ∧ b + 1 ≤ b2)) := by
    intro wa bx CA NA m0 m1
    refine (Hy pb tb cap d ts E HE1.o OK.o b _ CA.ps).mono ?_
    intro e w9 zhm
    rcases Zy zhm with ⟨er, li, co, hr, rfl, hst⟩ | ⟨D2, b2, v, hr, rfl, hst, hps, hv⟩
    ·exact .inl ⟨_, rfl, CA.st.trans hst, by rw [HR2.o, hr]; rfl⟩
    obtain ⟨y, rfl, hv⟩ := hv
    have CN := CA.step hst hps
    exact .inr ⟨y, D2, b2, rfl, ⟨(Z7 (CN.has _ m0).1), (Zh (x := x) (CN.has _ m1).1).1⟩, ⟨xB (CN.has _ m0).1, xB (CN.has _ m1).1⟩, by rw [HR2.o, hr]; rfl, CN, NA.stay (xB (CA.has _ m1).1) hst (by omega), Lu hv (xB (CA.has _ m1).1) CA.sz, zex HE1.o.up hr⟩
   have HS0 : (w3.cell? ⟨w2.heap.size, 0, none⟩ = some (.int .i64 t.kind) ∧ w3.cell? ⟨w2.heap.size, 1, none⟩ = some (.string ⟨t.text.toArray⟩) ∧ w3.cell? ⟨w2.heap.size, 2, none⟩ = some (.int .i64 t.line) ∧ w3.cell? ⟨w2.heap.size, 3, none⟩ = some (.int .i64 t.col)) ∧ (w3.cell? ⟨nb, 0, none⟩ = some (.int .i64 x.k) ∧ w3.cell? ⟨nb, 1, none⟩ = some (.string x.tx) ∧ w3.cell? ⟨nb, 2, none⟩ = some (.int .i64 x.N) ∧ w3.cell? ⟨nb, 3, none⟩ = some (.int .i64 x.li) ∧ w3.cell? ⟨nb, 4, none⟩ = some (.int .i64 x.co) ∧ w3.cell? ⟨nb, 5, none⟩ = some (.slice x.ta x.tl x.tc) ∧ w3.cell? ⟨nb, 6, none⟩ = some (.slice x.na x.nl x.nc) ∧ w3.cell? ⟨nb, 7, none⟩ = some (.slice x.ka x.kl x.kc)) := ⟨(Z7 (C5.o.has (w2.heap.size, Zk t) (by simp)).1), (Zh (x := x) (C5.o.has (nb, x.obj) (by simp)).1).1⟩
   have hl2 : w2.heap.size < w3.heap.size := xB (C5.o.has (w2.heap.size, Zk t) (by simp)).1
   have hl3 : nb < w3.heap.size := xB (C5.o.has (nb, x.obj) (by simp)).1
   obtain ⟨⟨k0, k1, k2, k3⟩, n0, n1, n2, n3, n4, n5, n6, n7⟩ := HS0
   go_wp2_with fail
   go_region_with (first
    | (go_at_call 171; refine (L9 t _ _ _ _ _ _ _ _ _ _ _ _ _).mono ?_; rintro e w10 ⟨z, rfl, HZ, hb⟩; (first | have HX2 := Za (HY.o.2.1.below hb) | have HX2 := Za ((HY.o.2.1.alloc _).below hb)); have HB8 := Za (Zh (x := x) (HX2.o.has (nb, x.obj) (by simp)).1); obtain ⟨⟨p0, p1, p2, p3, p4, p5, p6, p7⟩, ⟨f0, f1, f2, f3, f4, f5, f6, f7⟩, hr1⟩ := HB8.o; have HBL : xQ (Below w9.heap.size w9 w10) := (by first | exact hb | exact Zn (Zl _ _) hb); clear hb)
    | (go_at_call 228; refine (HC.o _ _ (by first | exact C5.o.drew | exact (C5.o.alloc _).drew) (by first | exact HX4.o.drew | exact (HX4.o.alloc (xB (C5.o.has (nb, x.obj) (by simp)).1) _).drew) (by simp) (by simp)).mono ?_; rintro e w9 (⟨ch, rfl, hf⟩ | ⟨y, D2, b2, rfl, t5, t7, HY⟩); exact ⟨rfl, hf⟩; obtain ⟨⟨q0, q1, q2, q3⟩, m0, m1, m2, m3, m4, m5, m6, m7⟩ := t5; obtain ⟨hl4, hl5⟩ := t7))
   all_goals
    go_wp2_with fail
    have hnd : Yi (w.heap.size + 1) nb w10 z (Zi 7 [] 0 t.line t.col [] [] [D, D2]) := by
     rw [HZ.o]
     first
      | exact Ir (HY.o.2.2.1.below hl5 HBL.o) (HY.o.2.2.2.1.below hl5 HBL.o) (HX2.o.has (w9.heap.size, .cells #[.int .i64 x.k, .string x.tx, .int .i64 x.N, .int .i64 x.li, .int .i64 x.co, .slice x.ta x.tl x.tc, .slice x.na x.nl x.nc, .slice x.ka x.kl x.kc, .int .i64 y.k, .string y.tx, .int .i64 y.N, .int .i64 y.li, .int .i64 y.co, .slice y.ta y.tl y.tc, .slice y.na y.nl y.nc, .slice y.ka y.kl y.kc] 27) (by simp)).1 (by have := HY.o.2.1.sz; omega) (by omega) _ ⟨rfl, rfl⟩ rfl rfl
    have hC := HX2.o.reput (bx' := [(nb, z.obj), (w.heap.size, Ze.obj)]) hb0 z ⟨x, by simp⟩ (by
     intro p hp
     rcases List.mem_cons.1 hp with rfl | hp
     ·exact .inl rfl
     ·rw [List.mem_singleton.1 hp]; exact .inr ⟨by simp, by show w.heap.size ≠ nb; omega⟩)
    go_roundg (ts.length - b2)
    case measure => have := HX2.o.ps.lt; have := HY.o.2.2.2.2; omega
    case rel => exact ⟨b2, m, z, _, hC, hnd.put8 (xB (HX2.o.has (nb, x.obj) (by simp)).1) z, HY.o.1, (by have := HLe.o; have := HY.o.2.2.2.2; show _ ≤ _; omega), xR⟩
  | false =>
   refine (Y3 pb tb cap b _ 1 ts [[40]] _ _ C4.o.ps.rd (by simp) (by simp)).mono ?_
   rw [Xi, h1]
   rintro e w3 ⟨rfl, hb⟩
   have C5 := Za (C4.o.below hb)
   have HX4 := Za (HX3.o.below (xB C4.o.b1) hb)
   clear hb
   have HT := Za (Xb pb tb cap b d ts [46] _ C5.o.ps OK.o)
   go_wp2_with fail
   cases h2 : Zc ts b [46] with
   | true =>
    rw [h2, if_pos rfl] at HT
    have HR2 := Za (HRp.o.trans (Eu h1 h2))
    rw [← HTk.o] at HR2
    clear h1 h2
    refine HT.o.mono ?_
    rintro e w4 ⟨rfl, hst, hps⟩
    have C6 := Za (C5.o.step hst hps)
    have HX5 := Za (HX4.o.stay (xB C5.o.b1) hst (by omega))
    clear hst hps
    have HC : xQ (∀ wa bx, Z5 pb tb cap d ts w wa (b + 1) bx [] [] → Yi (w.heap.size + 1) nb wa x D → (w2.heap.size, Zk t) ∈ bx → (nb, x.obj) ∈ bx → Calls prog 142 #[.pointer (some ⟨pb, 0, none⟩)] wa fun e w9 => (∃ chain, e = .panicked chain ∧ Zs pb tb cap ts d w Zo R e w9) ∨ ∃ (s : List UInt8) (b2 : Nat), e = .returned (.string ⟨s.toArray⟩) ∧ ((w9.cell? ⟨w2.heap.size, 0, none⟩ = some (.int .i64 t.kind) ∧ w9.cell? ⟨w2.heap.size, 1, none⟩ = some (.string ⟨t.text.toArray⟩) ∧ w9.cell? ⟨w2.heap.size, 2, none⟩ = some (.int .i64 t.line) ∧ w9.cell? ⟨w2.heap.size, 3, none⟩ = some (.int .i64 t.col)) ∧ (w9.cell? ⟨nb, 0, none⟩ = some (.int .i64 x.k) ∧ w9.cell? ⟨nb, 1, none⟩ = some (.string x.tx) ∧ w9.cell? ⟨nb, 2, none⟩ = some (.int .i64 x.N) ∧ w9.cell? ⟨nb, 3, none⟩ = some (.int .i64 x.li) ∧ w9.cell? ⟨nb, 4, none⟩ = some (.int .i64 x.co) ∧ w9.cell? ⟨nb, 5, none⟩ = some (.slice x.ta x.tl x.tc) ∧ w9.cell? ⟨nb, 6, none⟩ = some (.slice x.na x.nl x.nc) ∧ w9.cell? ⟨nb, 7, none⟩ = some (.slice x.ka x.kl x.kc))) ∧ (w2.heap.size < w9.heap.size ∧ nb < w9.heap.size) ∧ xQ (R = Xe ts E m (Zi 9 s 0 t.line t.col [] [] [D]) b2 ∧ Z5 pb tb cap d ts w w9 b2 bx [] [] ∧ Yi (w.heap.size + 1) nb w9 x D ∧ True ∧ b + 1 ≤ b2)) := by
     intro wa bx CA NA m0 m1
     refine (Ts pb tb cap (b + 1) d ts _ CA.ps OK.o).mono ?_
     intro e w9 zhm
     rcases Zy zhm with ⟨er, li, co, hr, rfl, hst⟩ | ⟨s, b2, v, hr, rfl, hst, hps, hv⟩
     ·exact .inl ⟨_, rfl, CA.st.trans hst, by rw [HR2.o, hr]; rfl⟩
     subst hv
     have CN := CA.step hst hps
     exact .inr ⟨s, b2, rfl, ⟨(Z7 (CN.has _ m0).1), (Zh (x := x) (CN.has _ m1).1).1⟩, ⟨xB (CN.has _ m0).1, xB (CN.has _ m1).1⟩, by rw [HR2.o, hr]; rfl, CN, NA.stay (xB (CA.has _ m1).1) hst (by omega), trivial, by have := Pb hr; omega⟩
    have HS0 : (w4.cell? ⟨w2.heap.size, 0, none⟩ = some (.int .i64 t.kind) ∧ w4.cell? ⟨w2.heap.size, 1, none⟩ = some (.string ⟨t.text.toArray⟩) ∧ w4.cell? ⟨w2.heap.size, 2, none⟩ = some (.int .i64 t.line) ∧ w4.cell? ⟨w2.heap.size, 3, none⟩ = some (.int .i64 t.col)) ∧ (w4.cell? ⟨nb, 0, none⟩ = some (.int .i64 x.k) ∧ w4.cell? ⟨nb, 1, none⟩ = some (.string x.tx) ∧ w4.cell? ⟨nb, 2, none⟩ = some (.int .i64 x.N) ∧ w4.cell? ⟨nb, 3, none⟩ = some (.int .i64 x.li) ∧ w4.cell? ⟨nb, 4, none⟩ = some (.int .i64 x.co) ∧ w4.cell? ⟨nb, 5, none⟩ = some (.slice x.ta x.tl x.tc) ∧ w4.cell? ⟨nb, 6, none⟩ = some (.slice x.na x.nl x.nc) ∧ w4.cell? ⟨nb, 7, none⟩ = some (.slice x.ka x.kl x.kc)) := ⟨(Z7 (C6.o.has (w2.heap.size, Zk t) (by simp)).1), (Zh (x := x) (C6.o.has (nb, x.obj) (by simp)).1).1⟩
    have hl2 : w2.heap.size < w4.heap.size := xB (C6.o.has (w2.heap.size, Zk t) (by simp)).1
    have hl3 : nb < w4.heap.size := xB (C6.o.has (nb, x.obj) (by simp)).1
    obtain ⟨⟨k0, k1, k2, k3⟩, n0, n1, n2, n3, n4, n5, n6, n7⟩ := HS0
    go_wp2_with fail
    go_region_with (first
     | (go_at_call 171; refine (L9 t _ _ _ _ _ _ _ _ _ _ _ _ _).mono ?_; rintro e w10 ⟨z, rfl, HZ, hb⟩; (first | have HX2 := Za (HY.o.2.1.below hb) | have HX2 := Za ((HY.o.2.1.alloc _).below hb)); have HB8 := Za (Zh (x := x) (HX2.o.has (nb, x.obj) (by simp)).1); obtain ⟨⟨p0, p1, p2, p3, p4, p5, p6, p7⟩, ⟨f0, f1, f2, f3, f4, f5, f6, f7⟩, hr1⟩ := HB8.o; have HBL : xQ (Below w9.heap.size w9 w10) := (by first | exact hb | exact Zn (Zl _ _) hb); clear hb)
     | (go_at_call 142; refine (HC.o _ _ (by first | exact C6.o.drew | exact (C6.o.alloc _).drew) (by first | exact HX5.o.drew | exact (HX5.o.alloc (xB (C6.o.has (nb, x.obj) (by simp)).1) _).drew) (by simp) (by simp)).mono ?_; rintro e w9 (⟨ch, rfl, hf⟩ | ⟨s, b2, rfl, t5, t7, HY⟩); exact ⟨rfl, hf⟩; obtain ⟨⟨q0, q1, q2, q3⟩, m0, m1, m2, m3, m4, m5, m6, m7⟩ := t5; obtain ⟨hl4, hl5⟩ := t7))
    all_goals
     go_wp2_with fail
     have hnd : Yi (w.heap.size + 1) nb w10 z (Zi 9 s 0 t.line t.col [] [] [D]) := by
      rw [HZ.o]
      first
       | exact Az (HY.o.2.2.1.below hl5 HBL.o) (HX2.o.has (w9.heap.size, x.obj) (by simp)).1 (by have := HY.o.2.1.sz; have := C6.o.sz; omega) (by omega) _ ⟨rfl, rfl⟩ rfl rfl
       | exact Az (HY.o.2.2.1.below hl5 HBL.o) (HX2.o.has (w4.heap.size, x.obj) (by simp)).1 (by have := HY.o.2.1.sz; have := C6.o.sz; omega) (by omega) _ ⟨rfl, rfl⟩ rfl rfl
     have hC := HX2.o.reput (bx' := [(nb, z.obj), (w.heap.size, Ze.obj)]) hb0 z ⟨x, by simp⟩ (by
      intro p hp
      rcases List.mem_cons.1 hp with rfl | hp
      ·exact .inl rfl
      ·rw [List.mem_singleton.1 hp]; exact .inr ⟨by simp, by show w.heap.size ≠ nb; omega⟩)
     go_roundg (ts.length - b2)
     case measure => have := HX2.o.ps.lt; have := HY.o.2.2.2.2; omega
     case rel => exact ⟨b2, m, z, _, hC, hnd.put8 (xB (HX2.o.has (nb, x.obj) (by simp)).1) z, HY.o.1, (by have := HLe.o; have := HY.o.2.2.2.2; show _ ≤ _; omega), xR⟩
   | false =>
    rw [h2, if_neg (by simp)] at HT
    have HR2 := Za (HRp.o.trans (zcm h1 h2))
    clear h1 h2
    refine HT.o.mono ?_
    rintro e w4 ⟨rfl, hst, hps⟩
    have C6 := Za (C5.o.step hst hps)
    have HX5 := Za (HX4.o.stay (xB C5.o.b1) hst (by omega))
    clear hst hps
    obtain ⟨⟨r0, r1, r2, r3, r4, r5, r6, r7⟩, ⟨f0, f1, f2, f3, f4, f5, f6, f7⟩, hr1⟩ := Zh (x := Ze) C6.o.b2
    obtain ⟨⟨n0, n1, n2, n3, n4, n5, n6, n7⟩, _, hn1⟩ := Zh (x := x) C6.o.b1
    have hne : ¬ nb = w.heap.size := by omega
    go_wp2_with fail
    rw [HR2.o]
    refine bodyPost_ret (results_cell_row rfl _ _ w.heap.size 27 _ (0, 0) _ rfl (Yj (x := x) C6.o.b2) underlying27 rfl (by kernel_rfl)) rfl ⟨Yr C6.o.st hp (xR) x, Yv C6.o.ps hp x, _, rfl, x, rfl, ?_⟩
    exact ((HX5.o.now hn1).put8 (xU _) x).lower (Nat.le_succ _)
theorem Z5.reset {pb tb cap d b nb o : Nat} {u : Value} {ob : Obj} {ts : List Tok} {w0 w : World} {bx bx' : List (Nat × Obj)} {ns : List (NV × Ty)} {tys : List (Value × Ty)} (h : Z5 pb tb cap d ts w0 w b bx ns tys) (hnb : w0.heap.size < nb) (hn : (w.setCell ⟨nb, o, none⟩ u).heap[nb]? = some ob) (hb : ∀ p ∈ bx', (p = (nb, ob) ∨ (p ∈ bx ∧ p.1 ≠ nb))) : Z5 pb tb cap d ts w0 (w.setCell ⟨nb, o, none⟩ u) b bx' [] [] where
 st := h.st.own h.hp (by omega) o u
 ps := h.ps.other (by have := h.hp; omega) o u
 hp := h.hp
 sz := by rw [Zw]; exact h.sz
 has := fun p hp => by
  rcases hb p hp with rfl | ⟨h1, h2⟩
  ·exact ⟨hn, by have := h.hp; show pb < nb; omega⟩
  ·exact ⟨(xH h2).trans (h.has p h1).1, (h.has p h1).2⟩
 nds := (fun _ h => nomatch h)
 tys := (fun _ h => nomatch h)
theorem Z5.less {pb tb cap d b : Nat} {ts : List Tok} {w0 w : World} {bx bx' : List (Nat × Obj)} {ns : List (NV × Ty)} {tys : List (Value × Ty)} (h : Z5 pb tb cap d ts w0 w b bx ns tys) (hb : ∀ p ∈ bx', p ∈ bx) : Z5 pb tb cap d ts w0 w b bx' ns tys := ⟨h.st, h.ps, h.hp, h.sz, fun p hp => h.has p (hb p hp), h.nds, h.tys⟩
abbrev Xr (t : Tok) (s : List UInt8) (ta : Option Addr) (tl tc : Nat) (ka : Option Addr) (kl kc : Nat) : NV := ⟨5, ⟨s.toArray⟩, 0, t.line, t.col, ta, tl, tc, none, 0, 0, ka, kl, kc⟩
structure Wk (lo : Nat) (w : World) (ta : Option Addr) (tys : List Ty) (ns : List (NV × Ty)) : Prop where
 kd : ∃ m, Xw w lo m ta tys
 nd : ∀ p ∈ ns, Zv lo w p.1 p.2
section
variable {lo pb b : Nat} {w w' : World} {ta : Option Addr} {tys : List Ty} {ns : List (NV × Ty)} {x : NV} {D : Ty}
theorem Wk.keep (h : Wk lo w ta tys ns) (hs : w.heap.size ≤ w'.heap.size) (hk : ∀ b, lo ≤ b → b < w.heap.size → w'.heap[b]? = w.heap[b]?) : Wk lo w' ta tys ns := by
 obtain ⟨m, h1⟩ := h.kd
 exact ⟨⟨m, Vv h1 hs hk⟩, fun p hp => (h.nd p hp).keep hs hk⟩
theorem Wk.stay (h : Wk lo w ta tys ns) (hs : Zj pb w w') (hp : pb < lo) : Wk lo w' ta tys ns := h.keep hs.size fun b hb hl => hs.keep b (by omega) hl
theorem Wk.below (h : Wk lo w ta tys ns) (hb : Below w.heap.size w w') : Wk lo w' ta tys ns := h.keep hb.size fun b _ hl => hb.block b hl
theorem Wk.alloc (h : Wk lo w ta tys ns) (o : Obj) : Wk lo (w.alloc o) ta tys ns := h.below (Zl _ _)
theorem Wk.set1 (h : Wk lo w ta tys ns) (hb : b < lo) (o : Nat) (u : Value) : Wk lo (w.setCell ⟨b, o, none⟩ u) ta tys ns := h.keep (by rw [Zw]; exact xR) fun i hi _ => xH (by show i ≠ b; omega)
theorem Wk.put8 (h : Wk lo w ta tys ns) (hb : b < lo) (y : NV) : Wk lo (put8 w b y) ta tys ns := h.keep (by rw [Wr]; exact xR) fun i hi _ => Xq (by omega)
theorem Wk.add (h : Wk lo w ta tys ns) (hx : Zv lo w x D) : Wk lo w ta tys ((x, D) :: ns) := ⟨h.kd, fun p hp => by
 rcases List.mem_cons.1 hp with rfl | hp
 ·exact hx
 ·exact h.nd p hp⟩
end
theorem De {W : World} {m n : Nat} {x : NV} (h : W.heap[m]? = some x.obj) (e : m = n) : B4 W n x := by
 subst e
 exact Zh h
theorem let_c (pb tb cap d : Nat) (ts : List Tok) (K E : Nat → Pr Ty) (hK : Yg pb tb cap d ts Zt 30 K) (hE : Yg pb tb cap d ts Zo 23 E) (ok : Z0 ts) (a : Nat) (w : World) (h : Ps w pb tb cap ts a d) :
  Calls prog 109 #[.pointer (some ⟨pb, 0, none⟩)] w (Zs pb tb cap ts d w Zo ((Zb ts a [108, 101, 116]).go fun _ b => (Zm ts b).go fun s b => (Y2 ts K [58] b).go fun y b => (Zb ts b [61]).go fun _ b => (E b).go fun v b => (Zb ts b [59]).go fun _ b => (E b).go fun r b => .inl (Zi 5 s 0 (Zg ts a).line (Zg ts a).col (if y.2 then [y.1] else []) [] [v, r], b))) := by
 have H := Za h
 have OK := Za ok
 have hp := h.ltp
 have HE1 := Za hE
 have HK1 := Za hK
 have HM0 := Za (fun w h => Y6 pb tb cap a d ts [108, 101, 116] w h ok)
 obtain ⟨t, ht⟩ := xE (Zg ts a)
 rw [← ht] at HM0 ⊢
 clear ht
 have C0 := Za (Xa h Ze.obj)
 obtain ⟨R, hR⟩ : ∃ R : Pr Ty, R = ((Zb ts a [108, 101, 116]).go fun _ b => (Zm ts b).go fun s b => (Y2 ts K [58] b).go fun y b => (Zb ts b [61]).go fun _ b => (E b).go fun v b => (Zb ts b [59]).go fun _ b => (E b).go fun r b => .inl (Zi 5 s 0 t.line t.col (if y.2 then [y.1] else []) [] [v, r], b)) := ⟨_, rfl⟩
 rw [← hR]
 have HR0 := Za hR
 clear h ok hR hE hK
 go_enter func109, ntmps109
 go_wp2_with fail
 refine (HM0.o _ C0.o.ps).mono ?_
 intro e w1 zhm
 rcases Zy zhm with ⟨er, li, co, hr, rfl, hst⟩ | ⟨u, b1, v, hr, rfl, hst, hps, hv⟩
 ·have HE : xQ (R = .inr (er, li, co)) := by rw [HR0.o, hr]; exact rfl
  have HF := Za (C0.o.st.trans hst)
  clear hr hst zhm
  go_wp2_with fail
  exact ⟨rfl, HF.o, by rw [HE.o]⟩
 have HR1 : xQ (R = (Zm ts b1).go fun s b => (Y2 ts K [58] b).go fun y b => (Zb ts b [61]).go fun _ b => (E b).go fun v b => (Zb ts b [59]).go fun _ b => (E b).go fun r b => .inl (Zi 5 s 0 t.line t.col (if y.2 then [y.1] else []) [] [v, r], b)) := by rw [HR0.o, hr]; exact rfl
 subst hv
 have C1 := Za ((C0.o.step hst hps))
 have C2 := Za (C1.o.alloc (Zk t))
 clear hr hst hps zhm  
 obtain ⟨⟨k0, k1, k2, k3⟩, _, hk1⟩ := Zr C2.o.b0
 go_wp2_with fail
 have hS0 : (((w1.alloc (Zk t)).drew).cell? ⟨w1.heap.size, 0, none⟩ = some (.int .i64 t.kind) ∧ ((w1.alloc (Zk t)).drew).cell? ⟨w1.heap.size, 1, none⟩ = some (.string ⟨t.text.toArray⟩) ∧ ((w1.alloc (Zk t)).drew).cell? ⟨w1.heap.size, 2, none⟩ = some (.int .i64 t.line) ∧ ((w1.alloc (Zk t)).drew).cell? ⟨w1.heap.size, 3, none⟩ = some (.int .i64 t.col)) := Z7 C2.o.b0
 have HS00 : xQ (∀ o, ((((w1.alloc (Zk t)).alloc o).drew).cell? ⟨w1.heap.size, 0, none⟩ = some (.int .i64 t.kind) ∧ (((w1.alloc (Zk t)).alloc o).drew).cell? ⟨w1.heap.size, 1, none⟩ = some (.string ⟨t.text.toArray⟩) ∧ (((w1.alloc (Zk t)).alloc o).drew).cell? ⟨w1.heap.size, 2, none⟩ = some (.int .i64 t.line) ∧ (((w1.alloc (Zk t)).alloc o).drew).cell? ⟨w1.heap.size, 3, none⟩ = some (.int .i64 t.col))) := (fun o => Z7 (C2.o.alloc o).drew.b1)
 have HC : xQ (∀ wa bx, Z5 pb tb cap d ts w wa b1 bx [] [] → (w1.heap.size, Zk t) ∈ bx → Calls prog 142 #[.pointer (some ⟨pb, 0, none⟩)] wa fun e w9 => (∃ chain, e = .panicked chain ∧ Zs pb tb cap ts d w Zo R e w9) ∨ ∃ (s : List UInt8) (b2 : Nat), e = .returned (.string ⟨s.toArray⟩) ∧ ((w9.cell? ⟨w1.heap.size, 0, none⟩ = some (.int .i64 t.kind) ∧ w9.cell? ⟨w1.heap.size, 1, none⟩ = some (.string ⟨t.text.toArray⟩) ∧ w9.cell? ⟨w1.heap.size, 2, none⟩ = some (.int .i64 t.line) ∧ w9.cell? ⟨w1.heap.size, 3, none⟩ = some (.int .i64 t.col))) ∧ xQ (R = ((Y2 ts K [58] b2).go fun y b => (Zb ts b [61]).go fun _ b => (E b).go fun v b => (Zb ts b [59]).go fun _ b => (E b).go fun r b => .inl (Zi 5 s 0 t.line t.col (if y.2 then [y.1] else []) [] [v, r], b)) ∧ Z5 pb tb cap d ts w w9 b2 bx [] [])) := by
  intro wa bx CA m0
  refine (Ts pb tb cap b1 d ts _ CA.ps OK.o).mono ?_
  intro e w9 zhm
  rcases Zy zhm with ⟨er, li, co, hr, rfl, hst⟩ | ⟨s, b2, v, hr, rfl, hst, hps, hv⟩
  ·exact .inl ⟨_, rfl, CA.st.trans hst, by rw [HR1.o, hr]; rfl⟩
  subst hv
  have CN := CA.step hst hps
  exact .inr ⟨s, b2, rfl, Z7 (CN.has _ m0).1, by rw [HR1.o, hr]; rfl, CN⟩
 have hnt0 : w1.heap.size ≠ w.heap.size := by have := C1.o.sz; omega
 have hsz1 := C1.o.sz
 go_wp2_with fail
 go_cut [4] from 12 (fun s4 wx => ∃ (nb : Nat) (s : List UInt8) (b2 : Nat), s4 = .pointer (some ⟨nb, 0, none⟩) ∧ w.heap.size < nb ∧ xQ (R = ((Y2 ts K [58] b2).go fun y b => (Zb ts b [61]).go fun _ b => (E b).go fun v b => (Zb ts b [59]).go fun _ b => (E b).go fun r b => .inl (Zi 5 s 0 t.line t.col (if y.2 then [y.1] else []) [] [v, r], b)) ∧ Z5 pb tb cap d ts w wx b2 [(nb, (Yu 5 s 0 t).obj), (w.heap.size, Ze.obj)] [] []))
 case first =>
  go_region_held (fun W => (W.cell? ⟨w1.heap.size, 0, none⟩ = some (.int .i64 t.kind) ∧ W.cell? ⟨w1.heap.size, 1, none⟩ = some (.string ⟨t.text.toArray⟩) ∧ W.cell? ⟨w1.heap.size, 2, none⟩ = some (.int .i64 t.line) ∧ W.cell? ⟨w1.heap.size, 3, none⟩ = some (.int .i64 t.col))) (first | with_reducible assumption | with_reducible exact HS00.o _ | with_reducible exact HS3.o _ | with_reducible exact HS6.o _ | with_reducible exact HS4a.o _ _ _ _ _ _ _ _ | with_reducible exact HS4b.o _ _ _ _ _ _ _ _) (first
   | (go_at_call 142; refine (HC.o _ _ (by first | exact C2.o.drew | exact (C2.o.alloc _).drew) (by simp)).mono ?_; rintro e w9 (⟨ch, rfl, hf⟩ | ⟨s, b2, rfl, t5, HX⟩); exact ⟨rfl, hf⟩; have HS3 : xQ (∀ o, (((w9.alloc o)).cell? ⟨w1.heap.size, 0, none⟩ = some (.int .i64 t.kind) ∧ ((w9.alloc o)).cell? ⟨w1.heap.size, 1, none⟩ = some (.string ⟨t.text.toArray⟩) ∧ ((w9.alloc o)).cell? ⟨w1.heap.size, 2, none⟩ = some (.int .i64 t.line) ∧ ((w9.alloc o)).cell? ⟨w1.heap.size, 3, none⟩ = some (.int .i64 t.col))) := (fun o => Z7 ((HX.o.2.alloc o).has (w1.heap.size, Zk t) (by simp)).1))
   | (go_at_call 171; refine (Vu t ⟨5, ⟨s.toArray⟩, 0, 0, 0, none, 0, 0, none, 0, 0, none, 0, 0⟩ _).mono ?_; rintro e w10 ⟨rfl, hb⟩; (first | have HX2 := Za (HX.o.2.below hb) | have HX2 := Za ((HX.o.2.alloc _).below hb)); have t6 : (w10.cell? ⟨w1.heap.size, 0, none⟩ = some (.int .i64 t.kind) ∧ w10.cell? ⟨w1.heap.size, 1, none⟩ = some (.string ⟨t.text.toArray⟩) ∧ w10.cell? ⟨w1.heap.size, 2, none⟩ = some (.int .i64 t.line) ∧ w10.cell? ⟨w1.heap.size, 3, none⟩ = some (.int .i64 t.col)) := Z7 (HX2.o.has (w1.heap.size, Zk t) (by simp)).1; have HS6 : xQ (∀ o, (((w10.alloc o)).cell? ⟨w1.heap.size, 0, none⟩ = some (.int .i64 t.kind) ∧ ((w10.alloc o)).cell? ⟨w1.heap.size, 1, none⟩ = some (.string ⟨t.text.toArray⟩) ∧ ((w10.alloc o)).cell? ⟨w1.heap.size, 2, none⟩ = some (.int .i64 t.line) ∧ ((w10.alloc o)).cell? ⟨w1.heap.size, 3, none⟩ = some (.int .i64 t.col))) := (fun o => Z7 ((HX2.o.alloc o).has (w1.heap.size, Zk t) (by simp)).1); have HS4a : xQ (∀ v0 v1 v2 v3 v4 v5 v6 v7, (((Z2 w10 (w1.heap.size + 1) v0 v1 v2 v3 v4 v5 v6 v7)).cell? ⟨w1.heap.size, 0, none⟩ = some (.int .i64 t.kind) ∧ ((Z2 w10 (w1.heap.size + 1) v0 v1 v2 v3 v4 v5 v6 v7)).cell? ⟨w1.heap.size, 1, none⟩ = some (.string ⟨t.text.toArray⟩) ∧ ((Z2 w10 (w1.heap.size + 1) v0 v1 v2 v3 v4 v5 v6 v7)).cell? ⟨w1.heap.size, 2, none⟩ = some (.int .i64 t.line) ∧ ((Z2 w10 (w1.heap.size + 1) v0 v1 v2 v3 v4 v5 v6 v7)).cell? ⟨w1.heap.size, 3, none⟩ = some (.int .i64 t.col))) := (fun v0 v1 v2 v3 v4 v5 v6 v7 => Z7 ((Vo (by omega) v0 v1 v2 v3 v4 v5 v6 v7).trans (HX2.o.has (w1.heap.size, Zk t) (by simp)).1)); have HL9 := Za (xB (HX.o.2.has (w1.heap.size, Zk t) (by simp)).1); have HS4b : xQ (∀ v0 v1 v2 v3 v4 v5 v6 v7, (((Z2 w10 w9.heap.size v0 v1 v2 v3 v4 v5 v6 v7)).cell? ⟨w1.heap.size, 0, none⟩ = some (.int .i64 t.kind) ∧ ((Z2 w10 w9.heap.size v0 v1 v2 v3 v4 v5 v6 v7)).cell? ⟨w1.heap.size, 1, none⟩ = some (.string ⟨t.text.toArray⟩) ∧ ((Z2 w10 w9.heap.size v0 v1 v2 v3 v4 v5 v6 v7)).cell? ⟨w1.heap.size, 2, none⟩ = some (.int .i64 t.line) ∧ ((Z2 w10 w9.heap.size v0 v1 v2 v3 v4 v5 v6 v7)).cell? ⟨w1.heap.size, 3, none⟩ = some (.int .i64 t.col))) := (fun v0 v1 v2 v3 v4 v5 v6 v7 => Z7 ((Vo (by have := HL9.o; omega) v0 v1 v2 v3 v4 v5 v6 v7).trans (HX2.o.has (w1.heap.size, Zk t) (by simp)).1)); (first | (have HB8 := Za (De (x := Ze) (n := w1.heap.size + 1) HX2.o.b0 (xS w1 (Zk t))); obtain ⟨⟨r0, r1, r2, r3, r4, r5, r6, r7⟩, ⟨f0, f1, f2, f3, f4, f5, f6, f7⟩, hr1⟩ := HB8.o) | (have HB8 := Za (De (x := Ze) (n := w9.heap.size) HX2.o.b0 (Eq.refl w9.heap.size)); obtain ⟨⟨r0, r1, r2, r3, r4, r5, r6, r7⟩, ⟨f0, f1, f2, f3, f4, f5, f6, f7⟩, hr1⟩ := HB8.o) | skip); clear hb))
  all_goals go_wp2_with fail
  all_goals go_meet
  ·exact ⟨_, s, b2, rfl, HX2.o.sz, HX.o.1, (HX2.o.alloc (Yu 5 s 0 t).obj).less (by intro p hp; rcases List.mem_cons.1 hp with rfl | hp; simp; rw [List.mem_singleton.1 hp]; simp)⟩
  ·exact ⟨_, s, b2, rfl, HX.o.2.sz, HX.o.1, HX2.o.reput (bx' := [(w9.heap.size, (Yu 5 s 0 t).obj), (w.heap.size, Ze.obj)]) (HX.o.2.sz) (Yu 5 s 0 t) ⟨Ze, by simp⟩ (by intro p hp; rcases List.mem_cons.1 hp with rfl | hp; exact .inl rfl; rw [List.mem_singleton.1 hp]; exact .inr ⟨by simp, by show w.heap.size ≠ _; have := HX.o.2.sz; omega⟩)⟩
  ·exact ⟨_, s, b2, rfl, (by omega), HX.o.1, HX2.o.reput (bx' := [(w1.heap.size + 1, (Yu 5 s 0 t).obj), (w.heap.size, Ze.obj)]) (by omega) (Yu 5 s 0 t) ⟨Ze, by simp⟩ (by intro p hp; rcases List.mem_cons.1 hp with rfl | hp; exact .inl rfl; rw [List.mem_singleton.1 hp]; exact .inr ⟨by simp, by show w.heap.size ≠ _; omega⟩)⟩
 case rest =>
  obtain ⟨nb, s, b2, rfl, hnb, HXc⟩ := hcut
  have HR2 := Za HXc.o.1
  have C3 := Za HXc.o.2
  clear HXc HC hS0 HS00 k0 k1 k2 k3
  have HnL := Za (xB C3.o.b0)
  go_wp2_with fail
  refine (Nw pb tb cap d ts [58] K HK1.o OK.o b2 _ C3.o.ps).mono ?_
  intro e w3 zhm
  rcases Zy zhm with ⟨er, li, co, hr, rfl, hst⟩ | ⟨y, b3, v, hr, rfl, hst, hps, hv⟩
  ·have HE : xQ (R = .inr (er, li, co)) := by rw [HR2.o, hr]; exact rfl
   have HF := Za (C3.o.st.trans hst)
   clear hr hst zhm
   go_wp2_with fail
   exact ⟨rfl, HF.o, by rw [HE.o]⟩
  have HR3 : xQ (R = (Zb ts b3 [61]).go fun _ b => (E b).go fun v b => (Zb ts b [59]).go fun _ b => (E b).go fun r b => .inl (Zi 5 s 0 t.line t.col (if y.2 then [y.1] else []) [] [v, r], b)) := by rw [HR2.o, hr]; exact rfl
  obtain ⟨DT, okb⟩ := y
  obtain ⟨u4, rfl, hv⟩ := hv
  obtain ⟨k4, nm4, na4, nl4, nc4, ka4, kl4, kc4, rfl⟩ := hv.cells
  have HVt := Za hv
  have HSz3 := Za hst.size
  have C4 := Za ((C3.o.step hst hps))
  have C5 := Za (C4.o.alloc (Zq k4 nm4 na4 nl4 nc4 ka4 kl4 kc4))
  clear hr hst hps zhm hv
  obtain ⟨lo, hlo⟩ := xE wc.heap.size
  rw [← hlo] at HVt HnL HSz3
  have HLo : xQ (w.heap.size + 1 ≤ lo) := by rw [hlo]; exact C3.o.sz
  clear hlo
  have hnl := HnL.o
  have hl1 := HLo.o
  cases okb with
  | false =>
   have HR4 : xQ (R = (Zb ts b3 [61]).go fun _ b => (E b).go fun v b => (Zb ts b [59]).go fun _ b => (E b).go fun r b => .inl (Zi 5 s 0 t.line t.col [] [] [v, r], b)) := HR3.o
   have HLv : xQ (Wk lo (w3.alloc (Zq k4 nm4 na4 nl4 nc4 ka4 kl4 kc4)) none [] []) := ⟨⟨0, .inl rfl⟩, (fun _ h => nomatch h)⟩
   have C6 := Za (C5.o.less (bx' := [(nb, (Xr t s none 0 0 none 0 0).obj), (w.heap.size, Ze.obj)]) (by intro p hp; exact xW _ hp))
   have HSzA : xQ (lo ≤ (w3.alloc (Zq k4 nm4 na4 nl4 nc4 ka4 kl4 kc4)).heap.size) := by have := HSz3.o; show _ ≤ _; rw [xS]; omega
   go_wp2_with fail
   refine (Y6 pb tb cap b3 d ts [61] _ C6.o.ps OK.o).mono ?_
   intro e w4 zhm
   rcases Zy zhm with ⟨er, li, co, hr, rfl, hst⟩ | ⟨u4, b4, v4, hr, rfl, hst, hps, hv⟩
   ·have HE : xQ (R = .inr (er, li, co)) := by rw [HR4.o, hr]; exact rfl
    have HF := Za (C6.o.st.trans hst)
    clear hr hst zhm
    go_wp2_with fail
    exact ⟨rfl, HF.o, by rw [HE.o]⟩
   have HR5 : xQ (R = (E b4).go fun v b => (Zb ts b [59]).go fun _ b => (E b).go fun r b => .inl (Zi 5 s 0 t.line t.col [] [] [v, r], b)) := by rw [HR4.o, hr]; exact rfl
   have HLw := Za (HLv.o.stay hst (by omega))
   have HSzB := Za (Nat.le_trans HSzA.o hst.size)
   have C7 := Za ((C6.o.step hst hps))
   clear hr hst hps zhm hv
   go_wp2_with fail
   refine (HE1.o.calls b4 _ C7.o.ps).mono ?_
   intro e w5 zhm
   rcases Zy zhm with ⟨er, li, co, hr, rfl, hst⟩ | ⟨D1, b5, v, hr, rfl, hst, hps, hv⟩
   ·have HE : xQ (R = .inr (er, li, co)) := by rw [HR5.o, hr]; exact rfl
    have HF := Za (C7.o.st.trans hst)
    clear hr hst zhm
    go_wp2_with fail
    exact ⟨rfl, HF.o, by rw [HE.o]⟩
   have HR6 : xQ (R = (Zb ts b5 [59]).go fun _ b => (E b).go fun r b => .inl (Zi 5 s 0 t.line t.col [] [] [D1, r], b)) := by rw [HR5.o, hr]; exact rfl
   obtain ⟨x1, rfl, hv⟩ := hv
   have HSzC := Za hst.size
   have HLx := Za (((HLw.o.stay hst (by omega)).add (hv.lower HSzB.o)).alloc x1.obj)
   have C8 := Za ((C7.o.step hst hps))
   have C9 := Za (C8.o.alloc (x1.obj))
   clear hr hst hps zhm hv
   go_wp2_with fail
   refine (Y6 pb tb cap b5 d ts [59] _ C9.o.ps OK.o).mono ?_
   intro e w6 zhm
   rcases Zy zhm with ⟨er, li, co, hr, rfl, hst⟩ | ⟨u6, b6, v6, hr, rfl, hst, hps, hv⟩
   ·have HE : xQ (R = .inr (er, li, co)) := by rw [HR6.o, hr]; exact rfl
    have HF := Za (C9.o.st.trans hst)
    clear hr hst zhm
    go_wp2_with fail
    exact ⟨rfl, HF.o, by rw [HE.o]⟩
   have HR7 : xQ (R = (E b6).go fun r b => .inl (Zi 5 s 0 t.line t.col [] [] [D1, r], b)) := by rw [HR6.o, hr]; exact rfl
   have HLy := Za (HLx.o.stay hst (by omega))
   have HSzD := Za (Nat.le_trans (Nat.le_trans HSzB.o HSzC.o) (Nat.le_trans (by rw [xS]; exact Nat.le_succ _) hst.size))
   have C10 := Za ((C9.o.step hst hps))
   clear hr hst hps zhm hv
   obtain ⟨⟨n0, n1, n2, n3, n4, n5, n6, n7⟩, _, hn1⟩ := Zh (x := x1) C10.o.b0
   obtain ⟨⟨m0, m1, m2, m3, m4, m5, m6, m7⟩, ⟨g0, g1, g2, g3, g4, g5, g6, g7⟩, hm1⟩ := Zh (x := Xr t s (none) 0 0 none 0 0) C10.o.b1
   go_wp2_with fail
   have hnx : w5.heap.size ≠ nb := by have := HSzB.o; have := HSzC.o; omega
   have hS0 : ((w6.drew).cell? ⟨w5.heap.size, 0, none⟩ = some (.int .i64 x1.k) ∧ (w6.drew).cell? ⟨w5.heap.size, 1, none⟩ = some (.string x1.tx) ∧ (w6.drew).cell? ⟨w5.heap.size, 2, none⟩ = some (.int .i64 x1.N) ∧ (w6.drew).cell? ⟨w5.heap.size, 3, none⟩ = some (.int .i64 x1.li) ∧ (w6.drew).cell? ⟨w5.heap.size, 4, none⟩ = some (.int .i64 x1.co) ∧ (w6.drew).cell? ⟨w5.heap.size, 5, none⟩ = some (.slice x1.ta x1.tl x1.tc) ∧ (w6.drew).cell? ⟨w5.heap.size, 6, none⟩ = some (.slice x1.na x1.nl x1.nc) ∧ (w6.drew).cell? ⟨w5.heap.size, 7, none⟩ = some (.slice x1.ka x1.kl x1.kc)) := (Zh (x := x1) C10.o.drew.b0).1
   have HC : xQ (Calls prog 23 #[.pointer (some ⟨pb, 0, none⟩)] w6.drew fun e w9 => (∃ chain, e = .panicked chain ∧ Zs pb tb cap ts d w Zo R e w9) ∨ ∃ (y : NV) (D2 : Ty) (b7 : Nat), e = .returned y.val ∧ ((w9.cell? ⟨w5.heap.size, 0, none⟩ = some (.int .i64 x1.k) ∧ w9.cell? ⟨w5.heap.size, 1, none⟩ = some (.string x1.tx) ∧ w9.cell? ⟨w5.heap.size, 2, none⟩ = some (.int .i64 x1.N) ∧ w9.cell? ⟨w5.heap.size, 3, none⟩ = some (.int .i64 x1.li) ∧ w9.cell? ⟨w5.heap.size, 4, none⟩ = some (.int .i64 x1.co) ∧ w9.cell? ⟨w5.heap.size, 5, none⟩ = some (.slice x1.ta x1.tl x1.tc) ∧ w9.cell? ⟨w5.heap.size, 6, none⟩ = some (.slice x1.na x1.nl x1.nc) ∧ w9.cell? ⟨w5.heap.size, 7, none⟩ = some (.slice x1.ka x1.kl x1.kc))) ∧ B4 w9 nb (Xr t s (none) 0 0 none 0 0) ∧ xQ (R = (.inl (Zi 5 s 0 t.line t.col [] [] [D1, D2], b7)) ∧ Z5 pb tb cap d ts w w9 b7 [(w5.heap.size, x1.obj), (nb, (Xr t s (none) 0 0 none 0 0).obj), (w.heap.size, Ze.obj)] [] [] ∧ Wk lo w9 (none) [] [(y, D2), (x1, D1)])) := by
    refine (HE1.o.calls b6 _ C10.o.drew.ps).mono ?_
    intro e w9 zhm
    rcases Zy zhm with ⟨er, li, co, hr, rfl, hst⟩ | ⟨D2, b7, v, hr, rfl, hst, hps, hv⟩
    ·exact .inl ⟨_, rfl, C10.o.drew.st.trans hst, by rw [HR7.o, hr]; rfl⟩
    obtain ⟨y, rfl, hv⟩ := hv
    have CN := C10.o.drew.step hst hps
    exact .inr ⟨y, D2, b7, rfl, (Zh (x := x1) CN.b0).1, Zh (x := Xr t s (none) 0 0 none 0 0) CN.b1, by rw [HR7.o, hr]; rfl, CN, (HLy.o.stay hst.undrew (by omega)).add (hv.lower (by have := HSzD.o; show lo ≤ w6.heap.size; omega))⟩
   go_region_held (fun W => (W.cell? ⟨w5.heap.size, 0, none⟩ = some (.int .i64 x1.k) ∧ W.cell? ⟨w5.heap.size, 1, none⟩ = some (.string x1.tx) ∧ W.cell? ⟨w5.heap.size, 2, none⟩ = some (.int .i64 x1.N) ∧ W.cell? ⟨w5.heap.size, 3, none⟩ = some (.int .i64 x1.li) ∧ W.cell? ⟨w5.heap.size, 4, none⟩ = some (.int .i64 x1.co) ∧ W.cell? ⟨w5.heap.size, 5, none⟩ = some (.slice x1.ta x1.tl x1.tc) ∧ W.cell? ⟨w5.heap.size, 6, none⟩ = some (.slice x1.na x1.nl x1.nc) ∧ W.cell? ⟨w5.heap.size, 7, none⟩ = some (.slice x1.ka x1.kl x1.kc))) (first | with_reducible assumption | with_reducible exact HS3.o _ | with_reducible exact HS7.o _ _) (first
    | (go_at_call 23; refine HC.o.mono ?_; rintro e w9 (⟨ch, rfl, hf⟩ | ⟨y, D2, b7, rfl, t5, t7, HX⟩); exact ⟨rfl, hf⟩; have HS3 : xQ (∀ o, (((w9.alloc o)).cell? ⟨w5.heap.size, 0, none⟩ = some (.int .i64 x1.k) ∧ ((w9.alloc o)).cell? ⟨w5.heap.size, 1, none⟩ = some (.string x1.tx) ∧ ((w9.alloc o)).cell? ⟨w5.heap.size, 2, none⟩ = some (.int .i64 x1.N) ∧ ((w9.alloc o)).cell? ⟨w5.heap.size, 3, none⟩ = some (.int .i64 x1.li) ∧ ((w9.alloc o)).cell? ⟨w5.heap.size, 4, none⟩ = some (.int .i64 x1.co) ∧ ((w9.alloc o)).cell? ⟨w5.heap.size, 5, none⟩ = some (.slice x1.ta x1.tl x1.tc) ∧ ((w9.alloc o)).cell? ⟨w5.heap.size, 6, none⟩ = some (.slice x1.na x1.nl x1.nc) ∧ ((w9.alloc o)).cell? ⟨w5.heap.size, 7, none⟩ = some (.slice x1.ka x1.kl x1.kc))) := (fun o => (Zh (x := x1) (HX.o.2.1.alloc o).b1).1); have HS7 : xQ (∀ u o, ((((w9.setCell ⟨nb, 7, none⟩ u).alloc o)).cell? ⟨w5.heap.size, 0, none⟩ = some (.int .i64 x1.k) ∧ (((w9.setCell ⟨nb, 7, none⟩ u).alloc o)).cell? ⟨w5.heap.size, 1, none⟩ = some (.string x1.tx) ∧ (((w9.setCell ⟨nb, 7, none⟩ u).alloc o)).cell? ⟨w5.heap.size, 2, none⟩ = some (.int .i64 x1.N) ∧ (((w9.setCell ⟨nb, 7, none⟩ u).alloc o)).cell? ⟨w5.heap.size, 3, none⟩ = some (.int .i64 x1.li) ∧ (((w9.setCell ⟨nb, 7, none⟩ u).alloc o)).cell? ⟨w5.heap.size, 4, none⟩ = some (.int .i64 x1.co) ∧ (((w9.setCell ⟨nb, 7, none⟩ u).alloc o)).cell? ⟨w5.heap.size, 5, none⟩ = some (.slice x1.ta x1.tl x1.tc) ∧ (((w9.setCell ⟨nb, 7, none⟩ u).alloc o)).cell? ⟨w5.heap.size, 6, none⟩ = some (.slice x1.na x1.nl x1.nc) ∧ (((w9.setCell ⟨nb, 7, none⟩ u).alloc o)).cell? ⟨w5.heap.size, 7, none⟩ = some (.slice x1.ka x1.kl x1.kc))) := (fun u o => (Zh (x := x1) ((xA (by rw [Zw]; exact xB HX.o.2.1.b0)).trans ((xH hnx).trans HX.o.2.1.b0))).1); obtain ⟨⟨q0, q1, q2, q3, q4, q5, q6, q7⟩, ⟨j0, j1, j2, j3, j4, j5, j6, j7⟩, hq1⟩ := t7; obtain ⟨⟨r0, r1, r2, r3, r4, r5, r6, r7⟩, ⟨f0, f1, f2, f3, f4, f5, f6, f7⟩, hr1⟩ := Zh (x := Ze) HX.o.2.1.b2))
   all_goals
    have hne1 : ¬ nb = w.heap.size := by omega
    have hne2 : ¬ w.heap.size = nb := by omega
    have hne3 : ¬ w9.heap.size = nb := by omega
    have hne4 : ¬ w9.heap.size = w.heap.size := by omega
    go_wp2_with fail
    rw [HX.o.1]
    have hrb : (w9.setCell ⟨nb, 7, none⟩ (.slice (some ⟨w9.heap.size, 0, none⟩) 2 2)).heap[w.heap.size]? = some Ze.obj := (xH hne2).trans HX.o.2.1.b2
    refine bodyPost_ret (results_cell_row rfl _ _ w.heap.size 27 _ (0, 0) _ rfl ((xA (show w.heap.size < (put8 (w9.setCell ⟨nb, 7, none⟩ (.slice (some ⟨w9.heap.size, 0, none⟩) 2 2)) w.heap.size (Xr t s (none) 0 0 (some ⟨w9.heap.size, 0, none⟩) 2 2)).heap.size by rw [Wr, Zw]; exact hr1)).trans (Yj (x := Xr t s (none) 0 0 (some ⟨w9.heap.size, 0, none⟩) 2 2) hrb)) underlying27 rfl (by kernel_rfl)) rfl ⟨(Yr (HX.o.2.1.st.own hp (by omega) 7 _) hp (xR) (Xr t s (none) 0 0 (some ⟨w9.heap.size, 0, none⟩) 2 2)).alloc hp _, (Yv (HX.o.2.1.ps.other (by omega) 7 _) hp (Xr t s (none) 0 0 (some ⟨w9.heap.size, 0, none⟩) 2 2)).alloc _, _, rfl, Xr t s (none) 0 0 (some ⟨w9.heap.size, 0, none⟩) 2 2, rfl, ?_⟩
    have hLv := (((HX.o.2.2.set1 hnl 7 (.slice (some ⟨w9.heap.size, 0, none⟩) 2 2)).put8 (b := w.heap.size) (by omega) (Xr t s (none) 0 0 (some ⟨w9.heap.size, 0, none⟩) 2 2)).alloc (.cells #[.int .i64 x1.k, .string x1.tx, .int .i64 x1.N, .int .i64 x1.li, .int .i64 x1.co, .slice x1.ta x1.tl x1.tc, .slice x1.na x1.nl x1.nc, .slice x1.ka x1.kl x1.kc, .int .i64 y.k, .string y.tx, .int .i64 y.N, .int .i64 y.li, .int .i64 y.co, .slice y.ta y.tl y.tc, .slice y.na y.nl y.nc, .slice y.ka y.kl y.kc] 27))
    have hk : ((put8 (w9.setCell ⟨nb, 7, none⟩ (.slice (some ⟨w9.heap.size, 0, none⟩) 2 2)) w.heap.size (Xr t s (none) 0 0 (some ⟨w9.heap.size, 0, none⟩) 2 2)).alloc (.cells #[.int .i64 x1.k, .string x1.tx, .int .i64 x1.N, .int .i64 x1.li, .int .i64 x1.co, .slice x1.ta x1.tl x1.tc, .slice x1.na x1.nl x1.nc, .slice x1.ka x1.kl x1.kc, .int .i64 y.k, .string y.tx, .int .i64 y.N, .int .i64 y.li, .int .i64 y.co, .slice y.ta y.tl y.tc, .slice y.na y.nl y.nc, .slice y.ka y.kl y.kc] 27)).heap[w9.heap.size]? = some (.cells #[.int .i64 x1.k, .string x1.tx, .int .i64 x1.N, .int .i64 x1.li, .int .i64 x1.co, .slice x1.ta x1.tl x1.tc, .slice x1.na x1.nl x1.nc, .slice x1.ka x1.kl x1.kc, .int .i64 y.k, .string y.tx, .int .i64 y.N, .int .i64 y.li, .int .i64 y.co, .slice y.ta y.tl y.tc, .slice y.na y.nl y.nc, .slice y.ka y.kl y.kc] 27) := by
     have := xL (put8 (w9.setCell ⟨nb, 7, none⟩ (.slice (some ⟨w9.heap.size, 0, none⟩) 2 2)) w.heap.size (Xr t s (none) 0 0 (some ⟨w9.heap.size, 0, none⟩) 2 2)) (.cells #[.int .i64 x1.k, .string x1.tx, .int .i64 x1.N, .int .i64 x1.li, .int .i64 x1.co, .slice x1.ta x1.tl x1.tc, .slice x1.na x1.nl x1.nc, .slice x1.ka x1.kl x1.kc, .int .i64 y.k, .string y.tx, .int .i64 y.N, .int .i64 y.li, .int .i64 y.co, .slice y.ta y.tl y.tc, .slice y.na y.nl y.nc, .slice y.ka y.kl y.kc] 27)
     rw [Wr, Zw] at this
     exact this
    exact (To (hLv.nd (x1, D1) (by simp)) (hLv.nd (y, D2) (by simp)) hk (by have := xB HX.o.2.1.b0; have := HSzB.o; have := HSzC.o; omega) (Xr t s (none) 0 0 (some ⟨w9.heap.size, 0, none⟩) 2 2) [] [] ⟨rfl, rfl⟩ ⟨rfl, by simp, hLv.kd⟩ ⟨rfl, xZ _, .inl rfl⟩).lower (by omega)
  | true =>
   have HR4 : xQ (R = (Zb ts b3 [61]).go fun _ b => (E b).go fun v b => (Zb ts b [59]).go fun _ b => (E b).go fun r b => .inl (Zi 5 s 0 t.line t.col [DT] [] [v, r], b)) := HR3.o
   obtain ⟨⟨q0, q1, q2, q3, q4, q5, q6, q7⟩, ⟨j0, j1, j2, j3, j4, j5, j6, j7⟩, hq1⟩ := Zh (x := Yu 5 s 0 t) C4.o.b0
   have hz1 : (w3.setCell ⟨nb, 5, none⟩ (.slice (some ⟨w3.heap.size + 1, 0, none⟩) 1 1)).heap[nb]? = some (Xr t s (some ⟨w3.heap.size + 1, 0, none⟩) 1 1 none 0 0).obj := by
    have := Z9 (o := 5) (u := .slice (some ⟨w3.heap.size + 1, 0, none⟩) 1 1) C4.o.b0
    simpa using this
   have hrow : (((w3.setCell ⟨nb, 5, none⟩ (.slice (some ⟨w3.heap.size + 1, 0, none⟩) 1 1)).alloc (Zq k4 nm4 na4 nl4 nc4 ka4 kl4 kc4)).alloc (Zq k4 nm4 na4 nl4 nc4 ka4 kl4 kc4)).heap[w3.heap.size + 1]? = some (Zq k4 nm4 na4 nl4 nc4 ka4 kl4 kc4) := by
    have := xL ((w3.setCell ⟨nb, 5, none⟩ (.slice (some ⟨w3.heap.size + 1, 0, none⟩) 1 1)).alloc (Zq k4 nm4 na4 nl4 nc4 ka4 kl4 kc4)) (Zq k4 nm4 na4 nl4 nc4 ka4 kl4 kc4)
    rw [xS, Zw] at this
    exact this
   have HSzA : xQ (lo ≤ (((w3.setCell ⟨nb, 5, none⟩ (.slice (some ⟨w3.heap.size + 1, 0, none⟩) 1 1)).alloc (Zq k4 nm4 na4 nl4 nc4 ka4 kl4 kc4)).alloc (Zq k4 nm4 na4 nl4 nc4 ka4 kl4 kc4)).heap.size) := by have := HSz3.o; show _ ≤ _; rw [xS, xS, Zw]; omega
   have HLv : xQ (Wk lo (((w3.setCell ⟨nb, 5, none⟩ (.slice (some ⟨w3.heap.size + 1, 0, none⟩) 1 1)).alloc (Zq k4 nm4 na4 nl4 nc4 ka4 kl4 kc4)).alloc (Zq k4 nm4 na4 nl4 nc4 ka4 kl4 kc4)) (some ⟨w3.heap.size + 1, 0, none⟩) [DT] []) := ⟨K8 (((HVt.o.set1 hnl 5 _).alloc _).alloc _) hrow (by have := HSz3.o; omega), (fun _ h => nomatch h)⟩
   have C6 := Za ((((C4.o.reset (bx' := [(nb, (Xr t s (some ⟨w3.heap.size + 1, 0, none⟩) 1 1 none 0 0).obj), (w.heap.size, Ze.obj)]) hnb hz1 (by intro p hp; rcases List.mem_cons.1 hp with rfl | hp; exact .inl rfl; rw [List.mem_singleton.1 hp]; exact .inr ⟨by simp, by show w.heap.size ≠ nb; omega⟩)).alloc (Zq k4 nm4 na4 nl4 nc4 ka4 kl4 kc4)).alloc (Zq k4 nm4 na4 nl4 nc4 ka4 kl4 kc4)).less (bx' := [(nb, (Xr t s (some ⟨w3.heap.size + 1, 0, none⟩) 1 1 none 0 0).obj), (w.heap.size, Ze.obj)]) (by intro p hp; exact xW _ (xW _ hp)))
   clear hz1 hrow
   go_wp2_with fail
   refine (Y6 pb tb cap b3 d ts [61] _ C6.o.ps OK.o).mono ?_
   intro e w4 zhm
   rcases Zy zhm with ⟨er, li, co, hr, rfl, hst⟩ | ⟨u4, b4, v4, hr, rfl, hst, hps, hv⟩
   ·have HE : xQ (R = .inr (er, li, co)) := by rw [HR4.o, hr]; exact rfl
    have HF := Za (C6.o.st.trans hst)
    clear hr hst zhm
    go_wp2_with fail
    exact ⟨rfl, HF.o, by rw [HE.o]⟩
   have HR5 : xQ (R = (E b4).go fun v b => (Zb ts b [59]).go fun _ b => (E b).go fun r b => .inl (Zi 5 s 0 t.line t.col [DT] [] [v, r], b)) := by rw [HR4.o, hr]; exact rfl
   have HLw := Za (HLv.o.stay hst (by omega))
   have HSzB := Za (Nat.le_trans HSzA.o hst.size)
   have C7 := Za ((C6.o.step hst hps))
   clear hr hst hps zhm hv
   go_wp2_with fail
   refine (HE1.o.calls b4 _ C7.o.ps).mono ?_
   intro e w5 zhm
   rcases Zy zhm with ⟨er, li, co, hr, rfl, hst⟩ | ⟨D1, b5, v, hr, rfl, hst, hps, hv⟩
   ·have HE : xQ (R = .inr (er, li, co)) := by rw [HR5.o, hr]; exact rfl
    have HF := Za (C7.o.st.trans hst)
    clear hr hst zhm
    go_wp2_with fail
    exact ⟨rfl, HF.o, by rw [HE.o]⟩
   have HR6 : xQ (R = (Zb ts b5 [59]).go fun _ b => (E b).go fun r b => .inl (Zi 5 s 0 t.line t.col [DT] [] [D1, r], b)) := by rw [HR5.o, hr]; exact rfl
   obtain ⟨x1, rfl, hv⟩ := hv
   have HSzC := Za hst.size
   have HLx := Za (((HLw.o.stay hst (by omega)).add (hv.lower HSzB.o)).alloc x1.obj)
   have C8 := Za ((C7.o.step hst hps))
   have C9 := Za (C8.o.alloc (x1.obj))
   clear hr hst hps zhm hv
   go_wp2_with fail
   refine (Y6 pb tb cap b5 d ts [59] _ C9.o.ps OK.o).mono ?_
   intro e w6 zhm
   rcases Zy zhm with ⟨er, li, co, hr, rfl, hst⟩ | ⟨u6, b6, v6, hr, rfl, hst, hps, hv⟩
   ·have HE : xQ (R = .inr (er, li, co)) := by rw [HR6.o, hr]; exact rfl
    have HF := Za (C9.o.st.trans hst)
    clear hr hst zhm
    go_wp2_with fail
    exact ⟨rfl, HF.o, by rw [HE.o]⟩
   have HR7 : xQ (R = (E b6).go fun r b => .inl (Zi 5 s 0 t.line t.col [DT] [] [D1, r], b)) := by rw [HR6.o, hr]; exact rfl
   have HLy := Za (HLx.o.stay hst (by omega))
   have HSzD := Za (Nat.le_trans (Nat.le_trans HSzB.o HSzC.o) (Nat.le_trans (by rw [xS]; exact Nat.le_succ _) hst.size))
   have C10 := Za ((C9.o.step hst hps))
   clear hr hst hps zhm hv
   obtain ⟨⟨n0, n1, n2, n3, n4, n5, n6, n7⟩, _, hn1⟩ := Zh (x := x1) C10.o.b0
   obtain ⟨⟨m0, m1, m2, m3, m4, m5, m6, m7⟩, ⟨g0, g1, g2, g3, g4, g5, g6, g7⟩, hm1⟩ := Zh (x := Xr t s (some ⟨w3.heap.size + 1, 0, none⟩) 1 1 none 0 0) C10.o.b1
   go_wp2_with fail
   have hnx : w5.heap.size ≠ nb := by have := HSzB.o; have := HSzC.o; omega
   have hS0 : ((w6.drew).cell? ⟨w5.heap.size, 0, none⟩ = some (.int .i64 x1.k) ∧ (w6.drew).cell? ⟨w5.heap.size, 1, none⟩ = some (.string x1.tx) ∧ (w6.drew).cell? ⟨w5.heap.size, 2, none⟩ = some (.int .i64 x1.N) ∧ (w6.drew).cell? ⟨w5.heap.size, 3, none⟩ = some (.int .i64 x1.li) ∧ (w6.drew).cell? ⟨w5.heap.size, 4, none⟩ = some (.int .i64 x1.co) ∧ (w6.drew).cell? ⟨w5.heap.size, 5, none⟩ = some (.slice x1.ta x1.tl x1.tc) ∧ (w6.drew).cell? ⟨w5.heap.size, 6, none⟩ = some (.slice x1.na x1.nl x1.nc) ∧ (w6.drew).cell? ⟨w5.heap.size, 7, none⟩ = some (.slice x1.ka x1.kl x1.kc)) := (Zh (x := x1) C10.o.drew.b0).1
   have HC : xQ (Calls prog 23 #[.pointer (some ⟨pb, 0, none⟩)] w6.drew fun e w9 => (∃ chain, e = .panicked chain ∧ Zs pb tb cap ts d w Zo R e w9) ∨ ∃ (y : NV) (D2 : Ty) (b7 : Nat), e = .returned y.val ∧ ((w9.cell? ⟨w5.heap.size, 0, none⟩ = some (.int .i64 x1.k) ∧ w9.cell? ⟨w5.heap.size, 1, none⟩ = some (.string x1.tx) ∧ w9.cell? ⟨w5.heap.size, 2, none⟩ = some (.int .i64 x1.N) ∧ w9.cell? ⟨w5.heap.size, 3, none⟩ = some (.int .i64 x1.li) ∧ w9.cell? ⟨w5.heap.size, 4, none⟩ = some (.int .i64 x1.co) ∧ w9.cell? ⟨w5.heap.size, 5, none⟩ = some (.slice x1.ta x1.tl x1.tc) ∧ w9.cell? ⟨w5.heap.size, 6, none⟩ = some (.slice x1.na x1.nl x1.nc) ∧ w9.cell? ⟨w5.heap.size, 7, none⟩ = some (.slice x1.ka x1.kl x1.kc))) ∧ B4 w9 nb (Xr t s (some ⟨w3.heap.size + 1, 0, none⟩) 1 1 none 0 0) ∧ xQ (R = (.inl (Zi 5 s 0 t.line t.col [DT] [] [D1, D2], b7)) ∧ Z5 pb tb cap d ts w w9 b7 [(w5.heap.size, x1.obj), (nb, (Xr t s (some ⟨w3.heap.size + 1, 0, none⟩) 1 1 none 0 0).obj), (w.heap.size, Ze.obj)] [] [] ∧ Wk lo w9 (some ⟨w3.heap.size + 1, 0, none⟩) [DT] [(y, D2), (x1, D1)])) := by
    refine (HE1.o.calls b6 _ C10.o.drew.ps).mono ?_
    intro e w9 zhm
    rcases Zy zhm with ⟨er, li, co, hr, rfl, hst⟩ | ⟨D2, b7, v, hr, rfl, hst, hps, hv⟩
    ·exact .inl ⟨_, rfl, C10.o.drew.st.trans hst, by rw [HR7.o, hr]; rfl⟩
    obtain ⟨y, rfl, hv⟩ := hv
    have CN := C10.o.drew.step hst hps
    exact .inr ⟨y, D2, b7, rfl, (Zh (x := x1) CN.b0).1, Zh (x := Xr t s (some ⟨w3.heap.size + 1, 0, none⟩) 1 1 none 0 0) CN.b1, by rw [HR7.o, hr]; rfl, CN, (HLy.o.stay hst.undrew (by omega)).add (hv.lower (by have := HSzD.o; show lo ≤ w6.heap.size; omega))⟩
   go_region_held (fun W => (W.cell? ⟨w5.heap.size, 0, none⟩ = some (.int .i64 x1.k) ∧ W.cell? ⟨w5.heap.size, 1, none⟩ = some (.string x1.tx) ∧ W.cell? ⟨w5.heap.size, 2, none⟩ = some (.int .i64 x1.N) ∧ W.cell? ⟨w5.heap.size, 3, none⟩ = some (.int .i64 x1.li) ∧ W.cell? ⟨w5.heap.size, 4, none⟩ = some (.int .i64 x1.co) ∧ W.cell? ⟨w5.heap.size, 5, none⟩ = some (.slice x1.ta x1.tl x1.tc) ∧ W.cell? ⟨w5.heap.size, 6, none⟩ = some (.slice x1.na x1.nl x1.nc) ∧ W.cell? ⟨w5.heap.size, 7, none⟩ = some (.slice x1.ka x1.kl x1.kc))) (first | with_reducible assumption | with_reducible exact HS3.o _ | with_reducible exact HS7.o _ _) (first
    | (go_at_call 23; refine HC.o.mono ?_; rintro e w9 (⟨ch, rfl, hf⟩ | ⟨y, D2, b7, rfl, t5, t7, HX⟩); exact ⟨rfl, hf⟩; have HS3 : xQ (∀ o, (((w9.alloc o)).cell? ⟨w5.heap.size, 0, none⟩ = some (.int .i64 x1.k) ∧ ((w9.alloc o)).cell? ⟨w5.heap.size, 1, none⟩ = some (.string x1.tx) ∧ ((w9.alloc o)).cell? ⟨w5.heap.size, 2, none⟩ = some (.int .i64 x1.N) ∧ ((w9.alloc o)).cell? ⟨w5.heap.size, 3, none⟩ = some (.int .i64 x1.li) ∧ ((w9.alloc o)).cell? ⟨w5.heap.size, 4, none⟩ = some (.int .i64 x1.co) ∧ ((w9.alloc o)).cell? ⟨w5.heap.size, 5, none⟩ = some (.slice x1.ta x1.tl x1.tc) ∧ ((w9.alloc o)).cell? ⟨w5.heap.size, 6, none⟩ = some (.slice x1.na x1.nl x1.nc) ∧ ((w9.alloc o)).cell? ⟨w5.heap.size, 7, none⟩ = some (.slice x1.ka x1.kl x1.kc))) := (fun o => (Zh (x := x1) (HX.o.2.1.alloc o).b1).1); have HS7 : xQ (∀ u o, ((((w9.setCell ⟨nb, 7, none⟩ u).alloc o)).cell? ⟨w5.heap.size, 0, none⟩ = some (.int .i64 x1.k) ∧ (((w9.setCell ⟨nb, 7, none⟩ u).alloc o)).cell? ⟨w5.heap.size, 1, none⟩ = some (.string x1.tx) ∧ (((w9.setCell ⟨nb, 7, none⟩ u).alloc o)).cell? ⟨w5.heap.size, 2, none⟩ = some (.int .i64 x1.N) ∧ (((w9.setCell ⟨nb, 7, none⟩ u).alloc o)).cell? ⟨w5.heap.size, 3, none⟩ = some (.int .i64 x1.li) ∧ (((w9.setCell ⟨nb, 7, none⟩ u).alloc o)).cell? ⟨w5.heap.size, 4, none⟩ = some (.int .i64 x1.co) ∧ (((w9.setCell ⟨nb, 7, none⟩ u).alloc o)).cell? ⟨w5.heap.size, 5, none⟩ = some (.slice x1.ta x1.tl x1.tc) ∧ (((w9.setCell ⟨nb, 7, none⟩ u).alloc o)).cell? ⟨w5.heap.size, 6, none⟩ = some (.slice x1.na x1.nl x1.nc) ∧ (((w9.setCell ⟨nb, 7, none⟩ u).alloc o)).cell? ⟨w5.heap.size, 7, none⟩ = some (.slice x1.ka x1.kl x1.kc))) := (fun u o => (Zh (x := x1) ((xA (by rw [Zw]; exact xB HX.o.2.1.b0)).trans ((xH hnx).trans HX.o.2.1.b0))).1); obtain ⟨⟨q0, q1, q2, q3, q4, q5, q6, q7⟩, ⟨j0, j1, j2, j3, j4, j5, j6, j7⟩, hq1⟩ := t7; obtain ⟨⟨r0, r1, r2, r3, r4, r5, r6, r7⟩, ⟨f0, f1, f2, f3, f4, f5, f6, f7⟩, hr1⟩ := Zh (x := Ze) HX.o.2.1.b2))
   all_goals
    have hne1 : ¬ nb = w.heap.size := by omega
    have hne2 : ¬ w.heap.size = nb := by omega
    have hne3 : ¬ w9.heap.size = nb := by omega
    have hne4 : ¬ w9.heap.size = w.heap.size := by omega
    go_wp2_with fail
    rw [HX.o.1]
    have hrb : (w9.setCell ⟨nb, 7, none⟩ (.slice (some ⟨w9.heap.size, 0, none⟩) 2 2)).heap[w.heap.size]? = some Ze.obj := (xH hne2).trans HX.o.2.1.b2
    refine bodyPost_ret (results_cell_row rfl _ _ w.heap.size 27 _ (0, 0) _ rfl ((xA (show w.heap.size < (put8 (w9.setCell ⟨nb, 7, none⟩ (.slice (some ⟨w9.heap.size, 0, none⟩) 2 2)) w.heap.size (Xr t s (some ⟨w3.heap.size + 1, 0, none⟩) 1 1 (some ⟨w9.heap.size, 0, none⟩) 2 2)).heap.size by rw [Wr, Zw]; exact hr1)).trans (Yj (x := Xr t s (some ⟨w3.heap.size + 1, 0, none⟩) 1 1 (some ⟨w9.heap.size, 0, none⟩) 2 2) hrb)) underlying27 rfl (by kernel_rfl)) rfl ⟨(Yr (HX.o.2.1.st.own hp (by omega) 7 _) hp (xR) (Xr t s (some ⟨w3.heap.size + 1, 0, none⟩) 1 1 (some ⟨w9.heap.size, 0, none⟩) 2 2)).alloc hp _, (Yv (HX.o.2.1.ps.other (by omega) 7 _) hp (Xr t s (some ⟨w3.heap.size + 1, 0, none⟩) 1 1 (some ⟨w9.heap.size, 0, none⟩) 2 2)).alloc _, _, rfl, Xr t s (some ⟨w3.heap.size + 1, 0, none⟩) 1 1 (some ⟨w9.heap.size, 0, none⟩) 2 2, rfl, ?_⟩
    have hLv := (((HX.o.2.2.set1 hnl 7 (.slice (some ⟨w9.heap.size, 0, none⟩) 2 2)).put8 (b := w.heap.size) (by omega) (Xr t s (some ⟨w3.heap.size + 1, 0, none⟩) 1 1 (some ⟨w9.heap.size, 0, none⟩) 2 2)).alloc (.cells #[.int .i64 x1.k, .string x1.tx, .int .i64 x1.N, .int .i64 x1.li, .int .i64 x1.co, .slice x1.ta x1.tl x1.tc, .slice x1.na x1.nl x1.nc, .slice x1.ka x1.kl x1.kc, .int .i64 y.k, .string y.tx, .int .i64 y.N, .int .i64 y.li, .int .i64 y.co, .slice y.ta y.tl y.tc, .slice y.na y.nl y.nc, .slice y.ka y.kl y.kc] 27))
    have hk : ((put8 (w9.setCell ⟨nb, 7, none⟩ (.slice (some ⟨w9.heap.size, 0, none⟩) 2 2)) w.heap.size (Xr t s (some ⟨w3.heap.size + 1, 0, none⟩) 1 1 (some ⟨w9.heap.size, 0, none⟩) 2 2)).alloc (.cells #[.int .i64 x1.k, .string x1.tx, .int .i64 x1.N, .int .i64 x1.li, .int .i64 x1.co, .slice x1.ta x1.tl x1.tc, .slice x1.na x1.nl x1.nc, .slice x1.ka x1.kl x1.kc, .int .i64 y.k, .string y.tx, .int .i64 y.N, .int .i64 y.li, .int .i64 y.co, .slice y.ta y.tl y.tc, .slice y.na y.nl y.nc, .slice y.ka y.kl y.kc] 27)).heap[w9.heap.size]? = some (.cells #[.int .i64 x1.k, .string x1.tx, .int .i64 x1.N, .int .i64 x1.li, .int .i64 x1.co, .slice x1.ta x1.tl x1.tc, .slice x1.na x1.nl x1.nc, .slice x1.ka x1.kl x1.kc, .int .i64 y.k, .string y.tx, .int .i64 y.N, .int .i64 y.li, .int .i64 y.co, .slice y.ta y.tl y.tc, .slice y.na y.nl y.nc, .slice y.ka y.kl y.kc] 27) := by
     have := xL (put8 (w9.setCell ⟨nb, 7, none⟩ (.slice (some ⟨w9.heap.size, 0, none⟩) 2 2)) w.heap.size (Xr t s (some ⟨w3.heap.size + 1, 0, none⟩) 1 1 (some ⟨w9.heap.size, 0, none⟩) 2 2)) (.cells #[.int .i64 x1.k, .string x1.tx, .int .i64 x1.N, .int .i64 x1.li, .int .i64 x1.co, .slice x1.ta x1.tl x1.tc, .slice x1.na x1.nl x1.nc, .slice x1.ka x1.kl x1.kc, .int .i64 y.k, .string y.tx, .int .i64 y.N, .int .i64 y.li, .int .i64 y.co, .slice y.ta y.tl y.tc, .slice y.na y.nl y.nc, .slice y.ka y.kl y.kc] 27)
     rw [Wr, Zw] at this
     exact this
    exact (To (hLv.nd (x1, D1) (by simp)) (hLv.nd (y, D2) (by simp)) hk (by have := xB HX.o.2.1.b0; have := HSzB.o; have := HSzC.o; omega) (Xr t s (some ⟨w3.heap.size + 1, 0, none⟩) 1 1 (some ⟨w9.heap.size, 0, none⟩) 2 2) [DT] [] ⟨rfl, rfl⟩ ⟨rfl, by simp, hLv.kd⟩ ⟨rfl, xZ _, .inl rfl⟩).lower (by omega)
end Go.Proofs.YtbnjllkkhhkkaaaGreatDoor
