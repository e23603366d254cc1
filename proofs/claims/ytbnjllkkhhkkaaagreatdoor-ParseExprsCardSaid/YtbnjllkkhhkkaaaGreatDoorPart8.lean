/- Part. -/
import Derived.Test.YtbnjllkkhhkkaaaGreatDoorPart7
set_option maxRecDepth 100000
set_option maxHeartbeats 4000000
namespace Go.Proofs.YtbnjllkkhhkkaaaGreatDoor
open Tryz
open Go.RowKit
attribute [local go_sem ↓] Go.wp_at_zero Go.wp_at_succ
theorem Z5.regrow {pb tb cap d b : Nat} {ts : List Tok} {w0 w w4 : World} {bx bx' : List (Nat × Obj)} {ns : List (NV × Ty)} {tys : List (Value × Ty)} {g : Option Nat} (h : Z5 pb tb cap d ts w0 w b bx ns tys) (hg : w.grownBy w4 g) (hr : ∀ q, g = some q → w0.heap.size ≤ q)
  (hb : ∀ p ∈ bx', p ∈ bx ∧ g ≠ some p.1) : Z5 pb tb cap d ts w0 w4 b bx' [] [] where
 st := h.st.grown hg h.hp hr
 ps := h.ps.grown hg fun q hq => by have := hr q hq; have := h.hp; omega
 hp := h.hp
 sz := Nat.le_trans h.sz hg.size
 has := fun p hp => ⟨(hg.block _ (xB (h.has p (hb p hp).1).1) (fun e => (hb p hp).2 e.symm)).trans (h.has p (hb p hp).1).1, (h.has p (hb p hp).1).2⟩
 nds := (fun _ h => nomatch h)
 tys := (fun _ h => nomatch h)
theorem zcl (W : World) (n : Nat) (c : List Value) (t : TypeId) (hn : n = W.heap.size) : ∀ j u, c[j]? = some u → (W.alloc (.cells c.toArray t)).cell? ((⟨n, 0, none⟩ : Addr).add j) = some u := by
 subst hn
 exact Uq W c t
abbrev Bx (av : Option Addr) (n cv : Nat) : Value := .agg #[.int .i64 7, .string ⟨#[]⟩, .slice none 0 0, .slice av n cv]
theorem Rk {lo : Nat} {o : Option Nat} {w : World} {v : Value} {cs : List (List Value)} {xs : List Ty} (h : Z8 V3 lo 36 4 o w v cs xs) (hl : xs.length ≤ 8193) : ∃ av cv, v = .slice av xs.length cv ∧ Zt lo w (Bx av xs.length cv) (Z6 7 [] [] xs) := by
 obtain ⟨av, cv, m, e, hcv, hk⟩ := Py h
 exact ⟨av, cv, e, m + 1, 7, ⟨#[]⟩, none, 0, av, cv, [], xs, rfl, rfl, by decide, by decide, (fun _ h => nomatch h), ⟨xR, xZ _⟩, ⟨hcv, by unfold reachBytes; omega⟩, .inl rfl, hk⟩
theorem Ag {lo n cv : Nat} {w : World} {av : Option Addr} {xs : List Ty} (h : Zt lo w (Bx av n cv) (Z6 7 [] [] xs)) : ∃ m, Xw w lo m av xs := by
 obtain ⟨m, h⟩ := h
 cases m with
 | zero => exact h.elim
 | succ m =>
  obtain ⟨k, nm, na, nc, ka, kc, ns, ks, e, e2, _, _, _, _, _, _, h9⟩ := h
  obtain ⟨_, _, _, rfl⟩ := Kf e2
  simp only [Bx, Value.agg.injEq] at e
  have e3 := congrArg (fun a : Array Value => a.getD 3 undef) e
  simp at e3
  obtain ⟨rfl, _, _⟩ := e3
  exact ⟨m, h9⟩
abbrev Tw (t : Tok) (s : List UInt8) (ta : Option Addr) (tl tc kb : Nat) : NV := ⟨6, ⟨s.toArray⟩, 0, t.line, t.col, ta, tl, tc, none, 0, 0, some ⟨kb, 0, none⟩, 1, 1⟩
theorem zbl (pb tb cap d : Nat) (ts : List Tok) (K E : Nat → Pr Ty) (hK : Yg pb tb cap d ts Zt 30 K) (hE : Yg pb tb cap d ts Zo 23 E) (ok : Z0 ts) (a : Nat) (w : World) (h : Ps w pb tb cap ts a d) :
  Calls prog 111 #[.pointer (some ⟨pb, 0, none⟩)] w (Zs pb tb cap ts d w Zo ((Zb ts a [102, 110]).go fun _ b => (Ue ts K b).go fun h b => (Y2 ts K [58] b).go fun y b => (Zb ts b [61, 62]).go fun _ b => (E b).go fun x b => .inl (Zi 6 h.1 0 (Zg ts a).line (Zg ts a).col (h.2 :: if y.2 then [y.1] else []) [] [x], b))) := by
 have H := Za h
 have OK := Za ok
 have hp := h.ltp
 have HE1 := Za hE
 have HK1 := Za hK
 have HM0 := Za (fun w h => Y6 pb tb cap a d ts [102, 110] w h ok)
 obtain ⟨t, ht⟩ := xE (Zg ts a)
 rw [← ht] at HM0 ⊢
 clear ht
 have C0 := Za (Xa h Ze.obj)
 obtain ⟨R, hR⟩ : ∃ R : Pr Ty, R = ((Zb ts a [102, 110]).go fun _ b => (Ue ts K b).go fun h b => (Y2 ts K [58] b).go fun y b => (Zb ts b [61, 62]).go fun _ b => (E b).go fun x b => .inl (Zi 6 h.1 0 t.line t.col (h.2 :: if y.2 then [y.1] else []) [] [x], b)) := ⟨_, rfl⟩
 rw [← hR]
 have HR0 := Za hR
 clear h ok hR hE hK
 obtain ⟨i0, hi, hz0, hz1, hz2⟩ := info_parts Nh
 go_enter func111, ntmps111
 go_wp2_with fail
 refine (HM0.o _ C0.o.ps).mono ?_
 intro e w1 zhm
 rcases Zy zhm with ⟨er, li, co, hr, rfl, hst⟩ | ⟨u, b1, v, hr, rfl, hst, hps, hv⟩
 ·have HE : xQ (R = .inr (er, li, co)) := by rw [HR0.o, hr]; exact rfl
  have HF := Za (C0.o.st.trans hst)
  clear hr hst zhm
  go_wp2_with fail
  exact ⟨rfl, HF.o, by rw [HE.o]⟩
 have HR1 : xQ (R = (Ue ts K b1).go fun h b => (Y2 ts K [58] b).go fun y b => (Zb ts b [61, 62]).go fun _ b => (E b).go fun x b => .inl (Zi 6 h.1 0 t.line t.col (h.2 :: if y.2 then [y.1] else []) [] [x], b)) := by rw [HR0.o, hr]; exact rfl
 subst hv
 have C1 := Za ((C0.o.step hst hps))
 have C2 := Za (C1.o.alloc (Zk t))
 clear hr hst hps zhm  
 go_wp2_with fail
 refine (Hg pb tb cap d ts K HK1.o OK.o b1 _ C2.o.ps).mono ?_
 intro e w2 zhm
 rcases Zy zhm with ⟨er, li, co, hr, rfl, hst⟩ | ⟨hh, b2, v, hr, rfl, hst, hps, hv⟩
 ·have HE : xQ (R = .inr (er, li, co)) := by rw [HR1.o, hr]; exact rfl
  have HF := Za (C2.o.st.trans hst)
  clear hr hst zhm
  go_wp2_with fail
  exact ⟨rfl, HF.o, by rw [HE.o]⟩
 have HR2 : xQ (R = (Y2 ts K [58] b2).go fun y b => (Zb ts b [61, 62]).go fun _ b => (E b).go fun x b => .inl (Zi 6 hh.1 0 t.line t.col (hh.2 :: if y.2 then [y.1] else []) [] [x], b)) := by rw [HR1.o, hr]; exact rfl
 obtain ⟨s, D⟩ := hh
 obtain ⟨u2, rfl, hv⟩ := hv
 obtain ⟨k1, nm1, na1, nl1, nc1, ka1, kl1, kc1, rfl⟩ := hv.cells
 have C3 := Za ((C2.o.step hst hps).addT hv C2.o.sz)
 have C4 := Za (C3.o.alloc (Zq k1 nm1 na1 nl1 nc1 ka1 kl1 kc1))
 clear hr hst hps zhm hv
 have HRw : xQ (Z8 V3 (w.heap.size + 1) 36 4 none ((w2.alloc (Zq k1 nm1 na1 nl1 nc1 ka1 kl1 kc1)).alloc (.cells #[.int .i64 k1, .string nm1, .slice na1 nl1 nc1, .slice ka1 kl1 kc1] 36)) (.slice (some ⟨w2.heap.size + 1, 0, none⟩) 1 1) [[.int .i64 k1, .string nm1, .slice na1 nl1 nc1, .slice ka1 kl1 kc1]] [D]) := by
  have := Mp (B := w.heap.size + 1) (et := 36) (k := 4) (rep := V3) (c := [.int .i64 k1, .string nm1, .slice na1 nl1 nc1, .slice ka1 kl1 kc1]) (x := D) C4.o.t0 (xR) C4.o.sz rfl
  rw [xS] at this
  exact this
 have C5 := Za (C4.o.alloc (.cells #[.int .i64 k1, .string nm1, .slice na1 nl1 nc1, .slice ka1 kl1 kc1] 36))
 go_wp2_with fail
 refine (Nw pb tb cap d ts [58] K HK1.o OK.o b2 _ C5.o.ps).mono ?_
 intro e w3 zhm
 rcases Zy zhm with ⟨er, li, co, hr, rfl, hst⟩ | ⟨y, b3, v, hr, rfl, hst, hps, hv⟩
 ·have HE : xQ (R = .inr (er, li, co)) := by rw [HR2.o, hr]; exact rfl
  have HF := Za (C5.o.st.trans hst)
  clear hr hst zhm
  go_wp2_with fail
  exact ⟨rfl, HF.o, by rw [HE.o]⟩
 have HR3 : xQ (R = (Zb ts b3 [61, 62]).go fun _ b => (E b).go fun x b => .inl (Zi 6 s 0 t.line t.col (D :: if y.2 then [y.1] else []) [] [x], b)) := by rw [HR2.o, hr]; exact rfl
 obtain ⟨D2, okb⟩ := y
 obtain ⟨u4, rfl, hv⟩ := hv
 obtain ⟨k4, nm4, na4, nl4, nc4, ka4, kl4, kc4, rfl⟩ := hv.cells
 have HRw3 := Za (HRw.o.stay hst (by omega))
 have HV4 := Za hv
 have C6 := Za ((C5.o.step hst hps).addT hv C5.o.sz)
 have C7 := Za (C6.o.alloc (Zq k4 nm4 na4 nl4 nc4 ka4 kl4 kc4))
 clear hr hst hps zhm hv
 cases okb with
 | false =>
  have HR4 : xQ (R = (Zb ts b3 [61, 62]).go fun _ b => (E b).go fun x b => .inl (Zi 6 s 0 t.line t.col ([D]) [] [x], b)) := HR3.o
  have HRw4 := Za ((HRw3.o.stay ((Zj.refl pb w3).alloc (by have := C6.o.ps.ltp; exact this) (Zq k4 nm4 na4 nl4 nc4 ka4 kl4 kc4)) (by omega)))
  obtain ⟨av, cv, hve, hu⟩ := Rk HRw4.o (by simp)
  injection hve with hve1 hve2 hve3
  subst hve1 hve3
  have C8 := Za (C7.o.addT hu (xR))
  clear hu hve2
  go_wp2_with fail
  refine (Y6 pb tb cap b3 d ts [61, 62] _ C8.o.ps OK.o).mono ?_
  intro e w4 zhm
  rcases Zy zhm with ⟨er, li, co, hr, rfl, hst⟩ | ⟨u5, b4, v5, hr, rfl, hst, hps, hv⟩
  ·have HE : xQ (R = .inr (er, li, co)) := by rw [HR4.o, hr]; exact rfl
   have HF := Za (C8.o.st.trans hst)
   clear hr hst zhm
   go_wp2_with fail
   exact ⟨rfl, HF.o, by rw [HE.o]⟩
  have HR5 : xQ (R = (E b4).go fun x b => .inl (Zi 6 s 0 t.line t.col [D] [] [x], b)) := by rw [HR4.o, hr]; exact rfl
  have C9 := Za ((C8.o.step hst hps))
  clear hr hst hps zhm hv
  obtain ⟨⟨k0, k1', k2, k3⟩, _, hk1⟩ := Zr C9.o.b3
  go_wp2_with fail
  have hne0 : w1.heap.size ≠ w.heap.size := by have := C1.o.sz; omega
  have hS0 : (((w4).drew).cell? ⟨w1.heap.size, 0, none⟩ = some (.int .i64 t.kind) ∧ ((w4).drew).cell? ⟨w1.heap.size, 1, none⟩ = some (.string ⟨t.text.toArray⟩) ∧ ((w4).drew).cell? ⟨w1.heap.size, 2, none⟩ = some (.int .i64 t.line) ∧ ((w4).drew).cell? ⟨w1.heap.size, 3, none⟩ = some (.int .i64 t.col)) := (Z7 (C9.o.drew.b3))
  have HC : xQ (Calls prog 23 #[.pointer (some ⟨pb, 0, none⟩)] (w4).drew fun e w9 => (∃ chain, e = .panicked chain ∧ Zs pb tb cap ts d w Zo R e w9) ∨ ∃ (y : NV) (D3 : Ty) (b6 : Nat), e = .returned (y.val) ∧ ((w9.cell? ⟨w1.heap.size, 0, none⟩ = some (.int .i64 t.kind) ∧ w9.cell? ⟨w1.heap.size, 1, none⟩ = some (.string ⟨t.text.toArray⟩) ∧ w9.cell? ⟨w1.heap.size, 2, none⟩ = some (.int .i64 t.line) ∧ w9.cell? ⟨w1.heap.size, 3, none⟩ = some (.int .i64 t.col))) ∧ xQ (R = .inl (Zi 6 s 0 t.line t.col [D] [] [D3], b6) ∧ Z5 pb tb cap d ts w w9 b6 [(w3.heap.size, Zq k4 nm4 na4 nl4 nc4 ka4 kl4 kc4), ((w2.alloc (Zq k1 nm1 na1 nl1 nc1 ka1 kl1 kc1)).heap.size, .cells #[.int .i64 k1, .string nm1, .slice na1 nl1 nc1, .slice ka1 kl1 kc1] 36), (w2.heap.size, Zq k1 nm1 na1 nl1 nc1 ka1 kl1 kc1), (w1.heap.size, Zk t), (w.heap.size, Ze.obj)] [(y, D3)] [(Bx (some ⟨w2.heap.size + 1, 0, none⟩) 1 1, Z6 7 [] [] [D]), (.agg #[.int .i64 k4, .string nm4, .slice na4 nl4 nc4, .slice ka4 kl4 kc4], D2), (.agg #[.int .i64 k1, .string nm1, .slice na1 nl1 nc1, .slice ka1 kl1 kc1], D)])) := by
   refine (HE1.o.calls b4 _ C9.o.drew.ps).mono ?_
   intro e w9 zhm
   rcases Zy zhm with ⟨er, li, co, hr, rfl, hst⟩ | ⟨D3, b6, v, hr, rfl, hst, hps, hv⟩
   ·exact .inl ⟨_, rfl, C9.o.drew.st.trans hst, by rw [HR5.o, hr]; rfl⟩
   obtain ⟨y, rfl, hv⟩ := hv
   have CN := (C9.o.drew.step hst hps).addN hv C9.o.drew.sz
   exact .inr ⟨y, D3, b6, rfl, (Z7 (CN.b3)), by rw [HR5.o, hr]; rfl, CN⟩
  go_wp2_with fail
  go_region_held (fun W => (W.cell? ⟨w1.heap.size, 0, none⟩ = some (.int .i64 t.kind) ∧ W.cell? ⟨w1.heap.size, 1, none⟩ = some (.string ⟨t.text.toArray⟩) ∧ W.cell? ⟨w1.heap.size, 2, none⟩ = some (.int .i64 t.line) ∧ W.cell? ⟨w1.heap.size, 3, none⟩ = some (.int .i64 t.col))) (first | with_reducible assumption | with_reducible exact HS3.o _ | with_reducible exact HS4.o _ _ _ _ _ _ _ _) (first
   | (go_at_call 23; refine HC.o.mono ?_; rintro e w9 (⟨ch, rfl, hf⟩ | ⟨y, D3, b6, rfl, t5, HX⟩); exact ⟨rfl, hf⟩; have HS3 : xQ (∀ o, (((w9.alloc o)).cell? ⟨w1.heap.size, 0, none⟩ = some (.int .i64 t.kind) ∧ ((w9.alloc o)).cell? ⟨w1.heap.size, 1, none⟩ = some (.string ⟨t.text.toArray⟩) ∧ ((w9.alloc o)).cell? ⟨w1.heap.size, 2, none⟩ = some (.int .i64 t.line) ∧ ((w9.alloc o)).cell? ⟨w1.heap.size, 3, none⟩ = some (.int .i64 t.col))) := (fun o => (Z7 ((HX.o.2.alloc o).b4))))
   | (go_at_call 171; refine (Vu t ⟨6, ⟨s.toArray⟩, 0, 0, 0, some ⟨w2.heap.size + 1, 0, none⟩, 1, 1, none, 0, 0, some ⟨w9.heap.size, 0, none⟩, 1, 1⟩ _).mono ?_; rintro e w10 ⟨rfl, hb⟩; have HX2 := Za ((HX.o.2.alloc _).below hb); have t6 : (w10.cell? ⟨w1.heap.size, 0, none⟩ = some (.int .i64 t.kind) ∧ w10.cell? ⟨w1.heap.size, 1, none⟩ = some (.string ⟨t.text.toArray⟩) ∧ w10.cell? ⟨w1.heap.size, 2, none⟩ = some (.int .i64 t.line) ∧ w10.cell? ⟨w1.heap.size, 3, none⟩ = some (.int .i64 t.col)) := (Z7 (HX2.o.b4)); have HB8 := Za (Zh (x := Ze) (HX2.o.b5)); obtain ⟨⟨r0, r1, r2, r3, r4, r5, r6, r7⟩, ⟨f0, f1, f2, f3, f4, f5, f6, f7⟩, hr1⟩ := HB8.o; have HS4 : xQ (∀ v0 v1 v2 v3 v4 v5 v6 v7, (((Z2 w10 w.heap.size v0 v1 v2 v3 v4 v5 v6 v7)).cell? ⟨w1.heap.size, 0, none⟩ = some (.int .i64 t.kind) ∧ ((Z2 w10 w.heap.size v0 v1 v2 v3 v4 v5 v6 v7)).cell? ⟨w1.heap.size, 1, none⟩ = some (.string ⟨t.text.toArray⟩) ∧ ((Z2 w10 w.heap.size v0 v1 v2 v3 v4 v5 v6 v7)).cell? ⟨w1.heap.size, 2, none⟩ = some (.int .i64 t.line) ∧ ((Z2 w10 w.heap.size v0 v1 v2 v3 v4 v5 v6 v7)).cell? ⟨w1.heap.size, 3, none⟩ = some (.int .i64 t.col))) := (fun v0 v1 v2 v3 v4 v5 v6 v7 => (Z7 ((Vo hne0 v0 v1 v2 v3 v4 v5 v6 v7).trans (HX2.o.b4)))); clear hb))
  all_goals
   go_wp2_with fail
   rw [HX.o.1]
   refine bodyPost_ret (results_cell_row rfl _ _ w.heap.size 27 _ (0, 0) _ rfl (Yj (x := Tw t s (some ⟨w2.heap.size + 1, 0, none⟩) 1 1 w9.heap.size) HX2.o.b5) underlying27 rfl (by kernel_rfl)) rfl ⟨Yr HX2.o.st hp (xR) (Tw t s (some ⟨w2.heap.size + 1, 0, none⟩) 1 1 w9.heap.size), Yv HX2.o.ps hp (Tw t s (some ⟨w2.heap.size + 1, 0, none⟩) 1 1 w9.heap.size), _, rfl, Tw t s (some ⟨w2.heap.size + 1, 0, none⟩) 1 1 w9.heap.size, rfl, ?_⟩
   exact ((V2 HX2.o.n0 HX2.o.b0 (by have := HX.o.2.sz; omega) (Tw t s (some ⟨w2.heap.size + 1, 0, none⟩) 1 1 w9.heap.size) [D] [] ⟨rfl, rfl⟩ ⟨rfl, by simp, Ag HX2.o.t0⟩ ⟨rfl, xZ _, .inl rfl⟩).put8 (xU _) (Tw t s (some ⟨w2.heap.size + 1, 0, none⟩) 1 1 w9.heap.size)).lower (Nat.le_succ _)
 | true =>
  have HR4 : xQ (R = (Zb ts b3 [61, 62]).go fun _ b => (E b).go fun x b => .inl (Zi 6 s 0 t.line t.col ([D, D2]) [] [x], b)) := HR3.o
  have HRw4 := Za ((HRw3.o.stay ((Zj.refl pb w3).alloc (by have := C6.o.ps.ltp; exact this) (Zq k4 nm4 na4 nl4 nc4 ka4 kl4 kc4)) (by omega)))
  go_wp2_with (at_builtin; refine wpList_append_own_at _ rfl (.tmp 26) (.tmp 28) 23 rfl (w.heap.size + 1) 36 i0 _ 4 72 underlying23 hi hz0 hz1 hz2 rfl (by decide) _ _ _ rfl (HRw4.o.ow.alloc _) ⟨_, 0, none⟩ 1 1 [.int .i64 k4, .string nm4, .slice na4 nl4 nc4, .slice ka4 kl4 kc4] rfl rfl (zcl _ _ _ _ (by simp)) (by simp [Value.oneCell']) (by unfold maxLen; simp) (by simp) (by have := C7.o.sz; simp at this ⊢; omega) ?_)
  intro v' w4 zho zhn _ hloc
  have HR5 := Za (HRw4.o.put (x := D2) (rep := V3) zho zhn (hloc.imp_right fun e => ⟨_, e, by simp⟩) ((Zj.refl pb _).alloc C7.o.ps.ltp _) (by omega) rfl (((Xg.new (rep := V3) HV4.o C5.o.sz fun q hq => HRw.o.all q hq).stay ((Zj.refl pb w3).alloc (by have := C6.o.ps.ltp; exact this) (Zq k4 nm4 na4 nl4 nc4 ka4 kl4 kc4)) (by omega)).stay ((Zj.refl pb _).alloc C7.o.ps.ltp _) (by omega)))
  have C8 := Za ((C7.o.alloc (.cells #[.int .i64 k4, .string nm4, .slice na4 nl4 nc4, .slice ka4 kl4 kc4] 36)).regrow (bx' := [(w1.heap.size, Zk t), (w.heap.size, Ze.obj)]) zhn (fun q hq => by simp [Value.ownBlock] at hq; have := C3.o.sz; omega) (by
   intro p hp
   rcases List.mem_cons.1 hp with rfl | hp
   ·exact ⟨by simp, fun e => by simp [Value.ownBlock] at e; have := (C4.o.b1); have := xB C3.o.b0; omega⟩
   ·rw [List.mem_singleton.1 hp]; exact ⟨by simp, fun e => by simp [Value.ownBlock] at e; have := C3.o.sz; omega⟩))
  obtain ⟨av, cv, rfl, hu⟩ := Rk HR5.o (by simp)
  have C9 := Za (C8.o.addT hu (xR))
  clear hu zho zhn hloc
  go_wp2_with fail
  refine (Y6 pb tb cap b3 d ts [61, 62] _ C9.o.ps OK.o).mono ?_
  intro e w5 zhm
  rcases Zy zhm with ⟨er, li, co, hr, rfl, hst⟩ | ⟨u5, b4, v5, hr, rfl, hst, hps, hv⟩
  ·have HE : xQ (R = .inr (er, li, co)) := by rw [HR4.o, hr]; exact rfl
   have HF := Za (C9.o.st.trans hst)
   clear hr hst zhm
   go_wp2_with fail
   exact ⟨rfl, HF.o, by rw [HE.o]⟩
  have HR5 : xQ (R = (E b4).go fun x b => .inl (Zi 6 s 0 t.line t.col [D, D2] [] [x], b)) := by rw [HR4.o, hr]; exact rfl
  have C10 := Za ((C9.o.step hst hps))
  clear hr hst hps zhm hv
  obtain ⟨⟨k0, k1', k2, k3⟩, _, hk1⟩ := Zr C10.o.b0
  go_wp2_with fail
  have hne0 : w1.heap.size ≠ w.heap.size := by have := C1.o.sz; omega
  have hS0 : (((w5).drew).cell? ⟨w1.heap.size, 0, none⟩ = some (.int .i64 t.kind) ∧ ((w5).drew).cell? ⟨w1.heap.size, 1, none⟩ = some (.string ⟨t.text.toArray⟩) ∧ ((w5).drew).cell? ⟨w1.heap.size, 2, none⟩ = some (.int .i64 t.line) ∧ ((w5).drew).cell? ⟨w1.heap.size, 3, none⟩ = some (.int .i64 t.col)) := (Z7 (C10.o.drew.b0))
  have HC : xQ (Calls prog 23 #[.pointer (some ⟨pb, 0, none⟩)] (w5).drew fun e w9 => (∃ chain, e = .panicked chain ∧ Zs pb tb cap ts d w Zo R e w9) ∨ ∃ (y : NV) (D3 : Ty) (b6 : Nat), e = .returned (y.val) ∧ ((w9.cell? ⟨w1.heap.size, 0, none⟩ = some (.int .i64 t.kind) ∧ w9.cell? ⟨w1.heap.size, 1, none⟩ = some (.string ⟨t.text.toArray⟩) ∧ w9.cell? ⟨w1.heap.size, 2, none⟩ = some (.int .i64 t.line) ∧ w9.cell? ⟨w1.heap.size, 3, none⟩ = some (.int .i64 t.col))) ∧ xQ (R = .inl (Zi 6 s 0 t.line t.col [D, D2] [] [D3], b6) ∧ Z5 pb tb cap d ts w w9 b6 [(w1.heap.size, Zk t), (w.heap.size, Ze.obj)] [(y, D3)] [(Bx av 2 cv, Z6 7 [] [] [D, D2])])) := by
   refine (HE1.o.calls b4 _ C10.o.drew.ps).mono ?_
   intro e w9 zhm
   rcases Zy zhm with ⟨er, li, co, hr, rfl, hst⟩ | ⟨D3, b6, v, hr, rfl, hst, hps, hv⟩
   ·exact .inl ⟨_, rfl, C10.o.drew.st.trans hst, by rw [HR5.o, hr]; rfl⟩
   obtain ⟨y, rfl, hv⟩ := hv
   have CN := (C10.o.drew.step hst hps).addN hv C10.o.drew.sz
   exact .inr ⟨y, D3, b6, rfl, (Z7 (CN.b0)), by rw [HR5.o, hr]; rfl, CN⟩
  go_wp2_with fail
  go_region_held (fun W => (W.cell? ⟨w1.heap.size, 0, none⟩ = some (.int .i64 t.kind) ∧ W.cell? ⟨w1.heap.size, 1, none⟩ = some (.string ⟨t.text.toArray⟩) ∧ W.cell? ⟨w1.heap.size, 2, none⟩ = some (.int .i64 t.line) ∧ W.cell? ⟨w1.heap.size, 3, none⟩ = some (.int .i64 t.col))) (first | with_reducible assumption | with_reducible exact HS3.o _ | with_reducible exact HS4.o _ _ _ _ _ _ _ _) (first
   | (go_at_call 23; refine HC.o.mono ?_; rintro e w9 (⟨ch, rfl, hf⟩ | ⟨y, D3, b6, rfl, t5, HX⟩); exact ⟨rfl, hf⟩; have HS3 : xQ (∀ o, (((w9.alloc o)).cell? ⟨w1.heap.size, 0, none⟩ = some (.int .i64 t.kind) ∧ ((w9.alloc o)).cell? ⟨w1.heap.size, 1, none⟩ = some (.string ⟨t.text.toArray⟩) ∧ ((w9.alloc o)).cell? ⟨w1.heap.size, 2, none⟩ = some (.int .i64 t.line) ∧ ((w9.alloc o)).cell? ⟨w1.heap.size, 3, none⟩ = some (.int .i64 t.col))) := (fun o => (Z7 ((HX.o.2.alloc o).b1))))
   | (go_at_call 171; refine (Vu t ⟨6, ⟨s.toArray⟩, 0, 0, 0, av, 2, cv, none, 0, 0, some ⟨w9.heap.size, 0, none⟩, 1, 1⟩ _).mono ?_; rintro e w10 ⟨rfl, hb⟩; have HX2 := Za ((HX.o.2.alloc _).below hb); have t6 : (w10.cell? ⟨w1.heap.size, 0, none⟩ = some (.int .i64 t.kind) ∧ w10.cell? ⟨w1.heap.size, 1, none⟩ = some (.string ⟨t.text.toArray⟩) ∧ w10.cell? ⟨w1.heap.size, 2, none⟩ = some (.int .i64 t.line) ∧ w10.cell? ⟨w1.heap.size, 3, none⟩ = some (.int .i64 t.col)) := (Z7 (HX2.o.b1)); have HB8 := Za (Zh (x := Ze) (HX2.o.b2)); obtain ⟨⟨r0, r1, r2, r3, r4, r5, r6, r7⟩, ⟨f0, f1, f2, f3, f4, f5, f6, f7⟩, hr1⟩ := HB8.o; have HS4 : xQ (∀ v0 v1 v2 v3 v4 v5 v6 v7, (((Z2 w10 w.heap.size v0 v1 v2 v3 v4 v5 v6 v7)).cell? ⟨w1.heap.size, 0, none⟩ = some (.int .i64 t.kind) ∧ ((Z2 w10 w.heap.size v0 v1 v2 v3 v4 v5 v6 v7)).cell? ⟨w1.heap.size, 1, none⟩ = some (.string ⟨t.text.toArray⟩) ∧ ((Z2 w10 w.heap.size v0 v1 v2 v3 v4 v5 v6 v7)).cell? ⟨w1.heap.size, 2, none⟩ = some (.int .i64 t.line) ∧ ((Z2 w10 w.heap.size v0 v1 v2 v3 v4 v5 v6 v7)).cell? ⟨w1.heap.size, 3, none⟩ = some (.int .i64 t.col))) := (fun v0 v1 v2 v3 v4 v5 v6 v7 => (Z7 ((Vo hne0 v0 v1 v2 v3 v4 v5 v6 v7).trans (HX2.o.b1)))); clear hb))
  all_goals
   go_wp2_with fail
   rw [HX.o.1]
   refine bodyPost_ret (results_cell_row rfl _ _ w.heap.size 27 _ (0, 0) _ rfl (Yj (x := Tw t s (av) 2 cv w9.heap.size) HX2.o.b2) underlying27 rfl (by kernel_rfl)) rfl ⟨Yr HX2.o.st hp (xR) (Tw t s (av) 2 cv w9.heap.size), Yv HX2.o.ps hp (Tw t s (av) 2 cv w9.heap.size), _, rfl, Tw t s (av) 2 cv w9.heap.size, rfl, ?_⟩
   exact ((V2 HX2.o.n0 HX2.o.b0 (by have := HX.o.2.sz; omega) (Tw t s (av) 2 cv w9.heap.size) [D, D2] [] ⟨rfl, rfl⟩ ⟨rfl, by simp, Ag HX2.o.t0⟩ ⟨rfl, xZ _, .inl rfl⟩).put8 (xU _) (Tw t s (av) 2 cv w9.heap.size)).lower (Nat.le_succ _)
def Po (lo : Nat) (w : World) (c : List Value) (D : Ty) : Prop := Zo lo w (.agg c.toArray) D
theorem A0 : Qj Po where
 keep := fun ⟨x, e, h⟩ hs hk => ⟨x, e, h.keep hs hk⟩
 lower := fun ⟨x, e, h⟩ hl => ⟨x, e, h.lower hl⟩
theorem Re {lo : Nat} {w : World} {x1 : NV} {D : Ty} (h : Zv lo w x1 D) : Po lo w [.int .i64 x1.k, .string x1.tx, .int .i64 x1.N, .int .i64 x1.li, .int .i64 x1.co, .slice x1.ta x1.tl x1.tc, .slice x1.na x1.nl x1.nc, .slice x1.ka x1.kl x1.kc] D := ⟨x1, rfl, h⟩
theorem Fk : (prog.info? 27).map (fun i => (i.zero, i.size, i.bytes)) = some (some Ze.val, 8, 120) := by kernel_rfl
def Fm (lo : Nat) (w : World) (v : Value) (l : List (List UInt8 × Ty)) : Prop := ∃ vn vv cn cv, v = .tuple #[vn, vv] ∧ Z8 Va lo 9 1 vv.ownBlock w vn cn (l.map (·.1)) ∧ Z8 Po lo 27 8 vn.ownBlock w vv cv (l.map (·.2))
theorem Rn (pb tb cap d : Nat) (ts : List Tok) (g : Nat) (K : Nat → Pr Ty) (hg : Yg pb tb cap d ts Zo g K)
  (f a : Nat) (hf : ts.length ≤ a + (f + 1)) (w : World) (h : Ps w pb tb cap ts a d) (ok : Z0 ts) :
  Calls prog 233 #[.pointer (some ⟨pb, 0, none⟩), .func (.func g) #[] #[]] w (Zs pb tb cap ts d w Fm (Vp ts K (f + 1) a)) := by
 have H := Za h
 have OK := Za ok
 have HG := Za hg
 have hen := hg.enters
 clear h ok hg
 have HT := Za (Xb pb tb cap a d ts [125] w H.o OK.o)
 have HF := Za hf
 clear hf
 obtain ⟨R, hR⟩ := xE (Vp ts K (f + 1) a)
 rw [← hR]
 obtain ⟨sb, hsb⟩ := xE (Zc ts a [125])
 rw [← hsb] at HT
 have HR := Za hR
 have HSB := Za hsb
 clear hR hsb
 have hnot : ∀ (x : Bool) (w : World), (Op.unary .not (.bool x)).run prog w = .ok (.bool (!x)) w := fun _ _ => rfl
 obtain ⟨i0, hi, hz0, hz1, hz2⟩ := info_parts Fk
 obtain ⟨s0, si, sz0, sz1, sz2⟩ := info_parts B5
 go_enter func233, ntmps233
 go_wp2_with fail
 refine HT.o.mono ?_
 rintro e w1 ⟨rfl, hst, hps⟩
 have HST := Za hst
 have HP := Za hps
 clear hst hps
 go_wp2_with fail
 go_loopg [6, 7, 8] (ts.length + 2) (fun gk vn vv mo wr => ∃ (b m : Nat) (cn cv : List (List Value)) (acc : List (List UInt8 × Ty)) (ns : List (List UInt8)) (ks : List Ty) (mb : Bool), mo = .bool mb ∧ xQ (ns = acc.map (·.1) ∧ ks = acc.map (·.2)) ∧ xQ (Z8 Va w.heap.size 9 1 vv.ownBlock wr vn cn ns) ∧ xQ (Z8 Po w.heap.size 27 8 vn.ownBlock wr vv cv ks) ∧ xQ (Zj pb w wr) ∧ xQ (Ps wr pb tb cap ts b d) ∧ xQ (acc.length ≤ b) ∧ xQ (ts.length ≤ b + (m + 1)) ∧ xQ (mb = true → Ub ts K R acc (m + 1) b ∧ ts.length - b + 1 ≤ gk) ∧ xQ (mb = false → R = .inl (acc, b)))
 case atStart =>
  refine ⟨_, f, [], [], [], [], [], _, rfl, ⟨rfl, rfl⟩, T0 _ _ _ _ _, T0 _ _ _ _ _, HST, HP, xZ _, ?_, fun h => ?_, fun h => ?_⟩
  ·have := HF.o
   show _ ≤ _
   split <;> omega
  ·have hs : sb = false := by simpa using h
   rw [hs] at HSB ⊢
   exact ⟨by rw [HR.o]; exact Sa HSB.o.symm, by have := HF.o; simp; omega⟩
  ·have hs : sb = true := by simpa using h
   rw [hs] at HSB ⊢
   rw [HR.o]
   exact J0 HSB.o.symm
 case round =>
  clear HST HP HT HR HSB
  obtain ⟨b, m, cn, cv, acc, ns, ks, mb, rfl, HNS, HN, HV, HSt, HPs, HAc, HLe, HTr, HFa⟩ := hrel
  cases mb with
  | false =>
   have HE := Za (HFa.o rfl)
   clear HFa HTr
   go_wp2_with fail
   refine bodyPost_ret (Gu rfl _ _ _) rfl ?_
   rw [HE.o]
   exact ⟨HSt.o, HPs.o, _, rfl, _, _, cn, cv, rfl, HNS.o.1 ▸ HN.o, HNS.o.2 ▸ HV.o⟩
  | true =>
   have HFi := Za (HTr.o rfl).1
   have hgk := (HTr.o rfl).2
   clear HFa HTr
   obtain ⟨av, lv, rfl⟩ := Vb HN.o.ow
   obtain ⟨av2, lv2, rfl⟩ := Vb HV.o.ow
   have HO := Za (Ts pb tb cap b d ts wr HPs.o OK.o)
   cases hn : Zm ts b with
   | inr x =>
    obtain ⟨er, li, co⟩ := x
    have HE := Za (Df HFi.o hn)
    rw [hn] at HO
    clear hn
    go_wp2_with fail
    refine HO.o.mono ?_
    rintro e w2 ⟨hst, rfl⟩
    have HST := Za (HSt.o.trans hst)
    clear hst
    go_wp2_with fail
    rw [HE.o]
    exact ⟨rfl, HST.o, rfl⟩
   | inl x =>
    obtain ⟨s, b1⟩ := x
    have HNa := Za hn
    have hb1 := Pb hn
    rw [hn] at HO
    clear hn
    have hac : acc.length ≤ 8193 := by have := HAc.o; have := OK.o.len; have := HPs.o.lt; omega
    have hac1 : ns.length ≤ 8193 := by rw [HNS.o.1]; simpa using hac
    have hac2 : ks.length ≤ 8193 := by rw [HNS.o.2]; simpa using hac
    go_wp2_with fail
    refine HO.o.mono ?_
    rintro e w2 ⟨hst, hps, v, rfl, rfl⟩
    have HST := Za (HSt.o.trans hst)
    have HPS := Za hps
    have HN2 := Za (HN.o.stay hst H.o.ltp)
    have HV2 := Za (HV.o.stay hst H.o.ltp)
    clear hst hps
    go_wp2_with (at_builtin; refine wpList_append_own_at _ rfl (.tmp 19) (.tmp 24) 24 rfl w.heap.size 9 s0 _ 1 16 underlying24 si sz0 sz1 sz2 rfl (by decide) _ _ _ rfl (HN2.o.ow.alloc _) ⟨_, 0, none⟩ 1 1 [.string ⟨s.toArray⟩] rfl rfl (Uq _ _ _) (by simp [Value.oneCell']) (by unfold maxLen; omega) (by omega) (by have := HST.o.size; simp; omega) ?_)
    intro vn' w4 zho zhn _ hloc
    have HN4 := Za (HN2.o.put (x := s) (rep := Va) zho zhn (hloc.imp_right fun e => ⟨_, e, by simp⟩) ((Zj.refl pb w2).alloc HPS.o.ltp _) H.o.ltp rfl ((Xg.new (rep := Va) (lo := w2.heap.size) rfl HST.o.size fun q hq => HN2.o.all q hq).stay ((Zj.refl pb w2).alloc HPS.o.ltp _) H.o.ltp))
    have HV4 := Za ((HV2.o.stay ((Zj.refl pb w2).alloc HPS.o.ltp _) H.o.ltp).beside (o' := vn'.ownBlock) zhn (hloc.imp_right fun e => ⟨_, e, by simp, (zho.lt _ e).2⟩) (by have := HST.o.size; simp; omega))
    have HST4 : xQ (Zj pb w w4) := (HST.o.alloc H.o.ltp _).grown zhn H.o.ltp fun q hq => (HN2.o.own q hq).1
    have HPS4 : xQ (Ps w4 pb tb cap ts b1 d) := (HPS.o.alloc _).grown zhn fun q hq => xT H.o.ltp (HN2.o.own q hq).1
    obtain ⟨av3, lv3, rfl⟩ := Vb zho
    clear zho zhn hloc HN2 HV2 HST HPS
    have HM := Za (Y6 pb tb cap b1 d ts [58] w4 HPS4.o OK.o)
    cases hm : Zb ts b1 [58] with
    | inr x =>
     obtain ⟨er, li, co⟩ := x
     have HE := Za (Aa HFi.o HNa.o hm)
     rw [hm] at HM
     clear hm
     go_wp2_with fail
     refine HM.o.mono ?_
     rintro e w5 ⟨hst, rfl⟩
     have HST5 := Za (HST4.o.trans hst)
     clear hst
     go_wp2_with fail
     rw [HE.o]
     exact ⟨rfl, HST5.o, rfl⟩
    | inl x =>
     obtain ⟨u, b2⟩ := x
     have HWa := Za hm
     have hb2 := Bm hm
     rw [hm] at HM
     clear hm
     go_wp2_with fail
     refine HM.o.mono ?_
     rintro e w5 ⟨hst, hps, v, rfl, _⟩
     have HST5 := Za (HST4.o.trans hst)
     have HPS5 := Za hps
     have HN5 := Za (HN4.o.stay hst H.o.ltp)
     have HV5 := Za (HV4.o.stay hst H.o.ltp)
     clear hst hps HM
     have HO2 := Za (HG.o.calls b2 w5 HPS5.o)
     cases ho : K b2 with
     | inr x =>
      obtain ⟨er, li, co⟩ := x
      have HE := Za (St HFi.o HNa.o HWa.o ho)
      rw [ho] at HO2
      clear ho
      go_wp2_with fail
      refine HO2.o.mono ?_
      rintro e w6 ⟨hst, rfl⟩
      have HST6 := Za (HST5.o.trans hst)
      clear hst
      go_wp2_with fail
      rw [HE.o]
      exact ⟨rfl, HST6.o, rfl⟩
     | inl x =>
      obtain ⟨D1, b3⟩ := x
      have HKo := Za ho
      have hb3 := HG.o.up _ _ _ ho
      rw [ho] at HO2
      clear ho
      go_wp2_with fail
      refine HO2.o.mono ?_
      rintro e w6 ⟨hst, hps, v, rfl, hv⟩
      obtain ⟨x1, rfl, hv⟩ := hv
      have HST6 := Za (HST5.o.trans hst)
      have HPS6 := Za hps
      have HN6 := Za (HN5.o.stay hst H.o.ltp)
      have HV6 := Za (HV5.o.stay hst H.o.ltp)
      have HVal := Za hv
      clear hst hps hv
      go_wp2_with (at_builtin; refine wpList_append_own_at _ rfl (.tmp 30) (.tmp 34) 25 rfl w.heap.size 27 i0 _ 8 120 underlying25 hi hz0 hz1 hz2 rfl (by decide) _ _ _ rfl (HV6.o.ow.alloc _) ⟨_, 0, none⟩ 1 1 [.int .i64 x1.k, .string x1.tx, .int .i64 x1.N, .int .i64 x1.li, .int .i64 x1.co, .slice x1.ta x1.tl x1.tc, .slice x1.na x1.nl x1.nc, .slice x1.ka x1.kl x1.kc] rfl rfl (Uq _ _ _) (by simp [Value.oneCell']) (by unfold maxLen; omega) (by omega) (by have := HST6.o.size; simp; omega) ?_)
      intro vv' w7 zho zhn _ hloc
      have HV7 := Za (HV6.o.put (x := D1) (rep := Po) zho zhn (hloc.imp_right fun e => ⟨_, e, by simp⟩) ((Zj.refl pb w6).alloc HPS6.o.ltp _) H.o.ltp rfl ((Xg.new (rep := Po) (Re HVal.o) HST5.o.size fun q hq => HV5.o.all q hq).stay ((Zj.refl pb w6).alloc HPS6.o.ltp _) H.o.ltp))
      have HN7 := Za ((HN6.o.stay ((Zj.refl pb w6).alloc HPS6.o.ltp _) H.o.ltp).beside (o' := vv'.ownBlock) zhn (hloc.imp_right fun e => ⟨_, e, by simp, (zho.lt _ e).2⟩) (by have := HST6.o.size; simp; omega))
      have HST7 : xQ (Zj pb w w7) := (HST6.o.alloc H.o.ltp _).grown zhn H.o.ltp fun q hq => (HV6.o.own q hq).1
      have HPS7 : xQ (Ps w7 pb tb cap ts b3 d) := (HPS6.o.alloc _).grown zhn fun q hq => xT H.o.ltp (HV6.o.own q hq).1
      clear zho zhn hloc HO2
      have HGo := Za (S3 pb tb cap b3 d ts [44] [125] w7 HPS7.o OK.o)
      cases hg : Qx ts b3 [44] [125] with
      | inr x =>
       obtain ⟨er, li, co⟩ := x
       have HE := Za (Ff HFi.o HNa.o HWa.o HKo.o hg)
       rw [hg] at HGo
       clear hg
       go_wp2_with fail
       refine HGo.o.mono ?_
       rintro e w8 ⟨hst, rfl⟩
       have HST8 := Za (HST7.o.trans hst)
       clear hst
       go_wp2_with fail
       rw [HE.o]
       exact ⟨rfl, HST8.o, rfl⟩
      | inl x =>
       obtain ⟨gb, b4⟩ := x
       have HGoe := Za hg
       rw [hg] at HGo
       clear hg
       go_wp2_with fail
       refine HGo.o.mono ?_
       rintro e w8 ⟨hst, hps, v, rfl, rfl⟩
       have HST8 := Za (HST7.o.trans hst)
       have HPS8 := Za hps
       have HN8 := Za (HN7.o.stay hst H.o.ltp)
       have HV8 := Za (HV7.o.stay hst H.o.ltp)
       clear hst hps HGo
       go_wp2_with fail
       have hb4 : b3 ≤ b4 := by
        cases gb with
        | true => have := (L5 HFi.o HNa.o HWa.o HKo.o HGoe.o).2; omega
        | false => exact (Jb HFi.o HNa.o HWa.o HKo.o HGoe.o).2
       go_roundg (ts.length - b4 + 1)
       case measure => have := HPS8.o.lt; omega
       case rel =>
        refine ⟨b4, m - 1, _, _, acc ++ [(s, D1)], _, _, gb, rfl, ⟨?_, ?_⟩, HN8, HV8, HST8, HPS8, ?_, ?_, fun h => ?_, fun h => ?_⟩
        ·rw [HNS.o.1]; simp
        ·rw [HNS.o.2]; simp
        ·have := HAc.o
         show (acc ++ [(s, D1)]).length ≤ b4
         simp
         omega
        ·have := HLe.o
         show _ ≤ _
         omega
        ·subst h
         have h1 := (L5 HFi.o HNa.o HWa.o HKo.o HGoe.o)
         have := HPS8.o.lt
         have := HLe.o
         obtain ⟨q, rfl⟩ : ∃ q, m = q + 1 := ⟨m - 1, by omega⟩
         exact ⟨h1.1, xR⟩
        ·subst h
         exact (Jb HFi.o HNa.o HWa.o HKo.o HGoe.o).1
theorem D6 {lo : Nat} {w : World} : ∀ (l : List (Value × Ty)), (∀ p ∈ l, Zo lo w p.1 p.2) → ∃ m, ∀ p ∈ l, ∃ x : NV, p.1 = x.val ∧ Um w lo m x p.2
 | [], _ => ⟨0, fun _ h => nomatch h⟩
 | p :: l, h => by
  obtain ⟨x, e, m1, h1⟩ := h p (xM ..)
  obtain ⟨m2, h2⟩ := D6 l fun q hq => h q (xW _ hq)
  refine ⟨max m1 m2, fun q hq => ?_⟩
  rcases List.mem_cons.1 hq with rfl | hq
  ·exact ⟨x, e, Qh h1 (Nat.le_max_left _ _)⟩
  ·obtain ⟨y, e2, h3⟩ := h2 q hq
   exact ⟨y, e2, Qh h3 (Nat.le_max_right _ _)⟩
theorem Dd {B et : Nat} {o : Option Nat} {wx : World} {v : Value} {cs : List (List Value)} {xs : List Ty} (h : Z8 Po B et 8 o wx v cs xs) : ∃ (a : Option Addr) (cap m : Nat), v = .slice a xs.length cap ∧ xs.length ≤ cap ∧ Mu wx B m a xs := by
 obtain ⟨a, cap, e, hcap, hr⟩ := h.form A0
 have hall : ∀ p ∈ (cs.map fun c => (Value.agg c.toArray)).zip xs, Zo B wx p.1 p.2 := by
  intro p hp
  obtain ⟨i, hi, rfl⟩ := List.mem_iff_getElem.1 hp
  simp only [List.getElem_zip, List.getElem_map]
  simp only [List.length_zip, List.length_map] at hi
  exact (h.made i (by omega) (by omega)).now A0
 obtain ⟨m, hm⟩ := D6 _ hall
 refine ⟨a, cap, m, e, hcap, ?_⟩
 rcases h.ow.2 with ⟨e2, h0⟩ | ⟨g, cap2, cur, e2, hg, hh, _⟩
 ·exact .inl (List.length_eq_zero_iff.1 h0)
 ·rw [e] at e2
  injection e2 with e3 e4 e5
  refine .inr ⟨g, 0, e3, hg, ⟨_, _, hh⟩, fun i hi => ?_⟩
  have hi' : i < cs.length := by rw [h.len]; exact hi
  obtain ⟨x, ex, hT⟩ := hm (.agg cs[i].toArray, xs[i]) (List.mem_iff_getElem.2 ⟨i, by simp; omega, by simp⟩)
  have zhq : ∀ j, j < 8 → wx.cell? ⟨g, 0 + i * 8 + j, none⟩ = cs[i][j]? := by
   intro j hj
   have ho := h.ow
   rw [e, e3] at ho
   rw [show 0 + i * 8 + j = i * 8 + j by omega, ho.cellAt (i * 8 + j) (by omega)]
   exact Lt cs h.each i hi' j hj
  have hcs : cs[i] = [.int .i64 x.k, .string x.tx, .int .i64 x.N, .int .i64 x.li, .int .i64 x.co, .slice x.ta x.tl x.tc, .slice x.na x.nl x.nc, .slice x.ka x.kl x.kc] := by
   have ex' : Value.agg cs[i].toArray = x.val := ex
   injection ex' with ex'
   simpa using congrArg Array.toList ex'
  rw [hcs] at zhq
  exact ⟨x, ⟨zhq 0 (by omega), zhq 1 (by omega), zhq 2 (by omega), zhq 3 (by omega), zhq 4 (by omega), zhq 5 (by omega), zhq 6 (by omega), zhq 7 (by omega)⟩, hT⟩
abbrev Qk (na : Option Addr) (nl nc : Nat) (ka : Option Addr) (kl kc : Nat) : NV := ⟨8, ⟨#[]⟩, 0, 0, 0, none, 0, 0, na, nl, nc, ka, kl, kc⟩
abbrev Qr (s : List UInt8) (kb : Nat) : NV := ⟨10, ⟨s.toArray⟩, 0, 0, 0, none, 0, 0, none, 0, 0, some ⟨kb, 0, none⟩, 2, 2⟩
theorem Fd {lo : Nat} {w : World} {l : List (List UInt8 × Ty)} {vf : Value} (h : Fm lo w vf l) (hl : l.length ≤ 8193) : ∃ a c a' c', vf = .tuple #[.slice a l.length c, .slice a' l.length c'] ∧ Zv lo w (Qk a l.length c a' l.length c') (Zi 8 [] 0 0 0 [] (l.map (·.1)) (l.map (·.2))) := by
 obtain ⟨vn, vv, cn, cv, rfl, h1, h2⟩ := h
 obtain ⟨a, c, rfl, hc, hN⟩ := Le h1
 obtain ⟨a', c', m, rfl, hc', hK⟩ := Dd h2
 refine ⟨a, c, a', c', by simp, m + 1, [], l.map (·.1), l.map (·.2), rfl, ⟨rfl, by simp, by simp⟩, ⟨xZ _, ?_, ?_⟩, .inl rfl, hN, hK⟩
 ·simp only [List.length_map]; omega
 ·simp only [List.length_map]; omega
theorem zau (pb tb cap d : Nat) (ts : List Tok) (E : Nat → Pr Ty) (hE : Yg pb tb cap d ts Zo 23 E) (ok : Z0 ts) (a : Nat) (h1 : Zc ts a [125] = true) (w : World) (h : Ps w pb tb cap ts a d) :
  Calls prog 230 #[.pointer (some ⟨pb, 0, none⟩)] w (Zs pb tb cap ts d w Zo ((Vp ts E ts.length a).go fun l b => .inl (Zi 8 [] 0 0 0 [] (l.map (·.1)) (l.map (·.2)), b))) := by
 have H := Za h
 have OK := Za ok
 have hp := h.ltp
 have HE1 := Za hE
 have HS1 := Za h1
 obtain ⟨ff, hff⟩ : ∃ f, f + 1 = ts.length := ⟨ts.length - 1, by have := ok.pos; omega⟩
 have C0 := Za (Xa h Ze.obj)
 rw [← hff]
 obtain ⟨R, hR⟩ : ∃ R : Pr Ty, R = ((Vp ts E (ff + 1) a).go fun l b => .inl (Zi 8 [] 0 0 0 [] (l.map (·.1)) (l.map (·.2)), b)) := ⟨_, rfl⟩
 rw [← hR]
 have HR0 := Za hR
 clear h ok hR hE h1
 go_enter func230, ntmps230
 go_wp2_with fail
 refine (Y3 pb tb cap a _ 1 ts [[125]] _ _ C0.o.ps.rd (by simp) (by simp)).mono ?_
 rw [Xi, HS1.o]
 rintro e w1 ⟨rfl, hb⟩
 have C1 := Za (C0.o.below hb)
 clear hb
 go_wp2_with fail
 refine (Rn pb tb cap d ts 23 E HE1.o ff a (by omega) _ C1.o.ps OK.o).mono ?_
 intro e w2 zhm
 rcases Zy zhm with ⟨er, li, co, hr, rfl, hst⟩ | ⟨l, b, v, hr, rfl, hst, hps, hv⟩
 ·have HE : xQ (R = .inr (er, li, co)) := by rw [HR0.o, hr]; exact rfl
  have HF := Za (C1.o.st.trans hst)
  clear hr hst zhm
  go_wp2_with fail
  exact ⟨rfl, HF.o, by rw [HE.o]⟩
 have HR1 : xQ (R = .inl (Zi 8 [] 0 0 0 [] (l.map (·.1)) (l.map (·.2)), b)) := by rw [HR0.o, hr]; exact rfl
 obtain ⟨na, nc, ka, kc, rfl, hv2⟩ := Fd hv (by have := (J8 OK.o hr).1; have := OK.o.len; omega)
 have C2 := Za ((C1.o.step hst hps).addN hv2 C1.o.sz)
 clear hr hst hps zhm hv hv2
 obtain ⟨⟨r0, r1, r2, r3, r4, r5, r6, r7⟩, ⟨f0, f1, f2, f3, f4, f5, f6, f7⟩, hr1⟩ := Zh (x := Ze) (C2.o.b0)
 go_wp2_with fail
 rw [HR1.o]
 refine bodyPost_ret (results_cell_row rfl _ _ w.heap.size 27 _ (0, 0) _ rfl (Yj (x := Qk na l.length nc ka l.length kc) C2.o.b0) underlying27 rfl (by kernel_rfl)) rfl ⟨Yr C2.o.st hp (xR) (Qk na l.length nc ka l.length kc), Yv C2.o.ps hp (Qk na l.length nc ka l.length kc), _, rfl, Qk na l.length nc ka l.length kc, rfl, ?_⟩
 exact ((C2.o.n0).put8 (xU _) (Qk na l.length nc ka l.length kc)).lower (Nat.le_succ _)
theorem zgp (pb tb cap d : Nat) (ts : List Tok) (E : Nat → Pr Ty) (hE : Yg pb tb cap d ts Zo 23 E) (ok : Z0 ts) (a : Nat) (h1 : Zc ts a [125] = false) (h2 : ((Zg ts a).kind == 1 && Zc ts (a + 1) [58]) = true) (w : World) (h : Ps w pb tb cap ts a d) :
  Calls prog 230 #[.pointer (some ⟨pb, 0, none⟩)] w (Zs pb tb cap ts d w Zo ((Vp ts E ts.length a).go fun l b => .inl (Zi 8 [] 0 0 0 [] (l.map (·.1)) (l.map (·.2)), b))) := by
 have H := Za h
 have OK := Za ok
 have hp := h.ltp
 have HE1 := Za hE
 have HS1 := Za h1
 have HB1 := Za (fun w h => Gg pb tb cap a d ts w h ok)
 rw [h2] at HB1
 obtain ⟨ff, hff⟩ : ∃ f, f + 1 = ts.length := ⟨ts.length - 1, by have := ok.pos; omega⟩
 have C0 := Za (Xa h Ze.obj)
 rw [← hff]
 obtain ⟨R, hR⟩ : ∃ R : Pr Ty, R = ((Vp ts E (ff + 1) a).go fun l b => .inl (Zi 8 [] 0 0 0 [] (l.map (·.1)) (l.map (·.2)), b)) := ⟨_, rfl⟩
 rw [← hR]
 have HR0 := Za hR
 clear h ok hR hE h1 h2
 go_enter func230, ntmps230
 go_wp2_with fail
 refine (Y3 pb tb cap a _ 1 ts [[125]] _ _ C0.o.ps.rd (by simp) (by simp)).mono ?_
 rw [Xi, HS1.o]
 rintro e w1 ⟨rfl, hb⟩
 have C1 := Za (C0.o.below hb)
 clear hb
 go_wp2_with fail
 refine (HB1.o _ C1.o.ps).mono ?_
 rintro e w2 ⟨rfl, hb⟩
 have C2 := Za (C1.o.below hb)
 clear hb
 go_wp2_with fail
 refine (Rn pb tb cap d ts 23 E HE1.o ff a (by omega) _ C2.o.ps OK.o).mono ?_
 intro e w3 zhm
 rcases Zy zhm with ⟨er, li, co, hr, rfl, hst⟩ | ⟨l, b, v, hr, rfl, hst, hps, hv⟩
 ·have HE : xQ (R = .inr (er, li, co)) := by rw [HR0.o, hr]; exact rfl
  have HF := Za (C2.o.st.trans hst)
  clear hr hst zhm
  go_wp2_with fail
  exact ⟨rfl, HF.o, by rw [HE.o]⟩
 have HR1 : xQ (R = .inl (Zi 8 [] 0 0 0 [] (l.map (·.1)) (l.map (·.2)), b)) := by rw [HR0.o, hr]; exact rfl
 obtain ⟨na, nc, ka, kc, rfl, hv2⟩ := Fd hv (by have := (J8 OK.o hr).1; have := OK.o.len; omega)
 have C3 := Za ((C2.o.step hst hps).addN hv2 C2.o.sz)
 clear hr hst hps zhm hv hv2
 obtain ⟨⟨r0, r1, r2, r3, r4, r5, r6, r7⟩, ⟨f0, f1, f2, f3, f4, f5, f6, f7⟩, hr1⟩ := Zh (x := Ze) (C3.o.b0)
 go_wp2_with fail
 rw [HR1.o]
 refine bodyPost_ret (results_cell_row rfl _ _ w.heap.size 27 _ (0, 0) _ rfl (Yj (x := Qk na l.length nc ka l.length kc) C3.o.b0) underlying27 rfl (by kernel_rfl)) rfl ⟨Yr C3.o.st hp (xR) (Qk na l.length nc ka l.length kc), Yv C3.o.ps hp (Qk na l.length nc ka l.length kc), _, rfl, Qk na l.length nc ka l.length kc, rfl, ?_⟩
 exact ((C3.o.n0).put8 (xU _) (Qk na l.length nc ka l.length kc)).lower (Nat.le_succ _)
theorem Ei (pb tb cap d : Nat) (ts : List Tok) (E : Nat → Pr Ty) (hE : Yg pb tb cap d ts Zo 23 E) (ok : Z0 ts) (a : Nat) (h1 : Zc ts a [125] = false) (h2 : ((Zg ts a).kind == 1 && Zc ts (a + 1) [58]) = false) (w : World) (h : Ps w pb tb cap ts a d) :
  Calls prog 230 #[.pointer (some ⟨pb, 0, none⟩)] w (Zs pb tb cap ts d w Zo ((E a).go fun x b => (Zb ts b [119, 105, 116, 104]).go fun _ b => (Zm ts b).go fun s b => (Zb ts b [58]).go fun _ b => (E b).go fun y b => (Zb ts b [125]).go fun _ b => .inl (Zi 10 s 0 0 0 [] [] [x, y], b))) := by
 have H := Za h
 have OK := Za ok
 have hp := h.ltp
 have HE1 := Za hE
 have HS1 := Za h1
 have HB1 := Za (fun w h => Gg pb tb cap a d ts w h ok)
 rw [h2] at HB1
 have C0 := Za (Xa h Ze.obj)
 obtain ⟨R, hR⟩ : ∃ R : Pr Ty, R = ((E a).go fun x b => (Zb ts b [119, 105, 116, 104]).go fun _ b => (Zm ts b).go fun s b => (Zb ts b [58]).go fun _ b => (E b).go fun y b => (Zb ts b [125]).go fun _ b => .inl (Zi 10 s 0 0 0 [] [] [x, y], b)) := ⟨_, rfl⟩
 rw [← hR]
 have HR0 := Za hR
 clear h ok hR hE h1 h2
 go_enter func230, ntmps230
 go_wp2_with fail
 refine (Y3 pb tb cap a _ 1 ts [[125]] _ _ C0.o.ps.rd (by simp) (by simp)).mono ?_
 rw [Xi, HS1.o]
 rintro e w1 ⟨rfl, hb⟩
 have C1 := Za (C0.o.below hb)
 clear hb
 go_wp2_with fail
 refine (HB1.o _ C1.o.ps).mono ?_
 rintro e w2 ⟨rfl, hb⟩
 have C2 := Za (C1.o.below hb)
 clear hb
 go_wp2_with fail
 refine (HE1.o.calls a _ C2.o.ps).mono ?_
 intro e w3 zhm
 rcases Zy zhm with ⟨er, li, co, hr, rfl, hst⟩ | ⟨D1, b1, v, hr, rfl, hst, hps, hv⟩
 ·have HE : xQ (R = .inr (er, li, co)) := by rw [HR0.o, hr]; exact rfl
  have HF := Za (C2.o.st.trans hst)
  clear hr hst zhm
  go_wp2_with fail
  exact ⟨rfl, HF.o, by rw [HE.o]⟩
 have HR1 : xQ (R = (Zb ts b1 [119, 105, 116, 104]).go fun _ b => (Zm ts b).go fun s b => (Zb ts b [58]).go fun _ b => (E b).go fun y b => (Zb ts b [125]).go fun _ b => .inl (Zi 10 s 0 0 0 [] [] [D1, y], b)) := by rw [HR0.o, hr]; exact rfl
 obtain ⟨x1, rfl, hv⟩ := hv
 have C3 := Za ((C2.o.step hst hps).addN hv C2.o.sz)
 have C4 := Za (C3.o.alloc (x1.obj))
 clear hr hst hps zhm hv
 go_wp2_with fail
 refine (Y6 pb tb cap b1 d ts [119, 105, 116, 104] _ C4.o.ps OK.o).mono ?_
 intro e w4 zhm
 rcases Zy zhm with ⟨er, li, co, hr, rfl, hst⟩ | ⟨u2, b2, v2, hr, rfl, hst, hps, hv⟩
 ·have HE : xQ (R = .inr (er, li, co)) := by rw [HR1.o, hr]; exact rfl
  have HF := Za (C4.o.st.trans hst)
  clear hr hst zhm
  go_wp2_with fail
  exact ⟨rfl, HF.o, by rw [HE.o]⟩
 have HR2 : xQ (R = (Zm ts b2).go fun s b => (Zb ts b [58]).go fun _ b => (E b).go fun y b => (Zb ts b [125]).go fun _ b => .inl (Zi 10 s 0 0 0 [] [] [D1, y], b)) := by rw [HR1.o, hr]; exact rfl
 have C5 := Za ((C4.o.step hst hps))
 clear hr hst hps zhm hv
 go_wp2_with fail
 refine (Ts pb tb cap b2 d ts _ C5.o.ps OK.o).mono ?_
 intro e w5 zhm
 rcases Zy zhm with ⟨er, li, co, hr, rfl, hst⟩ | ⟨s, b3, v3, hr, rfl, hst, hps, hv⟩
 ·have HE : xQ (R = .inr (er, li, co)) := by rw [HR2.o, hr]; exact rfl
  have HF := Za (C5.o.st.trans hst)
  clear hr hst zhm
  go_wp2_with fail
  exact ⟨rfl, HF.o, by rw [HE.o]⟩
 have HR3 : xQ (R = (Zb ts b3 [58]).go fun _ b => (E b).go fun y b => (Zb ts b [125]).go fun _ b => .inl (Zi 10 s 0 0 0 [] [] [D1, y], b)) := by rw [HR2.o, hr]; exact rfl
 subst hv
 have C6 := Za ((C5.o.step hst hps))
 clear hr hst hps zhm  
 go_wp2_with fail
 refine (Y6 pb tb cap b3 d ts [58] _ C6.o.ps OK.o).mono ?_
 intro e w6 zhm
 rcases Zy zhm with ⟨er, li, co, hr, rfl, hst⟩ | ⟨u4, b4, v4, hr, rfl, hst, hps, hv⟩
 ·have HE : xQ (R = .inr (er, li, co)) := by rw [HR3.o, hr]; exact rfl
  have HF := Za (C6.o.st.trans hst)
  clear hr hst zhm
  go_wp2_with fail
  exact ⟨rfl, HF.o, by rw [HE.o]⟩
 have HR4 : xQ (R = (E b4).go fun y b => (Zb ts b [125]).go fun _ b => .inl (Zi 10 s 0 0 0 [] [] [D1, y], b)) := by rw [HR3.o, hr]; exact rfl
 have C7 := Za ((C6.o.step hst hps))
 clear hr hst hps zhm hv
 go_wp2_with fail
 refine (HE1.o.calls b4 _ C7.o.ps).mono ?_
 intro e w7 zhm
 rcases Zy zhm with ⟨er, li, co, hr, rfl, hst⟩ | ⟨D2, b5, v, hr, rfl, hst, hps, hv⟩
 ·have HE : xQ (R = .inr (er, li, co)) := by rw [HR4.o, hr]; exact rfl
  have HF := Za (C7.o.st.trans hst)
  clear hr hst zhm
  go_wp2_with fail
  exact ⟨rfl, HF.o, by rw [HE.o]⟩
 have HR5 : xQ (R = (Zb ts b5 [125]).go fun _ b => .inl (Zi 10 s 0 0 0 [] [] [D1, D2], b)) := by rw [HR4.o, hr]; exact rfl
 obtain ⟨x2, rfl, hv⟩ := hv
 have C8 := Za ((C7.o.step hst hps).addN hv C7.o.sz)
 have C9 := Za (C8.o.alloc (x2.obj))
 clear hr hst hps zhm hv
 go_wp2_with fail
 refine (Y6 pb tb cap b5 d ts [125] _ C9.o.ps OK.o).mono ?_
 intro e w8 zhm
 rcases Zy zhm with ⟨er, li, co, hr, rfl, hst⟩ | ⟨u6, b6, v6, hr, rfl, hst, hps, hv⟩
 ·have HE : xQ (R = .inr (er, li, co)) := by rw [HR5.o, hr]; exact rfl
  have HF := Za (C9.o.st.trans hst)
  clear hr hst zhm
  go_wp2_with fail
  exact ⟨rfl, HF.o, by rw [HE.o]⟩
 have HR6 : xQ (R = .inl (Zi 10 s 0 0 0 [] [] [D1, D2], b6)) := by rw [HR5.o, hr]; exact rfl
 have C10 := Za ((C9.o.step hst hps))
 clear hr hst hps zhm hv
 obtain ⟨⟨r0, r1, r2, r3, r4, r5, r6, r7⟩, ⟨f0, f1, f2, f3, f4, f5, f6, f7⟩, hr1⟩ := Zh (x := Ze) (C10.o.b2)
 obtain ⟨⟨n0, n1, n2, n3, n4, n5, n6, n7⟩, _, hn1⟩ := Zh (x := x1) C10.o.b1
 obtain ⟨⟨m0, m1, m2, m3, m4, m5, m6, m7⟩, _, hm1⟩ := Zh (x := x2) C10.o.b0
 have hne1 : ¬ w3.heap.size = w.heap.size := by have := C3.o.sz; omega
 have hne2 : ¬ w7.heap.size = w.heap.size := by have := C8.o.sz; omega
 go_wp2_with fail
 rw [HR6.o]
 refine bodyPost_ret (results_cell_row rfl _ _ w.heap.size 27 _ (0, 0) _ rfl ((xA (show w.heap.size < (put8 w8 w.heap.size (Qr s w8.heap.size)).heap.size by rw [Wr]; exact hr1)).trans (Yj (x := Qr s w8.heap.size) C10.o.b2)) underlying27 rfl (by kernel_rfl)) rfl ⟨(Yr C10.o.st hp (xR) (Qr s w8.heap.size)).alloc hp _, (Yv C10.o.ps hp (Qr s w8.heap.size)).alloc _, _, rfl, Qr s w8.heap.size, rfl, ?_⟩
 have hk : ((put8 w8 w.heap.size (Qr s w8.heap.size)).alloc (.cells #[.int .i64 x1.k, .string x1.tx, .int .i64 x1.N, .int .i64 x1.li, .int .i64 x1.co, .slice x1.ta x1.tl x1.tc, .slice x1.na x1.nl x1.nc, .slice x1.ka x1.kl x1.kc, .int .i64 x2.k, .string x2.tx, .int .i64 x2.N, .int .i64 x2.li, .int .i64 x2.co, .slice x2.ta x2.tl x2.tc, .slice x2.na x2.nl x2.nc, .slice x2.ka x2.kl x2.kc] 27)).heap[w8.heap.size]? = some (.cells #[.int .i64 x1.k, .string x1.tx, .int .i64 x1.N, .int .i64 x1.li, .int .i64 x1.co, .slice x1.ta x1.tl x1.tc, .slice x1.na x1.nl x1.nc, .slice x1.ka x1.kl x1.kc, .int .i64 x2.k, .string x2.tx, .int .i64 x2.N, .int .i64 x2.li, .int .i64 x2.co, .slice x2.ta x2.tl x2.tc, .slice x2.na x2.nl x2.nc, .slice x2.ka x2.kl x2.kc] 27) := by
  have := xL (put8 w8 w.heap.size (Qr s w8.heap.size)) (.cells #[.int .i64 x1.k, .string x1.tx, .int .i64 x1.N, .int .i64 x1.li, .int .i64 x1.co, .slice x1.ta x1.tl x1.tc, .slice x1.na x1.nl x1.nc, .slice x1.ka x1.kl x1.kc, .int .i64 x2.k, .string x2.tx, .int .i64 x2.N, .int .i64 x2.li, .int .i64 x2.co, .slice x2.ta x2.tl x2.tc, .slice x2.na x2.nl x2.nc, .slice x2.ka x2.kl x2.kc] 27)
  rw [Wr] at this
  exact this
 exact (To ((C10.o.n1.put8 (xU _) (Qr s w8.heap.size)).alloc _) ((C10.o.n0.put8 (xU _) (Qr s w8.heap.size)).alloc _) hk C10.o.sz (Qr s w8.heap.size) [] [] ⟨rfl, rfl⟩ ⟨rfl, xZ _, 0, .inl rfl⟩ ⟨rfl, xZ _, .inl rfl⟩).lower (Nat.le_succ _)
def Bc (ts : List Tok) (E : Nat → Pr Ty) (f a : Nat) : Pr Ty :=
 if Zc ts a [125] then (Vp ts E f a).go fun l b => .inl (Zi 8 [] 0 0 0 [] (l.map (·.1)) (l.map (·.2)), b)
 else if (Zg ts a).kind == 1 && Zc ts (a + 1) [58] then (Vp ts E f a).go fun l b => .inl (Zi 8 [] 0 0 0 [] (l.map (·.1)) (l.map (·.2)), b)
 else (E a).go fun x b => (Zb ts b [119, 105, 116, 104]).go fun _ b => (Zm ts b).go fun s b => (Zb ts b [58]).go fun _ b => (E b).go fun y b => (Zb ts b [125]).go fun _ b => .inl (Zi 10 s 0 0 0 [] [] [x, y], b)
theorem zbu (pb tb cap d : Nat) (ts : List Tok) (E : Nat → Pr Ty) (hE : Yg pb tb cap d ts Zo 23 E) (ok : Z0 ts) (a : Nat) (w : World) (h : Ps w pb tb cap ts a d) :
  Calls prog 230 #[.pointer (some ⟨pb, 0, none⟩)] w (Zs pb tb cap ts d w Zo (Bc ts E ts.length a)) := by
 unfold Bc
 by_cases h1 : Zc ts a [125] = true
 ·rw [if_pos h1]
  exact zau pb tb cap d ts E hE ok a h1 w h
 ·rw [if_neg h1]
  by_cases h2 : ((Zg ts a).kind == 1 && Zc ts (a + 1) [58]) = true
  ·rw [if_pos h2]
   exact zgp pb tb cap d ts E hE ok a (by simpa using h1) h2 w h
  ·rw [if_neg h2]
   exact Ei pb tb cap d ts E hE ok a (by simpa using h1) (by simpa using h2) w h
end Go.Proofs.YtbnjllkkhhkkaaaGreatDoor
namespace Go.Proofs.YtbnjllkkhhkkaaaGreatDoor.Lx
open Tryz
open Go.RowKit
theorem Za {p : Prop} (h : p) : xQ p := h
theorem Vr {x y : Bool} (h : x = y) : Ending.returned (.bool x) = .returned (.bool y) := by rw [h]
theorem Px (b : UInt8) (w : World) : Calls prog 163 #[.int .u8 b.toNat] w fun e w' => e = .returned (.bool (Y8 b)) ∧ w' = w := by
 have zhr : (b.toNat < 65) ∨ (65 ≤ b.toNat ∧ b.toNat ≤ 90) ∨ (90 < b.toNat ∧ b.toNat < 95) ∨ b.toNat = 95 ∨ b.toNat = 96 ∨ (97 ≤ b.toNat ∧ b.toNat ≤ 122) ∨ 122 < b.toNat := by omega
 unfold Y8
 generalize b.toNat = n at zhr ⊢
 rcases zhr with h | ⟨h1, h2⟩ | ⟨h1, h2⟩ | rfl | rfl | ⟨h1, h2⟩ | h
 ·have e : ((n : Int) == 95) = false := by simp; omega
  go_enter func163, ntmps163
  go_wp2
  go_ret
  exact ⟨Vr (by first | rfl | (simp; done) | (simp; omega) | (rw [Bool.eq_iff_iff]; simp; omega)), rfl⟩
 ·go_enter func163, ntmps163
  go_wp2
  go_ret
  exact ⟨Vr (by first | rfl | (simp; done) | (simp; omega) | (rw [Bool.eq_iff_iff]; simp; omega)), rfl⟩
 ·have e : ((n : Int) == 95) = false := by simp; omega
  go_enter func163, ntmps163
  go_wp2
  go_ret
  exact ⟨Vr (by first | rfl | (simp; done) | (simp; omega) | (rw [Bool.eq_iff_iff]; simp; omega)), rfl⟩
 ·go_enter func163, ntmps163
  go_wp2
  go_ret
  exact ⟨rfl, rfl⟩
 ·go_enter func163, ntmps163
  go_wp2
  go_ret
  exact ⟨rfl, rfl⟩
 ·go_enter func163, ntmps163
  go_wp2
  go_ret
  exact ⟨Vr (by first | rfl | (simp; done) | (simp; omega) | (rw [Bool.eq_iff_iff]; simp; omega)), rfl⟩
 ·have e : ((n : Int) == 95) = false := by simp; omega
  go_enter func163, ntmps163
  go_wp2
  go_ret
  exact ⟨Vr (by first | rfl | (simp; done) | (simp; omega) | (rw [Bool.eq_iff_iff]; simp; omega)), rfl⟩
theorem M3 (b : UInt8) (w : World) : Calls prog 167 #[.int .u8 b.toNat] w fun e w' => e = .returned (.bool (Ye b)) ∧ w' = w := by
 have zhr : (b.toNat < 48) ∨ (48 ≤ b.toNat ∧ b.toNat ≤ 57) ∨ 57 < b.toNat := by omega
 unfold Ye
 generalize b.toNat = n at zhr ⊢
 rcases zhr with h | ⟨h1, h2⟩ | h
 all_goals
  go_enter func167, ntmps167
  go_wp2
  go_ret
  exact ⟨Vr (by first | rfl | (simp; done) | (simp; omega) | (rw [Bool.eq_iff_iff]; simp; omega)), rfl⟩
theorem Hf (b : UInt8) (w : World) : Calls prog 165 #[.int .u8 b.toNat] w fun e w' => e = .returned (.bool (Yc b)) ∧ w' = w := by
 have s := Px b
 have d := M3 b
 unfold Yc
 cases h1 : Y8 b
 ·rw [h1] at s
  have S := Za s
  have D := Za d
  clear h1 s d
  go_enter func165, ntmps165
  go_wp2_with fail
  refine (S.o _).mono ?_
  rintro e w' ⟨rfl, rfl⟩
  go_wp2_with fail
  refine (D.o _).mono ?_
  rintro e w' ⟨rfl, rfl⟩
  go_wp2
  go_ret
  exact ⟨rfl, rfl⟩
 ·rw [h1] at s
  have S := Za s
  clear h1 s d
  go_enter func165, ntmps165
  go_wp2_with fail
  refine (S.o _).mono ?_
  rintro e w' ⟨rfl, rfl⟩
  go_wp2
  go_ret
  exact ⟨rfl, rfl⟩
theorem Ii (b : UInt8) (w : World) : Calls prog 162 #[.int .u8 b.toNat] w fun e w' => e = .returned (.bool (Vi b)) ∧ w' = w := by
 unfold Vi
 generalize b.toNat = n
 by_cases h : n = 10
 ·subst h
  go_enter func162, ntmps162
  go_wp2
  go_ret
  exact ⟨rfl, rfl⟩
 ·have e : ((n : Int) == 10) = false := by simp; omega
  go_enter func162, ntmps162
  go_wp2
  go_ret
  exact ⟨Vr (by simp [h]; omega), rfl⟩
theorem parse_c (s : ByteArray) (hs : s.size ≤ 9223372036854775807) (w : World) : Calls prog 168 #[.string s] w fun e w' => e = .returned (Pd (Ww s.data.toList)) ∧ w' = w := by
 by_cases hz : s.size = 0
 ·have he : s.toList.isEmpty = true := by rw [N4]; simp [hz]
  rw [Rp hz]
  go_enter func168, ntmps168
  go_wp2
  go_ret2
  exact ⟨rfl, rfl⟩
 have h0 : 0 < s.size := by omega
 have he : s.toList.isEmpty = false := by rw [N4]; simp [hz]
 by_cases hn : (s[0].toNat : Int) = 48 ∧ 1 < s.size
 ·rw [Dp h0 hn.1 hn.2]
  obtain ⟨hn1, hn2⟩ := hn
  go_enter func168, ntmps168
  go_wp2
  go_ret2
  exact ⟨rfl, rfl⟩
 rw [J9 h0 hn]
 have hd : ((s[0].toNat : Int) = 48 ∧ s.size ≤ 1) ∨ ¬ (s[0].toNat : Int) = 48 := by omega
 clear hn hz
 rcases hd with ⟨hd, hd1⟩ | hd
 all_goals
  go_enter func168, ntmps168
  go_wp2
  go_loop [4, 21] (fun n i => ∃ (k : Nat) (m : Int), k ≤ s.size ∧ i = .int .i64 k ∧ n = .int .i64 m ∧ 0 ≤ m ∧ m ≤ 9223372036854775807 ∧ Vm s.data.toList 0 = Vm (s.data.toList.drop k) m) (fun _ i => s.size - (intOf i).toNat)
  case atStart => exact ⟨0, 0, xZ _, rfl, rfl, by omega, by omega, rfl⟩
  case round =>
   obtain ⟨k, m, hk, rfl, rfl, hm0, hm1, hgo⟩ := hrel
   have HG : xQ (Vm s.data.toList 0 = Vm (s.data.toList.drop k) m) := hgo
   clear hgo
   by_cases hkl : k < s.size
   ·by_cases b1 : (s[k].toNat : Int) < 48
    ·go_wp2
     go_ret2
     rw [HG.o, Fg hkl m (Or.inl b1)]
     exact ⟨rfl, rfl⟩
    by_cases b2 : 57 < (s[k].toNat : Int)
    ·go_wp2
     go_ret2
     rw [HG.o, Fg hkl m (Or.inr b2)]
     exact ⟨rfl, rfl⟩
    by_cases b3 : (9223372036854775807 - ((s[k].toNat : Int) - 48)) / 10 < m
    ·go_wp2
     go_ret2
     rw [HG.o, zgj hkl m (by omega) b3]
     exact ⟨rfl, rfl⟩
    ·go_wp2
     go_round
     case rel => exact ⟨k + 1, m * 10 + ((s[k].toNat : Int) - 48), by omega, by go_num, rfl, by omega, by omega, HG.o.trans (Ih hkl m (by omega) b3)⟩
     case measure => simp [intOf]; omega
   ·go_wp2
    go_ret2
    rw [HG.o, zdl hkl m]
    exact ⟨rfl, rfl⟩
end Go.Proofs.YtbnjllkkhhkkaaaGreatDoor.Lx
