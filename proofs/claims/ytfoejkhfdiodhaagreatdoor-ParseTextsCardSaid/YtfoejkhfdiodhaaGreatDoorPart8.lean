/- Part. -/
import Derived.Test.YtfoejkhfdiodhaaGreatDoorPart7
set_option maxRecDepth 100000
set_option maxHeartbeats 4000000
namespace Go.Proofs.YtfoejkhfdiodhaaGreatDoor
open Go.Proofs.Tryz
open Go.RowKit
attribute [local go_sem ↓] Go.wp_at_zero Go.wp_at_succ
theorem Yy.regrow {pb tb cap d b : Nat} {ts : List Tok} {w0 w w4 : World} {bx bx' : List (Nat × Obj)} {ns : List (NV × Ty)} {tys : List (Value × Ty)} {g : Option Nat} (h : Yy pb tb cap d ts w0 w b bx ns tys) (hg : w.grownBy w4 g) (hr : ∀ q, g = some q -> w0.heap.size <= q)
  (hb : ∀ p ∈ bx', p ∈ bx /\ g ≠ some p.1) : Yy pb tb cap d ts w0 w4 b bx' [] [] where
 st := h.st.grown hg h.hp hr
 ps := h.ps.grown hg fun q hq => by have := hr q hq; have := h.hp; omega
 hp := h.hp
 sz := Nat.le_trans h.sz hg.size
 has := fun p hp => ⟨(hg.block _ (xB (h.has p (hb p hp).1).1) (fun e => (hb p hp).2 e.symm)).trans (h.has p (hb p hp).1).1, (h.has p (hb p hp).1).2⟩
 nds := (fun _ h => nomatch h)
 tys := (fun _ h => nomatch h)
theorem bP (W : World) (n : Nat) (c : List Value) (t : TypeId) (hn : n = W.heap.size) : ∀ j u, c[j]? = some u -> (W.alloc (.cells c.toArray t)).cell? ((⟨n, 0, none⟩ : Addr).add j) = some u := by
 subst hn
 exact Pt W c t
abbrev Ch (av : Option Addr) (n cv : Nat) : Value := .agg #[.int .i64 7, .string ⟨#[]⟩, .slice none 0 0, .slice av n cv]
theorem pU {lo : Nat} {o : Option Nat} {w : World} {v : Value} {cs : List (List Value)} {xs : List Ty} (h : Ym Nq lo 42 4 o w v cs xs) (hl : xs.length <= 8193) : ∃ av cv, v = .slice av xs.length cv /\ Yb lo w (Ch av xs.length cv) (Yq 7 [] [] xs) := by
 obtain ⟨av, cv, m, e, hcv, hk⟩ := G3 h
 exact ⟨av, cv, e, m + 1, 7, ⟨#[]⟩, none, 0, av, cv, [], xs, rfl, rfl, by decide, by decide, (fun _ h => nomatch h), ⟨xR, xZ _⟩, ⟨hcv, by unfold reachBytes; omega⟩, .inl rfl, hk⟩
theorem pS {lo n cv : Nat} {w : World} {av : Option Addr} {xs : List Ty} (h : Yb lo w (Ch av n cv) (Yq 7 [] [] xs)) : ∃ m, Ut w lo m av xs := by
 obtain ⟨m, h⟩ := h
 cases m with
 | zero => exact h.elim
 | succ m =>
  obtain ⟨k, nm, na, nc, ka, kc, ns, ks, e, e2, _, _, _, _, _, _, h9⟩ := h;obtain ⟨_, _, _, rfl⟩ := Iy e2;simp only [Ch, Value.agg.injEq] at e;have e3 := congrArg (fun a : Array Value => a.getD 3 undef) e;simp at e3;obtain ⟨rfl, _, _⟩ := e3;exact ⟨m, h9⟩
abbrev J9 (t : Tok) (s : List UInt8) (ta : Option Addr) (tl tc kb : Nat) : NV := ⟨6, ⟨s.toArray⟩, 0, t.line, t.col, ta, tl, tc, none, 0, 0, some ⟨kb, 0, none⟩, 1, 1⟩
theorem lR (pb tb cap d : Nat) (ts : List Tok) (K E : Nat -> Pr Ty) (hK : Xg pb tb cap d ts Yb 21 K) (hE : Xg pb tb cap d ts Z4 19 E) (ok : Yh ts) (a : Nat) (w : World) (h : Ps w pb tb cap ts a d) :
  Calls prog 83 #[pP pb] w (Z7 pb tb cap ts d w Z4 ((Ze ts a [102, 110]).go fun _ b => (Bp ts K b).go fun h b => (Vi ts K [58] b).go fun y b => (Ze ts b [61, 62]).go fun _ b => (E b).go fun x b => .inl (Zn 6 h.1 0 (Zk ts a).line (Zk ts a).col (h.2 :: if y.2 then [y.1] else []) [] [x], b))) := by
 have H := Za h
 have OK := Za ok
 have hp := h.ltp
 have Tn := Za hE
 have Py := Za hK
 have HM0 := Za (fun w h => Vw pb tb cap a d ts [102, 110] w h ok)
 obtain ⟨t, ht⟩ := xE (Zk ts a)
 rw [<- ht] at HM0 ⊢
 clear ht
 have C0 := Za (Vz h Zi.obj)
 obtain ⟨R, hR⟩ : ∃ R : Pr Ty, R = ((Ze ts a [102, 110]).go fun _ b => (Bp ts K b).go fun h b => (Vi ts K [58] b).go fun y b => (Ze ts b [61, 62]).go fun _ b => (E b).go fun x b => .inl (Zn 6 h.1 0 t.line t.col (h.2 :: if y.2 then [y.1] else []) [] [x], b)) := ⟨_, rfl⟩
 rw [<- hR]
 have Z9 := Za hR
 clear h ok hR hE hK
 obtain ⟨i0, hi, Wp, Xy, Wr⟩ := info_parts Dp
 go_enter func83, ntmps83
 go_wp2_with fail
 refine (HM0.o _ C0.o.ps).mono ?_
 intro e w1 Zg
 rcases Yj Zg with ⟨er, li, co, hr, rfl, Zb⟩ | ⟨u, b1, v, hr, rfl, Zb, Zc, hv⟩
 ·have HE : xQ (R = .inr (er, li, co)) := by rw [Z9.o, hr]; exact rfl
  have HF := Za (C0.o.st.trans Zb);clear hr Zb Zg;go_wp2_with fail;exact ⟨rfl, HF.o, by rw [HE.o]⟩
 have Yk : xQ (R = (Bp ts K b1).go fun h b => (Vi ts K [58] b).go fun y b => (Ze ts b [61, 62]).go fun _ b => (E b).go fun x b => .inl (Zn 6 h.1 0 t.line t.col (h.2 :: if y.2 then [y.1] else []) [] [x], b)) := by rw [Z9.o, hr]; exact rfl
 subst hv
 have C1 := Za ((C0.o.step Zb Zc))
 have C2 := Za (C1.o.alloc (Zp t))
 clear hr Zb Zc Zg  
 go_wp2_with fail
 refine (zV pb tb cap d ts K Py.o OK.o b1 _ C2.o.ps).mono ?_
 intro e w2 Zg
 rcases Yj Zg with ⟨er, li, co, hr, rfl, Zb⟩ | ⟨hh, b2, v, hr, rfl, Zb, Zc, hv⟩
 ·have HE : xQ (R = .inr (er, li, co)) := by rw [Yk.o, hr]; exact rfl
  have HF := Za (C2.o.st.trans Zb);clear hr Zb Zg;go_wp2_with fail;exact ⟨rfl, HF.o, by rw [HE.o]⟩
 have Zz : xQ (R = (Vi ts K [58] b2).go fun y b => (Ze ts b [61, 62]).go fun _ b => (E b).go fun x b => .inl (Zn 6 hh.1 0 t.line t.col (hh.2 :: if y.2 then [y.1] else []) [] [x], b)) := by rw [Yk.o, hr]; exact rfl
 obtain ⟨s, D⟩ := hh
 obtain ⟨u2, rfl, hv⟩ := hv
 obtain ⟨k1, nm1, na1, nl1, nc1, ka1, kl1, kc1, rfl⟩ := hv.cells
 have C3 := Za ((C2.o.step Zb Zc).addT hv C2.o.sz)
 have C4 := Za (C3.o.alloc (Z5 k1 nm1 na1 nl1 nc1 ka1 kl1 kc1))
 clear hr Zb Zc Zg hv
 have HRw : xQ (Ym Nq (w.heap.size + 1) 42 4 none ((w2.alloc (Z5 k1 nm1 na1 nl1 nc1 ka1 kl1 kc1)).alloc (.cells #[.int .i64 k1, .string nm1, .slice na1 nl1 nc1, .slice ka1 kl1 kc1] 42)) (.slice (some ⟨w2.heap.size + 1, 0, none⟩) 1 1) [[.int .i64 k1, .string nm1, .slice na1 nl1 nc1, .slice ka1 kl1 kc1]] [D]) := by
  have := Aq (B := w.heap.size + 1) (et := 42) (k := 4) (rep := Nq) (c := [.int .i64 k1, .string nm1, .slice na1 nl1 nc1, .slice ka1 kl1 kc1]) (x := D) C4.o.t0 (xR) C4.o.sz rfl;rw [xS] at this;exact this
 have C5 := Za (C4.o.alloc (.cells #[.int .i64 k1, .string nm1, .slice na1 nl1 nc1, .slice ka1 kl1 kc1] 42))
 go_wp2_with fail
 refine (A5 pb tb cap d ts [58] K Py.o OK.o b2 _ C5.o.ps).mono ?_
 intro e w3 Zg
 rcases Yj Zg with ⟨er, li, co, hr, rfl, Zb⟩ | ⟨y, b3, v, hr, rfl, Zb, Zc, hv⟩
 ·have HE : xQ (R = .inr (er, li, co)) := by rw [Zz.o, hr]; exact rfl
  have HF := Za (C5.o.st.trans Zb);clear hr Zb Zg;go_wp2_with fail;exact ⟨rfl, HF.o, by rw [HE.o]⟩
 have Yt : xQ (R = (Ze ts b3 [61, 62]).go fun _ b => (E b).go fun x b => .inl (Zn 6 s 0 t.line t.col (D :: if y.2 then [y.1] else []) [] [x], b)) := by rw [Zz.o, hr]; exact rfl
 obtain ⟨D2, okb⟩ := y
 obtain ⟨u4, rfl, hv⟩ := hv
 obtain ⟨k4, nm4, na4, nl4, nc4, ka4, kl4, kc4, rfl⟩ := hv.cells
 have HRw3 := Za (HRw.o.stay Zb (by omega))
 have P4 := Za hv
 have C6 := Za ((C5.o.step Zb Zc).addT hv C5.o.sz)
 have C7 := Za (C6.o.alloc (Z5 k4 nm4 na4 nl4 nc4 ka4 kl4 kc4))
 clear hr Zb Zc Zg hv
 cases okb with
 | false =>
  have Xi : xQ (R = (Ze ts b3 [61, 62]).go fun _ b => (E b).go fun x b => .inl (Zn 6 s 0 t.line t.col ([D]) [] [x], b)) := Yt.o;have HRw4 := Za ((HRw3.o.stay ((Zl.refl pb w3).alloc (by have := C6.o.ps.ltp; exact this) (Z5 k4 nm4 na4 nl4 nc4 ka4 kl4 kc4)) (by omega)));obtain ⟨av, cv, hve, hu⟩ := pU HRw4.o (by simp);injection hve with hve1 hve2 hve3;subst hve1 hve3;have C8 := Za (C7.o.addT hu (xR));clear hu hve2
  go_wp2_with fail;refine (Vw pb tb cap b3 d ts [61, 62] _ C8.o.ps OK.o).mono ?_;intro e w4 Zg;rcases Yj Zg with ⟨er, li, co, hr, rfl, Zb⟩ | ⟨u5, b4, v5, hr, rfl, Zb, Zc, hv⟩
  ·have HE : xQ (R = .inr (er, li, co)) := by rw [Xi.o, hr]; exact rfl
   have HF := Za (C8.o.st.trans Zb);clear hr Zb Zg;go_wp2_with fail;exact ⟨rfl, HF.o, by rw [HE.o]⟩
  have Xq : xQ (R = (E b4).go fun x b => .inl (Zn 6 s 0 t.line t.col [D] [] [x], b)) := by rw [Xi.o, hr]; exact rfl
  have C9 := Za ((C8.o.step Zb Zc));clear hr Zb Zc Zg hv;obtain ⟨⟨k0, k1', k2, k3⟩, _, P8⟩ := Z6 C9.o.b3;go_wp2_with fail
  have Nh : w1.heap.size ≠ w.heap.size := by have := C1.o.sz; omega
  have Vx : (((w4).drew).cell? ⟨w1.heap.size, 0, none⟩ = some (.int .i64 t.kind) /\ ((w4).drew).cell? ⟨w1.heap.size, 1, none⟩ = some (.string ⟨t.text.toArray⟩) /\ ((w4).drew).cell? ⟨w1.heap.size, 2, none⟩ = some (.int .i64 t.line) /\ ((w4).drew).cell? ⟨w1.heap.size, 3, none⟩ = some (.int .i64 t.col)) := (Y1 (C9.o.drew.b3))
  have HC : xQ (Calls prog 19 #[pP pb] (w4).drew fun e w9 => (∃ chain, e = .panicked chain /\ Z7 pb tb cap ts d w Z4 R e w9) ∨ ∃ (y : NV) (D3 : Ty) (b6 : Nat), e = .returned (y.val) /\ ((w9.cell? ⟨w1.heap.size, 0, none⟩ = some (.int .i64 t.kind) /\ w9.cell? ⟨w1.heap.size, 1, none⟩ = some (.string ⟨t.text.toArray⟩) /\ w9.cell? ⟨w1.heap.size, 2, none⟩ = some (.int .i64 t.line) /\ w9.cell? ⟨w1.heap.size, 3, none⟩ = some (.int .i64 t.col))) /\ xQ (R = .inl (Zn 6 s 0 t.line t.col [D] [] [D3], b6) /\ Yy pb tb cap d ts w w9 b6 [(w3.heap.size, Z5 k4 nm4 na4 nl4 nc4 ka4 kl4 kc4), ((w2.alloc (Z5 k1 nm1 na1 nl1 nc1 ka1 kl1 kc1)).heap.size, .cells #[.int .i64 k1, .string nm1, .slice na1 nl1 nc1, .slice ka1 kl1 kc1] 42), (w2.heap.size, Z5 k1 nm1 na1 nl1 nc1 ka1 kl1 kc1), (w1.heap.size, Zp t), (w.heap.size, Zi.obj)] [(y, D3)] [(Ch (some ⟨w2.heap.size + 1, 0, none⟩) 1 1, Yq 7 [] [] [D]), (.agg #[.int .i64 k4, .string nm4, .slice na4 nl4 nc4, .slice ka4 kl4 kc4], D2), (.agg #[.int .i64 k1, .string nm1, .slice na1 nl1 nc1, .slice ka1 kl1 kc1], D)])) := by
   refine (Tn.o.calls b4 _ C9.o.drew.ps).mono ?_;intro e w9 Zg;rcases Yj Zg with ⟨er, li, co, hr, rfl, Zb⟩ | ⟨D3, b6, v, hr, rfl, Zb, Zc, hv⟩
   ·exact .inl ⟨_, rfl, C9.o.drew.st.trans Zb, by rw [Xq.o, hr]; rfl⟩
   obtain ⟨y, rfl, hv⟩ := hv;have CN := (C9.o.drew.step Zb Zc).addN hv C9.o.drew.sz;exact .inr ⟨y, D3, b6, rfl, (Y1 (CN.b3)), by rw [Xq.o, hr]; rfl, CN⟩
  go_wp2_with fail
  go_region_held (fun W => (W.cell? ⟨w1.heap.size, 0, none⟩ = some (.int .i64 t.kind) /\ W.cell? ⟨w1.heap.size, 1, none⟩ = some (.string ⟨t.text.toArray⟩) /\ W.cell? ⟨w1.heap.size, 2, none⟩ = some (.int .i64 t.line) /\ W.cell? ⟨w1.heap.size, 3, none⟩ = some (.int .i64 t.col))) (first | with_reducible assumption | with_reducible exact Wt.o _ | with_reducible exact Xp.o _ _ _ _ _ _ _ _) (first
   | (go_at_call 19; refine HC.o.mono ?_; rintro e w9 (⟨ch, rfl, hf⟩ | ⟨y, D3, b6, rfl, t5, HX⟩); exact ⟨rfl, hf⟩; have Wt : xQ (∀ o, (((w9.alloc o)).cell? ⟨w1.heap.size, 0, none⟩ = some (.int .i64 t.kind) /\ ((w9.alloc o)).cell? ⟨w1.heap.size, 1, none⟩ = some (.string ⟨t.text.toArray⟩) /\ ((w9.alloc o)).cell? ⟨w1.heap.size, 2, none⟩ = some (.int .i64 t.line) /\ ((w9.alloc o)).cell? ⟨w1.heap.size, 3, none⟩ = some (.int .i64 t.col))) := (fun o => (Y1 ((HX.o.2.alloc o).b4))))
   | (go_at_call 123; refine (Nl t ⟨6, ⟨s.toArray⟩, 0, 0, 0, some ⟨w2.heap.size + 1, 0, none⟩, 1, 1, none, 0, 0, some ⟨w9.heap.size, 0, none⟩, 1, 1⟩ _).mono ?_; rintro e w10 ⟨rfl, hb⟩; have Zv := Za ((HX.o.2.alloc _).below hb); have t6 : (w10.cell? ⟨w1.heap.size, 0, none⟩ = some (.int .i64 t.kind) /\ w10.cell? ⟨w1.heap.size, 1, none⟩ = some (.string ⟨t.text.toArray⟩) /\ w10.cell? ⟨w1.heap.size, 2, none⟩ = some (.int .i64 t.line) /\ w10.cell? ⟨w1.heap.size, 3, none⟩ = some (.int .i64 t.col)) := (Y1 (Zv.o.b4)); have Tm := Za (Zm (x := Zi) (Zv.o.b5)); obtain ⟨⟨r0, r1, r2, r3, r4, r5, r6, r7⟩, ⟨f0, f1, f2, f3, f4, f5, f6, f7⟩, Yn⟩ := Tm.o; have Xp : xQ (∀ v0 v1 v2 v3 v4 v5 v6 v7, (((Yo w10 w.heap.size v0 v1 v2 v3 v4 v5 v6 v7)).cell? ⟨w1.heap.size, 0, none⟩ = some (.int .i64 t.kind) /\ ((Yo w10 w.heap.size v0 v1 v2 v3 v4 v5 v6 v7)).cell? ⟨w1.heap.size, 1, none⟩ = some (.string ⟨t.text.toArray⟩) /\ ((Yo w10 w.heap.size v0 v1 v2 v3 v4 v5 v6 v7)).cell? ⟨w1.heap.size, 2, none⟩ = some (.int .i64 t.line) /\ ((Yo w10 w.heap.size v0 v1 v2 v3 v4 v5 v6 v7)).cell? ⟨w1.heap.size, 3, none⟩ = some (.int .i64 t.col))) := (fun v0 v1 v2 v3 v4 v5 v6 v7 => (Y1 ((Bs Nh v0 v1 v2 v3 v4 v5 v6 v7).trans (Zv.o.b4)))); clear hb))
  all_goals
   go_wp2_with fail;rw [HX.o.1];refine r38 rfl rfl (Xn (x := J9 t s (some ⟨w2.heap.size + 1, 0, none⟩) 1 1 w9.heap.size) Zv.o.b5) rfl ⟨Wg Zv.o.st hp (xR) (J9 t s (some ⟨w2.heap.size + 1, 0, none⟩) 1 1 w9.heap.size), Wn Zv.o.ps hp (J9 t s (some ⟨w2.heap.size + 1, 0, none⟩) 1 1 w9.heap.size), _, rfl, J9 t s (some ⟨w2.heap.size + 1, 0, none⟩) 1 1 w9.heap.size, rfl, ?_⟩;exact ((Nz Zv.o.n0 Zv.o.b0 (by have := HX.o.2.sz; omega) (J9 t s (some ⟨w2.heap.size + 1, 0, none⟩) 1 1 w9.heap.size) [D] [] ⟨rfl, rfl⟩ ⟨rfl, by simp, pS Zv.o.t0⟩ ⟨rfl, xZ _, .inl rfl⟩).put8 (xU _) (J9 t s (some ⟨w2.heap.size + 1, 0, none⟩) 1 1 w9.heap.size)).lower (Nat.le_succ _)
 | true =>
  have Xi : xQ (R = (Ze ts b3 [61, 62]).go fun _ b => (E b).go fun x b => .inl (Zn 6 s 0 t.line t.col ([D, D2]) [] [x], b)) := Yt.o;have HRw4 := Za ((HRw3.o.stay ((Zl.refl pb w3).alloc (by have := C6.o.ps.ltp; exact this) (Z5 k4 nm4 na4 nl4 nc4 ka4 kl4 kc4)) (by omega)))
  go_wp2_with (at_builtin; refine wpList_append_own_at _ rfl (.tmp 26) (.tmp 28) 34 rfl (w.heap.size + 1) 42 i0 _ 4 72 underlying34 hi Wp Xy Wr rfl (by decide) _ _ _ rfl (HRw4.o.ow.alloc _) ⟨_, 0, none⟩ 1 1 [.int .i64 k4, .string nm4, .slice na4 nl4 nc4, .slice ka4 kl4 kc4] rfl rfl (bP _ _ _ _ (by simp)) (by simp [Value.oneCell']) (by unfold maxLen; simp) (by simp) (by have := C7.o.sz; simp at this ⊢; omega) ?_)
  intro v' w4 Z1 Zy _ Ys;have Xq := Za (HRw4.o.put (x := D2) (rep := Nq) Z1 Zy (Ys.imp_right fun e => ⟨_, e, by simp⟩) ((Zl.refl pb _).alloc C7.o.ps.ltp _) (by omega) rfl (((Wz.new (rep := Nq) P4.o C5.o.sz fun q hq => HRw.o.all q hq).stay ((Zl.refl pb w3).alloc (by have := C6.o.ps.ltp; exact this) (Z5 k4 nm4 na4 nl4 nc4 ka4 kl4 kc4)) (by omega)).stay ((Zl.refl pb _).alloc C7.o.ps.ltp _) (by omega)))
  have C8 := Za ((C7.o.alloc (.cells #[.int .i64 k4, .string nm4, .slice na4 nl4 nc4, .slice ka4 kl4 kc4] 42)).regrow (bx' := [(w1.heap.size, Zp t), (w.heap.size, Zi.obj)]) Zy (fun q hq => by simp [Value.ownBlock] at hq; have := C3.o.sz; omega) (by
   intro p hp;rcases List.mem_cons.1 hp with rfl | hp
   ·exact ⟨by simp, fun e => by simp [Value.ownBlock] at e; have := (C4.o.b1); have := xB C3.o.b0; omega⟩
   ·rw [List.mem_singleton.1 hp]; exact ⟨by simp, fun e => by simp [Value.ownBlock] at e; have := C3.o.sz; omega⟩))
  obtain ⟨av, cv, rfl, hu⟩ := pU Xq.o (by simp);have C9 := Za (C8.o.addT hu (xR));clear hu Z1 Zy Ys;go_wp2_with fail;refine (Vw pb tb cap b3 d ts [61, 62] _ C9.o.ps OK.o).mono ?_;intro e w5 Zg;rcases Yj Zg with ⟨er, li, co, hr, rfl, Zb⟩ | ⟨u5, b4, v5, hr, rfl, Zb, Zc, hv⟩
  ·have HE : xQ (R = .inr (er, li, co)) := by rw [Xi.o, hr]; exact rfl
   have HF := Za (C9.o.st.trans Zb);clear hr Zb Zg;go_wp2_with fail;exact ⟨rfl, HF.o, by rw [HE.o]⟩
  have Xq : xQ (R = (E b4).go fun x b => .inl (Zn 6 s 0 t.line t.col [D, D2] [] [x], b)) := by rw [Xi.o, hr]; exact rfl
  have C10 := Za ((C9.o.step Zb Zc));clear hr Zb Zc Zg hv;obtain ⟨⟨k0, k1', k2, k3⟩, _, P8⟩ := Z6 C10.o.b0;go_wp2_with fail
  have Nh : w1.heap.size ≠ w.heap.size := by have := C1.o.sz; omega
  have Vx : (((w5).drew).cell? ⟨w1.heap.size, 0, none⟩ = some (.int .i64 t.kind) /\ ((w5).drew).cell? ⟨w1.heap.size, 1, none⟩ = some (.string ⟨t.text.toArray⟩) /\ ((w5).drew).cell? ⟨w1.heap.size, 2, none⟩ = some (.int .i64 t.line) /\ ((w5).drew).cell? ⟨w1.heap.size, 3, none⟩ = some (.int .i64 t.col)) := (Y1 (C10.o.drew.b0))
  have HC : xQ (Calls prog 19 #[pP pb] (w5).drew fun e w9 => (∃ chain, e = .panicked chain /\ Z7 pb tb cap ts d w Z4 R e w9) ∨ ∃ (y : NV) (D3 : Ty) (b6 : Nat), e = .returned (y.val) /\ ((w9.cell? ⟨w1.heap.size, 0, none⟩ = some (.int .i64 t.kind) /\ w9.cell? ⟨w1.heap.size, 1, none⟩ = some (.string ⟨t.text.toArray⟩) /\ w9.cell? ⟨w1.heap.size, 2, none⟩ = some (.int .i64 t.line) /\ w9.cell? ⟨w1.heap.size, 3, none⟩ = some (.int .i64 t.col))) /\ xQ (R = .inl (Zn 6 s 0 t.line t.col [D, D2] [] [D3], b6) /\ Yy pb tb cap d ts w w9 b6 [(w1.heap.size, Zp t), (w.heap.size, Zi.obj)] [(y, D3)] [(Ch av 2 cv, Yq 7 [] [] [D, D2])])) := by
   refine (Tn.o.calls b4 _ C10.o.drew.ps).mono ?_;intro e w9 Zg;rcases Yj Zg with ⟨er, li, co, hr, rfl, Zb⟩ | ⟨D3, b6, v, hr, rfl, Zb, Zc, hv⟩
   ·exact .inl ⟨_, rfl, C10.o.drew.st.trans Zb, by rw [Xq.o, hr]; rfl⟩
   obtain ⟨y, rfl, hv⟩ := hv;have CN := (C10.o.drew.step Zb Zc).addN hv C10.o.drew.sz;exact .inr ⟨y, D3, b6, rfl, (Y1 (CN.b0)), by rw [Xq.o, hr]; rfl, CN⟩
  go_wp2_with fail
  go_region_held (fun W => (W.cell? ⟨w1.heap.size, 0, none⟩ = some (.int .i64 t.kind) /\ W.cell? ⟨w1.heap.size, 1, none⟩ = some (.string ⟨t.text.toArray⟩) /\ W.cell? ⟨w1.heap.size, 2, none⟩ = some (.int .i64 t.line) /\ W.cell? ⟨w1.heap.size, 3, none⟩ = some (.int .i64 t.col))) (first | with_reducible assumption | with_reducible exact Wt.o _ | with_reducible exact Xp.o _ _ _ _ _ _ _ _) (first
   | (go_at_call 19; refine HC.o.mono ?_; rintro e w9 (⟨ch, rfl, hf⟩ | ⟨y, D3, b6, rfl, t5, HX⟩); exact ⟨rfl, hf⟩; have Wt : xQ (∀ o, (((w9.alloc o)).cell? ⟨w1.heap.size, 0, none⟩ = some (.int .i64 t.kind) /\ ((w9.alloc o)).cell? ⟨w1.heap.size, 1, none⟩ = some (.string ⟨t.text.toArray⟩) /\ ((w9.alloc o)).cell? ⟨w1.heap.size, 2, none⟩ = some (.int .i64 t.line) /\ ((w9.alloc o)).cell? ⟨w1.heap.size, 3, none⟩ = some (.int .i64 t.col))) := (fun o => (Y1 ((HX.o.2.alloc o).b1))))
   | (go_at_call 123; refine (Nl t ⟨6, ⟨s.toArray⟩, 0, 0, 0, av, 2, cv, none, 0, 0, some ⟨w9.heap.size, 0, none⟩, 1, 1⟩ _).mono ?_; rintro e w10 ⟨rfl, hb⟩; have Zv := Za ((HX.o.2.alloc _).below hb); have t6 : (w10.cell? ⟨w1.heap.size, 0, none⟩ = some (.int .i64 t.kind) /\ w10.cell? ⟨w1.heap.size, 1, none⟩ = some (.string ⟨t.text.toArray⟩) /\ w10.cell? ⟨w1.heap.size, 2, none⟩ = some (.int .i64 t.line) /\ w10.cell? ⟨w1.heap.size, 3, none⟩ = some (.int .i64 t.col)) := (Y1 (Zv.o.b1)); have Tm := Za (Zm (x := Zi) (Zv.o.b2)); obtain ⟨⟨r0, r1, r2, r3, r4, r5, r6, r7⟩, ⟨f0, f1, f2, f3, f4, f5, f6, f7⟩, Yn⟩ := Tm.o; have Xp : xQ (∀ v0 v1 v2 v3 v4 v5 v6 v7, (((Yo w10 w.heap.size v0 v1 v2 v3 v4 v5 v6 v7)).cell? ⟨w1.heap.size, 0, none⟩ = some (.int .i64 t.kind) /\ ((Yo w10 w.heap.size v0 v1 v2 v3 v4 v5 v6 v7)).cell? ⟨w1.heap.size, 1, none⟩ = some (.string ⟨t.text.toArray⟩) /\ ((Yo w10 w.heap.size v0 v1 v2 v3 v4 v5 v6 v7)).cell? ⟨w1.heap.size, 2, none⟩ = some (.int .i64 t.line) /\ ((Yo w10 w.heap.size v0 v1 v2 v3 v4 v5 v6 v7)).cell? ⟨w1.heap.size, 3, none⟩ = some (.int .i64 t.col))) := (fun v0 v1 v2 v3 v4 v5 v6 v7 => (Y1 ((Bs Nh v0 v1 v2 v3 v4 v5 v6 v7).trans (Zv.o.b1)))); clear hb))
  all_goals
   go_wp2_with fail;rw [HX.o.1];refine r38 rfl rfl (Xn (x := J9 t s (av) 2 cv w9.heap.size) Zv.o.b2) rfl ⟨Wg Zv.o.st hp (xR) (J9 t s (av) 2 cv w9.heap.size), Wn Zv.o.ps hp (J9 t s (av) 2 cv w9.heap.size), _, rfl, J9 t s (av) 2 cv w9.heap.size, rfl, ?_⟩;exact ((Nz Zv.o.n0 Zv.o.b0 (by have := HX.o.2.sz; omega) (J9 t s (av) 2 cv w9.heap.size) [D, D2] [] ⟨rfl, rfl⟩ ⟨rfl, by simp, pS Zv.o.t0⟩ ⟨rfl, xZ _, .inl rfl⟩).put8 (xU _) (J9 t s (av) 2 cv w9.heap.size)).lower (Nat.le_succ _)
def Fg (lo : Nat) (w : World) (c : List Value) (D : Ty) : Prop := Z4 lo w (.agg c.toArray) D
theorem uY : Lo Fg where
 keep := fun ⟨x, e, h⟩ hs hk => ⟨x, e, h.keep hs hk⟩
 lower := fun ⟨x, e, h⟩ hl => ⟨x, e, h.lower hl⟩
theorem uZ {lo : Nat} {w : World} {x1 : NV} {D : Ty} (h : Yi lo w x1 D) : Fg lo w [.int .i64 x1.k, .string x1.tx, .int .i64 x1.N, .int .i64 x1.li, .int .i64 x1.co, .slice x1.ta x1.tl x1.tc, .slice x1.na x1.nl x1.nc, .slice x1.ka x1.kl x1.kc] D := ⟨x1, rfl, h⟩
theorem vR : (prog.info? 38).map (fun i => (i.zero, i.size, i.bytes)) = some (some Zi.val, 8, 120) := by kernel_rfl
def yZ (lo : Nat) (w : World) (v : Value) (l : List (List UInt8 × Ty)) : Prop := ∃ vn vv cn cv, v = .tuple #[vn, vv] /\ Ym Qc lo 9 1 vv.ownBlock w vn cn (l.map (·.1)) /\ Ym Fg lo 38 8 vn.ownBlock w vv cv (l.map (·.2))
theorem wP (pb tb cap d : Nat) (ts : List Tok) (g : Nat) (K : Nat -> Pr Ty) (hg : Xg pb tb cap d ts Z4 g K)
  (f a : Nat) (hf : ts.length <= a + (f + 1)) (w : World) (h : Ps w pb tb cap ts a d) (ok : Yh ts) :
  Calls prog 187 #[pP pb, .func (.func g) #[] #[]] w (Z7 pb tb cap ts d w yZ (Mo ts K (f + 1) a)) := by
 have H := Za h
 have OK := Za ok
 have HG := Za hg
 have Vv := hg.enters
 clear h ok hg
 have HT := Za (V6 pb tb cap a d ts [125] w H.o OK.o)
 have HF := Za hf
 clear hf
 obtain ⟨R, hR⟩ := xE (Mo ts K (f + 1) a)
 rw [<- hR]
 obtain ⟨sb, Ws⟩ := xE (Zh ts a [125])
 rw [<- Ws] at HT
 have HR := Za hR
 have HSB := Za Ws
 clear hR Ws
 have hnot : ∀ (x : Bool) (w : World), (Op.unary .not (.bool x)).run prog w = .ok (.bool (!x)) w := fun _ _ => rfl
 obtain ⟨i0, hi, Wp, Xy, Wr⟩ := info_parts vR
 obtain ⟨s0, si, sz0, sz1, sz2⟩ := info_parts Ri
 go_enter func187, ntmps187
 go_wp2_with fail
 refine HT.o.mono ?_
 rintro e w1 ⟨rfl, Zb, Zc⟩
 have Zu := Za Zb
 have HP := Za Zc
 clear Zb Zc
 go_wp2_with fail
 go_loopg [6, 7, 8] (ts.length + 2) (fun gk vn vv mo wr => ∃ (b m : Nat) (cn cv : List (List Value)) (acc : List (List UInt8 × Ty)) (ns : List (List UInt8)) (ks : List Ty) (mb : Bool), mo = .bool mb /\ xQ (ns = acc.map (·.1) /\ ks = acc.map (·.2)) /\ xQ (Ym Qc w.heap.size 9 1 vv.ownBlock wr vn cn ns) /\ xQ (Ym Fg w.heap.size 38 8 vn.ownBlock wr vv cv ks) /\ xQ (Zl pb w wr) /\ xQ (Ps wr pb tb cap ts b d) /\ xQ (acc.length <= b) /\ xQ (ts.length <= b + (m + 1)) /\ xQ (mb = true -> N3 ts K R acc (m + 1) b /\ ts.length - b + 1 <= gk) /\ xQ (mb = false -> R = .inl (acc, b)))
 case atStart =>
  refine ⟨_, f, [], [], [], [], [], _, rfl, ⟨rfl, rfl⟩, Lb _ _ _ _ _, Lb _ _ _ _ _, Zu, HP, xZ _, ?_, fun h => ?_, fun h => ?_⟩
  ·have := HF.o
   show _ <= _
   split <;> omega
  ·have hs : sb = false := by simpa using h
   rw [hs] at HSB ⊢;exact ⟨by rw [HR.o]; exact wU HSB.o.symm, by have := HF.o; simp; omega⟩
  ·have hs : sb = true := by simpa using h
   rw [hs] at HSB ⊢;rw [HR.o];exact O6 HSB.o.symm
 case round =>
  clear Zu HP HT HR HSB;obtain ⟨b, m, cn, cv, acc, ns, ks, mb, rfl, Tp, HN, HV, Wy, Vy, Pn, U1, HTr, HFa⟩ := hrel
  cases mb with
  | false =>
   have HE := Za (HFa.o rfl);clear HFa HTr;go_wp2_with fail;refine bodyPost_ret (qI rfl _ _ _) rfl ?_;rw [HE.o];exact ⟨Wy.o, Vy.o, _, rfl, _, _, cn, cv, rfl, Tp.o.1 ▸ HN.o, Tp.o.2 ▸ HV.o⟩
  | true =>
   have Px := Za (HTr.o rfl).1;have Ts := (HTr.o rfl).2;clear HFa HTr;obtain ⟨av, lv, rfl⟩ := U9 HN.o.ow;obtain ⟨av2, lv2, rfl⟩ := U9 HV.o.ow;have HO := Za (Jo pb tb cap b d ts wr Vy.o OK.o)
   cases hn : Zr ts b with
   | inr x =>
    obtain ⟨er, li, co⟩ := x;have HE := Za (wT Px.o hn);rw [hn] at HO;clear hn;go_wp2_with fail;refine HO.o.mono ?_;rintro e w2 ⟨Zb, rfl⟩;have Zu := Za (Wy.o.trans Zb);clear Zb;go_wp2_with fail;rw [HE.o];exact ⟨rfl, Zu.o, rfl⟩
   | inl x =>
    obtain ⟨s, b1⟩ := x;have Li := Za hn;have Zt := Gw hn;rw [hn] at HO;clear hn
    have M9 : acc.length <= 8193 := by have := Pn.o; have := OK.o.len; have := Vy.o.lt; omega
    have A8 : ns.length <= 8193 := by rw [Tp.o.1]; simpa using M9
    have hac2 : ks.length <= 8193 := by rw [Tp.o.2]; simpa using M9
    go_wp2_with fail;refine HO.o.mono ?_;rintro e w2 ⟨Zb, Zc, v, rfl, rfl⟩;have Zu := Za (Wy.o.trans Zb);have Q7 := Za Zc;have Xz := Za (HN.o.stay Zb H.o.ltp);have M2 := Za (HV.o.stay Zb H.o.ltp);clear Zb Zc
    go_wp2_with (at_builtin; refine wpList_append_own_at _ rfl (.tmp 19) (.tmp 24) 35 rfl w.heap.size 9 s0 _ 1 16 underlying35 si sz0 sz1 sz2 rfl (by decide) _ _ _ rfl (Xz.o.ow.alloc _) ⟨_, 0, none⟩ 1 1 [.string ⟨s.toArray⟩] rfl rfl (Pt _ _ _) (by simp [Value.oneCell']) (by unfold maxLen; omega) (by omega) (by have := Zu.o.size; simp; omega) ?_)
    intro vn' w4 Z1 Zy _ Ys;have Lg := Za (Xz.o.put (x := s) (rep := Qc) Z1 Zy (Ys.imp_right fun e => ⟨_, e, by simp⟩) ((Zl.refl pb w2).alloc Q7.o.ltp _) H.o.ltp rfl ((Wz.new (rep := Qc) (lo := w2.heap.size) rfl Zu.o.size fun q hq => Xz.o.all q hq).stay ((Zl.refl pb w2).alloc Q7.o.ltp _) H.o.ltp));have P4 := Za ((M2.o.stay ((Zl.refl pb w2).alloc Q7.o.ltp _) H.o.ltp).beside (o' := vn'.ownBlock) Zy (Ys.imp_right fun e => ⟨_, e, by simp, (Z1.lt _ e).2⟩) (by have := Zu.o.size; simp; omega))
    have Qa : xQ (Zl pb w w4) := (Zu.o.alloc H.o.ltp _).grown Zy H.o.ltp fun q hq => (Xz.o.own q hq).1
    have Ju : xQ (Ps w4 pb tb cap ts b1 d) := (Q7.o.alloc _).grown Zy fun q hq => xT H.o.ltp (Xz.o.own q hq).1
    obtain ⟨av3, lv3, rfl⟩ := U9 Z1;clear Z1 Zy Ys Xz M2 Zu Q7;have HM := Za (Vw pb tb cap b1 d ts [58] w4 Ju.o OK.o)
    cases hm : Ze ts b1 [58] with
    | inr x =>
     obtain ⟨er, li, co⟩ := x;have HE := Za (wR Px.o Li.o hm);rw [hm] at HM;clear hm;go_wp2_with fail;refine HM.o.mono ?_;rintro e w5 ⟨Zb, rfl⟩;have Lj := Za (Qa.o.trans Zb);clear Zb;go_wp2_with fail;rw [HE.o];exact ⟨rfl, Lj.o, rfl⟩
    | inl x =>
     obtain ⟨u, b2⟩ := x;have N8 := Za hm;have Z0 := Ck hm;rw [hm] at HM;clear hm;go_wp2_with fail;refine HM.o.mono ?_;rintro e w5 ⟨Zb, Zc, v, rfl, _⟩;have Lj := Za (Qa.o.trans Zb);have HPS5 := Za Zc;have N7 := Za (Lg.o.stay Zb H.o.ltp);have M3 := Za (P4.o.stay Zb H.o.ltp);clear Zb Zc HM;have Ky := Za (HG.o.calls b2 w5 HPS5.o)
     cases ho : K b2 with
     | inr x =>
      obtain ⟨er, li, co⟩ := x;have HE := Za (wV Px.o Li.o N8.o ho);rw [ho] at Ky;clear ho;go_wp2_with fail;refine Ky.o.mono ?_;rintro e w6 ⟨Zb, rfl⟩;have Hw := Za (Lj.o.trans Zb);clear Zb;go_wp2_with fail;rw [HE.o];exact ⟨rfl, Hw.o, rfl⟩
     | inl x =>
      obtain ⟨D1, b3⟩ := x;have HKo := Za ho;have Q1 := HG.o.up _ _ _ ho;rw [ho] at Ky;clear ho;go_wp2_with fail;refine Ky.o.mono ?_;rintro e w6 ⟨Zb, Zc, v, rfl, hv⟩;obtain ⟨x1, rfl, hv⟩ := hv;have Hw := Za (Lj.o.trans Zb);have Fc := Za Zc;have Lh := Za (N7.o.stay Zb H.o.ltp);have Lk := Za (M3.o.stay Zb H.o.ltp);have Hx := Za hv;clear Zb Zc hv
      go_wp2_with (at_builtin; refine wpList_append_own_at _ rfl (.tmp 30) (.tmp 34) 36 rfl w.heap.size 38 i0 _ 8 120 underlying36 hi Wp Xy Wr rfl (by decide) _ _ _ rfl (Lk.o.ow.alloc _) ⟨_, 0, none⟩ 1 1 [.int .i64 x1.k, .string x1.tx, .int .i64 x1.N, .int .i64 x1.li, .int .i64 x1.co, .slice x1.ta x1.tl x1.tc, .slice x1.na x1.nl x1.nc, .slice x1.ka x1.kl x1.kc] rfl rfl (Pt _ _ _) (by simp [Value.oneCell']) (by unfold maxLen; omega) (by omega) (by have := Hw.o.size; simp; omega) ?_)
      intro vv' w7 Z1 Zy _ Ys;have J0 := Za (Lk.o.put (x := D1) (rep := Fg) Z1 Zy (Ys.imp_right fun e => ⟨_, e, by simp⟩) ((Zl.refl pb w6).alloc Fc.o.ltp _) H.o.ltp rfl ((Wz.new (rep := Fg) (uZ Hx.o) Lj.o.size fun q hq => M3.o.all q hq).stay ((Zl.refl pb w6).alloc Fc.o.ltp _) H.o.ltp));have Kw := Za ((Lh.o.stay ((Zl.refl pb w6).alloc Fc.o.ltp _) H.o.ltp).beside (o' := vv'.ownBlock) Zy (Ys.imp_right fun e => ⟨_, e, by simp, (Z1.lt _ e).2⟩) (by have := Hw.o.size; simp; omega))
      have HST7 : xQ (Zl pb w w7) := (Hw.o.alloc H.o.ltp _).grown Zy H.o.ltp fun q hq => (Lk.o.own q hq).1
      have HPS7 : xQ (Ps w7 pb tb cap ts b3 d) := (Fc.o.alloc _).grown Zy fun q hq => xT H.o.ltp (Lk.o.own q hq).1
      clear Z1 Zy Ys Ky;have HGo := Za (vJ pb tb cap b3 d ts [44] [125] w7 HPS7.o OK.o)
      cases hg : Gq ts b3 [44] [125] with
      | inr x =>
       obtain ⟨er, li, co⟩ := x;have HE := Za (wS Px.o Li.o N8.o HKo.o hg);rw [hg] at HGo;clear hg;go_wp2_with fail;refine HGo.o.mono ?_;rintro e w8 ⟨Zb, rfl⟩;have Sg := Za (HST7.o.trans Zb);clear Zb;go_wp2_with fail;rw [HE.o];exact ⟨rfl, Sg.o, rfl⟩
      | inl x =>
       obtain ⟨gb, b4⟩ := x;have Fa := Za hg;rw [hg] at HGo;clear hg;go_wp2_with fail;refine HGo.o.mono ?_;rintro e w8 ⟨Zb, Zc, v, rfl, rfl⟩;have Sg := Za (HST7.o.trans Zb);have Se := Za Zc;have Kx := Za (Kw.o.stay Zb H.o.ltp);have Ll := Za (J0.o.stay Zb H.o.ltp);clear Zb Zc HGo;go_wp2_with fail
       have Ha : b3 <= b4 := by
        cases gb with
        | true => have := (Ie Px.o Li.o N8.o HKo.o Fa.o).2; omega
        | false => exact (Id Px.o Li.o N8.o HKo.o Fa.o).2
       go_roundg (ts.length - b4 + 1)
       case measure => have := Se.o.lt; omega
       case rel =>
        refine ⟨b4, m - 1, _, _, acc ++ [(s, D1)], _, _, gb, rfl, ⟨?_, ?_⟩, Kx, Ll, Sg, Se, ?_, ?_, fun h => ?_, fun h => ?_⟩
        ·rw [Tp.o.1]; simp
        ·rw [Tp.o.2]; simp
        ·have := Pn.o
         show (acc ++ [(s, D1)]).length <= b4;simp;omega
        ·have := U1.o
         show _ <= _;omega
        ·subst h
         have h1 := (Ie Px.o Li.o N8.o HKo.o Fa.o)
         have := Se.o.lt;have := U1.o
         obtain ⟨q, rfl⟩ : ∃ q, m = q + 1 := ⟨m - 1, by omega⟩
         exact ⟨h1.1, xR⟩
        ·subst h
         exact (Id Px.o Li.o N8.o HKo.o Fa.o).1
theorem wH {lo : Nat} {w : World} : ∀ (l : List (Value × Ty)), (∀ p ∈ l, Z4 lo w p.1 p.2) -> ∃ m, ∀ p ∈ l, ∃ x : NV, p.1 = x.val /\ Bx w lo m x p.2
 | [], _ => ⟨0, fun _ h => nomatch h⟩
 | p :: l, h => by
  obtain ⟨x, e, m1, h1⟩ := h p (xM ..)
  obtain ⟨m2, h2⟩ := wH l fun q hq => h q (xW _ hq)
  refine ⟨max m1 m2, fun q hq => ?_⟩;rcases List.mem_cons.1 hq with rfl | hq
  ·exact ⟨x, e, Ga h1 (Nat.le_max_left _ _)⟩
  ·obtain ⟨y, e2, h3⟩ := h2 q hq
   exact ⟨y, e2, Ga h3 (Nat.le_max_right _ _)⟩
theorem qN {B et : Nat} {o : Option Nat} {wx : World} {v : Value} {cs : List (List Value)} {xs : List Ty} (h : Ym Fg B et 8 o wx v cs xs) : ∃ (a : Option Addr) (cap m : Nat), v = .slice a xs.length cap /\ xs.length <= cap /\ Ss wx B m a xs := by
 obtain ⟨a, cap, e, S7, hr⟩ := h.form uY
 have Ux : ∀ p ∈ (cs.map fun c => (Value.agg c.toArray)).zip xs, Z4 B wx p.1 p.2 := by
  intro p hp;obtain ⟨i, hi, rfl⟩ := List.mem_iff_getElem.1 hp;simp only [List.getElem_zip, List.getElem_map];simp only [List.length_zip, List.length_map] at hi;exact (h.made i (by omega) (by omega)).now uY
 obtain ⟨m, hm⟩ := wH _ Ux
 refine ⟨a, cap, m, e, S7, ?_⟩
 rcases h.ow.2 with ⟨e2, h0⟩ | ⟨g, cap2, cur, e2, hg, hh, _⟩
 ·exact .inl (List.length_eq_zero_iff.1 h0)
 ·rw [e] at e2
  injection e2 with e3 e4 e5;refine .inr ⟨g, 0, e3, hg, ⟨_, _, hh⟩, fun i hi => ?_⟩
  have Qs : i < cs.length := by rw [h.len]; exact hi
  obtain ⟨x, ex, hT⟩ := hm (.agg cs[i].toArray, xs[i]) (List.mem_iff_getElem.2 ⟨i, by simp; omega, by simp⟩)
  have U6 : ∀ j, j < 8 -> wx.cell? ⟨g, 0 + i * 8 + j, none⟩ = cs[i][j]? := by
   intro j hj;have ho := h.ow;rw [e, e3] at ho;rw [show 0 + i * 8 + j = i * 8 + j by omega, ho.cellAt (i * 8 + j) (by omega)];exact Cw cs h.each i Qs j hj
  have hcs : cs[i] = [.int .i64 x.k, .string x.tx, .int .i64 x.N, .int .i64 x.li, .int .i64 x.co, .slice x.ta x.tl x.tc, .slice x.na x.nl x.nc, .slice x.ka x.kl x.kc] := by
   have ex' : Value.agg cs[i].toArray = x.val := ex;injection ex' with ex'
   simpa using congrArg Array.toList ex'
  rw [hcs] at U6;exact ⟨x, ⟨U6 0 (by omega), U6 1 (by omega), U6 2 (by omega), U6 3 (by omega), U6 4 (by omega), U6 5 (by omega), U6 6 (by omega), U6 7 (by omega)⟩, hT⟩
abbrev Gd (na : Option Addr) (nl nc : Nat) (ka : Option Addr) (kl kc : Nat) : NV := ⟨8, ⟨#[]⟩, 0, 0, 0, none, 0, 0, na, nl, nc, ka, kl, kc⟩
abbrev G5 (s : List UInt8) (kb : Nat) : NV := ⟨10, ⟨s.toArray⟩, 0, 0, 0, none, 0, 0, none, 0, 0, some ⟨kb, 0, none⟩, 2, 2⟩
theorem qG {lo : Nat} {w : World} {l : List (List UInt8 × Ty)} {vf : Value} (h : yZ lo w vf l) (hl : l.length <= 8193) : ∃ a c a' c', vf = .tuple #[.slice a l.length c, .slice a' l.length c'] /\ Yi lo w (Gd a l.length c a' l.length c') (Zn 8 [] 0 0 0 [] (l.map (·.1)) (l.map (·.2))) := by
 obtain ⟨vn, vv, cn, cv, rfl, h1, h2⟩ := h
 obtain ⟨a, c, rfl, hc, hN⟩ := R9 h1
 obtain ⟨a', c', m, rfl, Hb, hK⟩ := qN h2
 refine ⟨a, c, a', c', by simp, m + 1, [], l.map (·.1), l.map (·.2), rfl, ⟨rfl, by simp, by simp⟩, ⟨xZ _, ?_, ?_⟩, .inl rfl, hN, hK⟩
 ·simp only [List.length_map]; omega
 ·simp only [List.length_map]; omega
theorem bI (pb tb cap d : Nat) (ts : List Tok) (E : Nat -> Pr Ty) (hE : Xg pb tb cap d ts Z4 19 E) (ok : Yh ts) (a : Nat) (h1 : Zh ts a [125] = true) (w : World) (h : Ps w pb tb cap ts a d) :
  Calls prog 184 #[pP pb] w (Z7 pb tb cap ts d w Z4 ((Mo ts E ts.length a).go fun l b => .inl (Zn 8 [] 0 0 0 [] (l.map (·.1)) (l.map (·.2)), b))) := by
 have H := Za h
 have OK := Za ok
 have hp := h.ltp
 have Tn := Za hE
 have Y7 := Za h1
 obtain ⟨ff, hff⟩ : ∃ f, f + 1 = ts.length := ⟨ts.length - 1, by have := ok.pos; omega⟩
 have C0 := Za (Vz h Zi.obj)
 rw [<- hff]
 obtain ⟨R, hR⟩ : ∃ R : Pr Ty, R = ((Mo ts E (ff + 1) a).go fun l b => .inl (Zn 8 [] 0 0 0 [] (l.map (·.1)) (l.map (·.2)), b)) := ⟨_, rfl⟩
 rw [<- hR]
 have Z9 := Za hR
 clear h ok hR hE h1
 go_enter func184, ntmps184
 go_wp2_with fail
 refine (Vo pb tb cap a _ 1 ts [[125]] _ _ C0.o.ps.rd (by simp) (by simp)).mono ?_
 rw [Ul, Y7.o]
 rintro e w1 ⟨rfl, hb⟩
 have C1 := Za (C0.o.below hb)
 clear hb
 go_wp2_with fail
 refine (wP pb tb cap d ts 19 E Tn.o ff a (by omega) _ C1.o.ps OK.o).mono ?_
 intro e w2 Zg
 rcases Yj Zg with ⟨er, li, co, hr, rfl, Zb⟩ | ⟨l, b, v, hr, rfl, Zb, Zc, hv⟩
 ·have HE : xQ (R = .inr (er, li, co)) := by rw [Z9.o, hr]; exact rfl
  have HF := Za (C1.o.st.trans Zb);clear hr Zb Zg;go_wp2_with fail;exact ⟨rfl, HF.o, by rw [HE.o]⟩
 have Yk : xQ (R = .inl (Zn 8 [] 0 0 0 [] (l.map (·.1)) (l.map (·.2)), b)) := by rw [Z9.o, hr]; exact rfl
 obtain ⟨na, nc, ka, kc, rfl, hv2⟩ := qG hv (by have := (O5 OK.o hr).1; have := OK.o.len; omega)
 have C2 := Za ((C1.o.step Zb Zc).addN hv2 C1.o.sz)
 clear hr Zb Zc Zg hv hv2
 obtain ⟨⟨r0, r1, r2, r3, r4, r5, r6, r7⟩, ⟨f0, f1, f2, f3, f4, f5, f6, f7⟩, Yn⟩ := Zm (x := Zi) (C2.o.b0)
 go_wp2_with fail
 rw [Yk.o]
 refine r38 rfl rfl (Xn (x := Gd na l.length nc ka l.length kc) C2.o.b0) rfl ⟨Wg C2.o.st hp (xR) (Gd na l.length nc ka l.length kc), Wn C2.o.ps hp (Gd na l.length nc ka l.length kc), _, rfl, Gd na l.length nc ka l.length kc, rfl, ?_⟩
 exact ((C2.o.n0).put8 (xU _) (Gd na l.length nc ka l.length kc)).lower (Nat.le_succ _)
theorem bH (pb tb cap d : Nat) (ts : List Tok) (E : Nat -> Pr Ty) (hE : Xg pb tb cap d ts Z4 19 E) (ok : Yh ts) (a : Nat) (h1 : Zh ts a [125] = false) (h2 : ((Zk ts a).kind == 1 && Zh ts (a + 1) [58]) = true) (w : World) (h : Ps w pb tb cap ts a d) :
  Calls prog 184 #[pP pb] w (Z7 pb tb cap ts d w Z4 ((Mo ts E ts.length a).go fun l b => .inl (Zn 8 [] 0 0 0 [] (l.map (·.1)) (l.map (·.2)), b))) := by
 have H := Za h
 have OK := Za ok
 have hp := h.ltp
 have Tn := Za hE
 have Y7 := Za h1
 have Yl := Za (fun w h => xX pb tb cap a d ts w h ok)
 rw [h2] at Yl
 obtain ⟨ff, hff⟩ : ∃ f, f + 1 = ts.length := ⟨ts.length - 1, by have := ok.pos; omega⟩
 have C0 := Za (Vz h Zi.obj)
 rw [<- hff]
 obtain ⟨R, hR⟩ : ∃ R : Pr Ty, R = ((Mo ts E (ff + 1) a).go fun l b => .inl (Zn 8 [] 0 0 0 [] (l.map (·.1)) (l.map (·.2)), b)) := ⟨_, rfl⟩
 rw [<- hR]
 have Z9 := Za hR
 clear h ok hR hE h1 h2
 go_enter func184, ntmps184
 go_wp2_with fail
 refine (Vo pb tb cap a _ 1 ts [[125]] _ _ C0.o.ps.rd (by simp) (by simp)).mono ?_
 rw [Ul, Y7.o]
 rintro e w1 ⟨rfl, hb⟩
 have C1 := Za (C0.o.below hb)
 clear hb
 go_wp2_with fail
 refine (Yl.o _ C1.o.ps).mono ?_
 rintro e w2 ⟨rfl, hb⟩
 have C2 := Za (C1.o.below hb)
 clear hb
 go_wp2_with fail
 refine (wP pb tb cap d ts 19 E Tn.o ff a (by omega) _ C2.o.ps OK.o).mono ?_
 intro e w3 Zg
 rcases Yj Zg with ⟨er, li, co, hr, rfl, Zb⟩ | ⟨l, b, v, hr, rfl, Zb, Zc, hv⟩
 ·have HE : xQ (R = .inr (er, li, co)) := by rw [Z9.o, hr]; exact rfl
  have HF := Za (C2.o.st.trans Zb);clear hr Zb Zg;go_wp2_with fail;exact ⟨rfl, HF.o, by rw [HE.o]⟩
 have Yk : xQ (R = .inl (Zn 8 [] 0 0 0 [] (l.map (·.1)) (l.map (·.2)), b)) := by rw [Z9.o, hr]; exact rfl
 obtain ⟨na, nc, ka, kc, rfl, hv2⟩ := qG hv (by have := (O5 OK.o hr).1; have := OK.o.len; omega)
 have C3 := Za ((C2.o.step Zb Zc).addN hv2 C2.o.sz)
 clear hr Zb Zc Zg hv hv2
 obtain ⟨⟨r0, r1, r2, r3, r4, r5, r6, r7⟩, ⟨f0, f1, f2, f3, f4, f5, f6, f7⟩, Yn⟩ := Zm (x := Zi) (C3.o.b0)
 go_wp2_with fail
 rw [Yk.o]
 refine r38 rfl rfl (Xn (x := Gd na l.length nc ka l.length kc) C3.o.b0) rfl ⟨Wg C3.o.st hp (xR) (Gd na l.length nc ka l.length kc), Wn C3.o.ps hp (Gd na l.length nc ka l.length kc), _, rfl, Gd na l.length nc ka l.length kc, rfl, ?_⟩
 exact ((C3.o.n0).put8 (xU _) (Gd na l.length nc ka l.length kc)).lower (Nat.le_succ _)
theorem bJ (pb tb cap d : Nat) (ts : List Tok) (E : Nat -> Pr Ty) (hE : Xg pb tb cap d ts Z4 19 E) (ok : Yh ts) (a : Nat) (h1 : Zh ts a [125] = false) (h2 : ((Zk ts a).kind == 1 && Zh ts (a + 1) [58]) = false) (w : World) (h : Ps w pb tb cap ts a d) :
  Calls prog 184 #[pP pb] w (Z7 pb tb cap ts d w Z4 ((E a).go fun x b => (Ze ts b [119, 105, 116, 104]).go fun _ b => (Zr ts b).go fun s b => (Ze ts b [58]).go fun _ b => (E b).go fun y b => (Ze ts b [125]).go fun _ b => .inl (Zn 10 s 0 0 0 [] [] [x, y], b))) := by
 have H := Za h
 have OK := Za ok
 have hp := h.ltp
 have Tn := Za hE
 have Y7 := Za h1
 have Yl := Za (fun w h => xX pb tb cap a d ts w h ok)
 rw [h2] at Yl
 have C0 := Za (Vz h Zi.obj)
 obtain ⟨R, hR⟩ : ∃ R : Pr Ty, R = ((E a).go fun x b => (Ze ts b [119, 105, 116, 104]).go fun _ b => (Zr ts b).go fun s b => (Ze ts b [58]).go fun _ b => (E b).go fun y b => (Ze ts b [125]).go fun _ b => .inl (Zn 10 s 0 0 0 [] [] [x, y], b)) := ⟨_, rfl⟩
 rw [<- hR]
 have Z9 := Za hR
 clear h ok hR hE h1 h2
 go_enter func184, ntmps184
 go_wp2_with fail
 refine (Vo pb tb cap a _ 1 ts [[125]] _ _ C0.o.ps.rd (by simp) (by simp)).mono ?_
 rw [Ul, Y7.o]
 rintro e w1 ⟨rfl, hb⟩
 have C1 := Za (C0.o.below hb)
 clear hb
 go_wp2_with fail
 refine (Yl.o _ C1.o.ps).mono ?_
 rintro e w2 ⟨rfl, hb⟩
 have C2 := Za (C1.o.below hb)
 clear hb
 go_wp2_with fail
 refine (Tn.o.calls a _ C2.o.ps).mono ?_
 intro e w3 Zg
 rcases Yj Zg with ⟨er, li, co, hr, rfl, Zb⟩ | ⟨D1, b1, v, hr, rfl, Zb, Zc, hv⟩
 ·have HE : xQ (R = .inr (er, li, co)) := by rw [Z9.o, hr]; exact rfl
  have HF := Za (C2.o.st.trans Zb);clear hr Zb Zg;go_wp2_with fail;exact ⟨rfl, HF.o, by rw [HE.o]⟩
 have Yk : xQ (R = (Ze ts b1 [119, 105, 116, 104]).go fun _ b => (Zr ts b).go fun s b => (Ze ts b [58]).go fun _ b => (E b).go fun y b => (Ze ts b [125]).go fun _ b => .inl (Zn 10 s 0 0 0 [] [] [D1, y], b)) := by rw [Z9.o, hr]; exact rfl
 obtain ⟨x1, rfl, hv⟩ := hv
 have C3 := Za ((C2.o.step Zb Zc).addN hv C2.o.sz)
 have C4 := Za (C3.o.alloc (x1.obj))
 clear hr Zb Zc Zg hv
 go_wp2_with fail
 refine (Vw pb tb cap b1 d ts [119, 105, 116, 104] _ C4.o.ps OK.o).mono ?_
 intro e w4 Zg
 rcases Yj Zg with ⟨er, li, co, hr, rfl, Zb⟩ | ⟨u2, b2, v2, hr, rfl, Zb, Zc, hv⟩
 ·have HE : xQ (R = .inr (er, li, co)) := by rw [Yk.o, hr]; exact rfl
  have HF := Za (C4.o.st.trans Zb);clear hr Zb Zg;go_wp2_with fail;exact ⟨rfl, HF.o, by rw [HE.o]⟩
 have Zz : xQ (R = (Zr ts b2).go fun s b => (Ze ts b [58]).go fun _ b => (E b).go fun y b => (Ze ts b [125]).go fun _ b => .inl (Zn 10 s 0 0 0 [] [] [D1, y], b)) := by rw [Yk.o, hr]; exact rfl
 have C5 := Za ((C4.o.step Zb Zc))
 clear hr Zb Zc Zg hv
 go_wp2_with fail
 refine (Jo pb tb cap b2 d ts _ C5.o.ps OK.o).mono ?_
 intro e w5 Zg
 rcases Yj Zg with ⟨er, li, co, hr, rfl, Zb⟩ | ⟨s, b3, v3, hr, rfl, Zb, Zc, hv⟩
 ·have HE : xQ (R = .inr (er, li, co)) := by rw [Zz.o, hr]; exact rfl
  have HF := Za (C5.o.st.trans Zb);clear hr Zb Zg;go_wp2_with fail;exact ⟨rfl, HF.o, by rw [HE.o]⟩
 have Yt : xQ (R = (Ze ts b3 [58]).go fun _ b => (E b).go fun y b => (Ze ts b [125]).go fun _ b => .inl (Zn 10 s 0 0 0 [] [] [D1, y], b)) := by rw [Zz.o, hr]; exact rfl
 subst hv
 have C6 := Za ((C5.o.step Zb Zc))
 clear hr Zb Zc Zg  
 go_wp2_with fail
 refine (Vw pb tb cap b3 d ts [58] _ C6.o.ps OK.o).mono ?_
 intro e w6 Zg
 rcases Yj Zg with ⟨er, li, co, hr, rfl, Zb⟩ | ⟨u4, b4, v4, hr, rfl, Zb, Zc, hv⟩
 ·have HE : xQ (R = .inr (er, li, co)) := by rw [Yt.o, hr]; exact rfl
  have HF := Za (C6.o.st.trans Zb);clear hr Zb Zg;go_wp2_with fail;exact ⟨rfl, HF.o, by rw [HE.o]⟩
 have Xi : xQ (R = (E b4).go fun y b => (Ze ts b [125]).go fun _ b => .inl (Zn 10 s 0 0 0 [] [] [D1, y], b)) := by rw [Yt.o, hr]; exact rfl
 have C7 := Za ((C6.o.step Zb Zc))
 clear hr Zb Zc Zg hv
 go_wp2_with fail
 refine (Tn.o.calls b4 _ C7.o.ps).mono ?_
 intro e w7 Zg
 rcases Yj Zg with ⟨er, li, co, hr, rfl, Zb⟩ | ⟨D2, b5, v, hr, rfl, Zb, Zc, hv⟩
 ·have HE : xQ (R = .inr (er, li, co)) := by rw [Xi.o, hr]; exact rfl
  have HF := Za (C7.o.st.trans Zb);clear hr Zb Zg;go_wp2_with fail;exact ⟨rfl, HF.o, by rw [HE.o]⟩
 have Xq : xQ (R = (Ze ts b5 [125]).go fun _ b => .inl (Zn 10 s 0 0 0 [] [] [D1, D2], b)) := by rw [Xi.o, hr]; exact rfl
 obtain ⟨x2, rfl, hv⟩ := hv
 have C8 := Za ((C7.o.step Zb Zc).addN hv C7.o.sz)
 have C9 := Za (C8.o.alloc (x2.obj))
 clear hr Zb Zc Zg hv
 go_wp2_with fail
 refine (Vw pb tb cap b5 d ts [125] _ C9.o.ps OK.o).mono ?_
 intro e w8 Zg
 rcases Yj Zg with ⟨er, li, co, hr, rfl, Zb⟩ | ⟨u6, b6, v6, hr, rfl, Zb, Zc, hv⟩
 ·have HE : xQ (R = .inr (er, li, co)) := by rw [Xq.o, hr]; exact rfl
  have HF := Za (C9.o.st.trans Zb);clear hr Zb Zg;go_wp2_with fail;exact ⟨rfl, HF.o, by rw [HE.o]⟩
 have Te : xQ (R = .inl (Zn 10 s 0 0 0 [] [] [D1, D2], b6)) := by rw [Xq.o, hr]; exact rfl
 have C10 := Za ((C9.o.step Zb Zc))
 clear hr Zb Zc Zg hv
 obtain ⟨⟨r0, r1, r2, r3, r4, r5, r6, r7⟩, ⟨f0, f1, f2, f3, f4, f5, f6, f7⟩, Yn⟩ := Zm (x := Zi) (C10.o.b2)
 obtain ⟨⟨n0, n1, n2, n3, n4, n5, n6, n7⟩, _, Kj⟩ := Zm (x := x1) C10.o.b1
 obtain ⟨⟨m0, m1, m2, m3, m4, m5, m6, m7⟩, _, B6⟩ := Zm (x := x2) C10.o.b0
 have Vq : ¬ w3.heap.size = w.heap.size := by have := C3.o.sz; omega
 have Wl : ¬ w7.heap.size = w.heap.size := by have := C8.o.sz; omega
 go_wp2_with fail
 rw [Te.o]
 refine r38 rfl rfl ((xA (show w.heap.size < (put8 w8 w.heap.size (G5 s w8.heap.size)).heap.size by rw [Q3]; exact Yn)).trans (Xn (x := G5 s w8.heap.size) C10.o.b2)) rfl ⟨(Wg C10.o.st hp (xR) (G5 s w8.heap.size)).alloc hp _, (Wn C10.o.ps hp (G5 s w8.heap.size)).alloc _, _, rfl, G5 s w8.heap.size, rfl, ?_⟩
 have hk : ((put8 w8 w.heap.size (G5 s w8.heap.size)).alloc (.cells #[.int .i64 x1.k, .string x1.tx, .int .i64 x1.N, .int .i64 x1.li, .int .i64 x1.co, .slice x1.ta x1.tl x1.tc, .slice x1.na x1.nl x1.nc, .slice x1.ka x1.kl x1.kc, .int .i64 x2.k, .string x2.tx, .int .i64 x2.N, .int .i64 x2.li, .int .i64 x2.co, .slice x2.ta x2.tl x2.tc, .slice x2.na x2.nl x2.nc, .slice x2.ka x2.kl x2.kc] 38)).heap[w8.heap.size]? = some (.cells #[.int .i64 x1.k, .string x1.tx, .int .i64 x1.N, .int .i64 x1.li, .int .i64 x1.co, .slice x1.ta x1.tl x1.tc, .slice x1.na x1.nl x1.nc, .slice x1.ka x1.kl x1.kc, .int .i64 x2.k, .string x2.tx, .int .i64 x2.N, .int .i64 x2.li, .int .i64 x2.co, .slice x2.ta x2.tl x2.tc, .slice x2.na x2.nl x2.nc, .slice x2.ka x2.kl x2.kc] 38) := by
  have := xL (put8 w8 w.heap.size (G5 s w8.heap.size)) (.cells #[.int .i64 x1.k, .string x1.tx, .int .i64 x1.N, .int .i64 x1.li, .int .i64 x1.co, .slice x1.ta x1.tl x1.tc, .slice x1.na x1.nl x1.nc, .slice x1.ka x1.kl x1.kc, .int .i64 x2.k, .string x2.tx, .int .i64 x2.N, .int .i64 x2.li, .int .i64 x2.co, .slice x2.ta x2.tl x2.tc, .slice x2.na x2.nl x2.nc, .slice x2.ka x2.kl x2.kc] 38);rw [Q3] at this
  exact this
 exact (Jn ((C10.o.n1.put8 (xU _) (G5 s w8.heap.size)).alloc _) ((C10.o.n0.put8 (xU _) (G5 s w8.heap.size)).alloc _) hk C10.o.sz (G5 s w8.heap.size) [] [] ⟨rfl, rfl⟩ ⟨rfl, xZ _, 0, .inl rfl⟩ ⟨rfl, xZ _, .inl rfl⟩).lower (Nat.le_succ _)
def A6 (ts : List Tok) (E : Nat -> Pr Ty) (f a : Nat) : Pr Ty :=
 if Zh ts a [125] then (Mo ts E f a).go fun l b => .inl (Zn 8 [] 0 0 0 [] (l.map (·.1)) (l.map (·.2)), b)
 else if (Zk ts a).kind == 1 && Zh ts (a + 1) [58] then (Mo ts E f a).go fun l b => .inl (Zn 8 [] 0 0 0 [] (l.map (·.1)) (l.map (·.2)), b)
 else (E a).go fun x b => (Ze ts b [119, 105, 116, 104]).go fun _ b => (Zr ts b).go fun s b => (Ze ts b [58]).go fun _ b => (E b).go fun y b => (Ze ts b [125]).go fun _ b => .inl (Zn 10 s 0 0 0 [] [] [x, y], b)
theorem bG (pb tb cap d : Nat) (ts : List Tok) (E : Nat -> Pr Ty) (hE : Xg pb tb cap d ts Z4 19 E) (ok : Yh ts) (a : Nat) (w : World) (h : Ps w pb tb cap ts a d) :
  Calls prog 184 #[pP pb] w (Z7 pb tb cap ts d w Z4 (A6 ts E ts.length a)) := by
 unfold A6
 by_cases h1 : Zh ts a [125] = true
 ·rw [if_pos h1]
  exact bI pb tb cap d ts E hE ok a h1 w h
 ·rw [if_neg h1]
  by_cases h2 : ((Zk ts a).kind == 1 && Zh ts (a + 1) [58]) = true
  ·rw [if_pos h2]
   exact bH pb tb cap d ts E hE ok a (by simpa using h1) h2 w h
  ·rw [if_neg h2]
   exact bJ pb tb cap d ts E hE ok a (by simpa using h1) (by simpa using h2) w h
end Go.Proofs.YtfoejkhfdiodhaaGreatDoor
namespace Go.Proofs.YtfoejkhfdiodhaaGreatDoor.Lx
open Go.Proofs.Tryz
open Go.RowKit
theorem Za {p : Prop} (h : p) : xQ p := h
theorem Mv {x y : Bool} (h : x = y) : Ending.returned (.bool x) = .returned (.bool y) := by rw [h]
theorem F1 (b : UInt8) (w : World) : Calls prog 104 #[.int .u8 b.toNat] w fun e w' => e = .returned (.bool (V2 b)) /\ w' = w := by
 have Bn : (b.toNat < 65) ∨ (65 <= b.toNat /\ b.toNat <= 90) ∨ (90 < b.toNat /\ b.toNat < 95) ∨ b.toNat = 95 ∨ b.toNat = 96 ∨ (97 <= b.toNat /\ b.toNat <= 122) ∨ 122 < b.toNat := by omega
 unfold V2
 generalize b.toNat = n at Bn ⊢
 rcases Bn with h | ⟨h1, h2⟩ | ⟨h1, h2⟩ | rfl | rfl | ⟨h1, h2⟩ | h
 ·have e : ((n : Int) == 95) = false := by simp; omega
  go_enter func104, ntmps104;go_wp2;go_ret;exact ⟨Mv (by first | rfl | (simp; done) | (simp; omega) | (rw [Bool.eq_iff_iff]; simp; omega)), rfl⟩
 ·go_enter func104, ntmps104
  go_wp2;go_ret;exact ⟨Mv (by first | rfl | (simp; done) | (simp; omega) | (rw [Bool.eq_iff_iff]; simp; omega)), rfl⟩
 ·have e : ((n : Int) == 95) = false := by simp; omega
  go_enter func104, ntmps104;go_wp2;go_ret;exact ⟨Mv (by first | rfl | (simp; done) | (simp; omega) | (rw [Bool.eq_iff_iff]; simp; omega)), rfl⟩
 ·go_enter func104, ntmps104
  go_wp2;go_ret;exact ⟨rfl, rfl⟩
 ·go_enter func104, ntmps104
  go_wp2;go_ret;exact ⟨rfl, rfl⟩
 ·go_enter func104, ntmps104
  go_wp2;go_ret;exact ⟨Mv (by first | rfl | (simp; done) | (simp; omega) | (rw [Bool.eq_iff_iff]; simp; omega)), rfl⟩
 ·have e : ((n : Int) == 95) = false := by simp; omega
  go_enter func104, ntmps104;go_wp2;go_ret;exact ⟨Mv (by first | rfl | (simp; done) | (simp; omega) | (rw [Bool.eq_iff_iff]; simp; omega)), rfl⟩
theorem Ad (b : UInt8) (w : World) : Calls prog 108 #[.int .u8 b.toNat] w fun e w' => e = .returned (.bool (Y9 b)) /\ w' = w := by
 have Bn : (b.toNat < 48) ∨ (48 <= b.toNat /\ b.toNat <= 57) ∨ 57 < b.toNat := by omega
 unfold Y9
 generalize b.toNat = n at Bn ⊢
 rcases Bn with h | ⟨h1, h2⟩ | h
 all_goals
  go_enter func108, ntmps108;go_wp2;go_ret;exact ⟨Mv (by first | rfl | (simp; done) | (simp; omega) | (rw [Bool.eq_iff_iff]; simp; omega)), rfl⟩
theorem zB (b : UInt8) (w : World) : Calls prog 106 #[.int .u8 b.toNat] w fun e w' => e = .returned (.bool (Y8 b)) /\ w' = w := by
 have s := F1 b
 have d := Ad b
 unfold Y8
 cases h1 : V2 b
 ·rw [h1] at s
  have S := Za s;have D := Za d;clear h1 s d;go_enter func106, ntmps106;go_wp2_with fail;refine (S.o _).mono ?_;rintro e w' ⟨rfl, rfl⟩;go_wp2_with fail;refine (D.o _).mono ?_;rintro e w' ⟨rfl, rfl⟩;go_wp2;go_ret;exact ⟨rfl, rfl⟩
 ·rw [h1] at s
  have S := Za s;clear h1 s d;go_enter func106, ntmps106;go_wp2_with fail;refine (S.o _).mono ?_;rintro e w' ⟨rfl, rfl⟩;go_wp2;go_ret;exact ⟨rfl, rfl⟩
theorem gE (b : UInt8) (w : World) : Calls prog 103 #[.int .u8 b.toNat] w fun e w' => e = .returned (.bool (Mc b)) /\ w' = w := by
 unfold Mc
 generalize b.toNat = n
 by_cases h : n = 10
 ·subst h
  go_enter func103, ntmps103;go_wp2;go_ret;exact ⟨rfl, rfl⟩
 ·have e : ((n : Int) == 10) = false := by simp; omega
  go_enter func103, ntmps103;go_wp2;go_ret;exact ⟨Mv (by simp [h]; omega), rfl⟩
theorem parse_c (s : ByteArray) (hs : s.size <= 9223372036854775807) (w : World) : Calls prog 109 #[.string s] w fun e w' => e = .returned (Fz (Pi s.data.toList)) /\ w' = w := by
 by_cases hz : s.size = 0
 ·have he : s.toList.isEmpty = true := by rw [Ed]; simp [hz]
  rw [tS hz];go_enter func109, ntmps109;go_wp2
  go_ret2
  exact ⟨rfl, rfl⟩
 have h0 : 0 < s.size := by omega
 have he : s.toList.isEmpty = false := by rw [Ed]; simp [hz]
 by_cases hn : (s[0].toNat : Int) = 48 /\ 1 < s.size
 ·rw [tT h0 hn.1 hn.2]
  obtain ⟨Kj, hn2⟩ := hn;go_enter func109, ntmps109;go_wp2
  go_ret2
  exact ⟨rfl, rfl⟩
 rw [zX h0 hn]
 have hd : ((s[0].toNat : Int) = 48 /\ s.size <= 1) ∨ ¬ (s[0].toNat : Int) = 48 := by omega
 clear hn hz
 rcases hd with ⟨hd, Tr⟩ | hd
 all_goals
  go_enter func109, ntmps109;go_wp2
  go_loop [4, 21] (fun n i => ∃ (k : Nat) (m : Int), k <= s.size /\ i = .int .i64 k /\ n = .int .i64 m /\ 0 <= m /\ m <= 9223372036854775807 /\ Mu s.data.toList 0 = Mu (s.data.toList.drop k) m) (fun _ i => s.size - (intOf i).toNat)
  case atStart => exact ⟨0, 0, xZ _, rfl, rfl, by omega, by omega, rfl⟩
  case round =>
   obtain ⟨k, m, hk, rfl, rfl, hm0, B6, hgo⟩ := hrel;have HG : xQ (Mu s.data.toList 0 = Mu (s.data.toList.drop k) m) := hgo;clear hgo;by_cases Qh : k < s.size
   ·by_cases b1 : (s[k].toNat : Int) < 48
    ·go_wp2
     go_ret2
     rw [HG.o, tQ Qh m (Or.inl b1)];exact ⟨rfl, rfl⟩
    by_cases b2 : 57 < (s[k].toNat : Int)
    ·go_wp2
     go_ret2
     rw [HG.o, tQ Qh m (Or.inr b2)];exact ⟨rfl, rfl⟩
    by_cases b3 : (9223372036854775807 - ((s[k].toNat : Int) - 48)) / 10 < m
    ·go_wp2
     go_ret2
     rw [HG.o, fA Qh m (by omega) b3];exact ⟨rfl, rfl⟩
    ·go_wp2
     go_round
     case rel => exact ⟨k + 1, m * 10 + ((s[k].toNat : Int) - 48), by omega, by go_num, rfl, by omega, by omega, HG.o.trans (gZ Qh m (by omega) b3)⟩
     case measure => simp [intOf]; omega
   ·go_wp2
    go_ret2
    rw [HG.o, gY Qh m];exact ⟨rfl, rfl⟩
end Go.Proofs.YtfoejkhfdiodhaaGreatDoor.Lx
