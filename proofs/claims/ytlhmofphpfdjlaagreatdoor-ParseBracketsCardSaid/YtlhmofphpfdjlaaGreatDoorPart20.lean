/- Part. -/
import Derived.Test.YtlhmofphpfdjlaaGreatDoorPart19
set_option maxRecDepth 100000
set_option maxHeartbeats 4000000
/- Functions that are expressions. -/
namespace Go.Proofs.YtlhmofphpfdjlaaGreatDoor
open Go.Proofs.Tryz
open Go.RowKit
attribute [local go_sem ↓] Go.wp_at_zero Go.wp_at_succ
theorem Ctx.regrow {pb tb cap d b : Nat} {ts : List Tok} {w0 w w4 : World} {bx bx' : List (Nat × Obj)} {ns : List (NV × Ty)} {tys : List (Value × Ty)} {g : Option Nat} (h : Ctx pb tb cap d ts w0 w b bx ns tys) (hg : w.grownBy w4 g) (hr : ∀ q, g = some q -> w0.heap.size <= q)
    (hb : ∀ p ∈ bx', p ∈ bx /\ g ≠ some p.1) : Ctx pb tb cap d ts w0 w4 b bx' [] [] where
  st := h.st.grown hg h.hp hr
  ps := h.ps.grown hg fun q hq => by have := hr q hq; have := h.hp; omega
  hp := h.hp
  sz := Nat.le_trans h.sz hg.size
  has := fun p hp => ⟨(hg.block _ (lt_of_block (h.has p (hb p hp).1).1) (fun e => (hb p hp).2 e.symm)).trans (h.has p (hb p hp).1).1, (h.has p (hb p hp).1).2⟩
  nds := (fun _ h => nomatch h)
  tys := (fun _ h => nomatch h)
theorem cells_newN1 (W : World) (n : Nat) (c : List Value) (t : TypeId) (hn : n = W.heap.size) : ∀ j u, c[j]? = some u -> (W.alloc (.cells c.toArray t)).cell? ((⟨n, 0, none⟩ : Addr).add j) = some u := by
  subst hn
  exact cells_newK W c t
abbrev uniV (av : Option Addr) (n cv : Nat) : Value := .agg #[.int .i64 7, .string ⟨#[]⟩, .slice none 0 0, .slice av n cv]
/-- A row of types, as a union of them. -/
theorem tyE_row {lo : Nat} {o : Option Nat} {w : World} {v : Value} {cs : List (List Value)} {xs : List Ty} (h : RowsC TyC4 lo 44 4 o w v cs xs) (hl : xs.length <= 8193) : ∃ av cv, v = .slice av xs.length cv /\ TyE lo w (uniV av xs.length cv) (mkT 7 [] [] xs) := by
  obtain ⟨av, cv, m, e, hcv, hk⟩ := rows_kids h
  exact ⟨av, cv, e, m + 1, 7, ⟨#[]⟩, none, 0, av, cv, [], xs, rfl, rfl, by decide, by decide, (fun _ h => nomatch h), ⟨Nat.le_refl _, Nat.zero_le _⟩, ⟨hcv, by unfold reachBytes; omega⟩, .inl rfl, hk⟩
theorem tyE_kids {lo n cv : Nat} {w : World} {av : Option Addr} {xs : List Ty} (h : TyE lo w (uniV av n cv) (mkT 7 [] [] xs)) : ∃ m, KidsF w lo m av xs := by
  obtain ⟨m, h⟩ := h
  cases m with
  | zero => exact h.elim
  | succ m =>
    obtain ⟨k, nm, na, nc, ka, kc, ns, ks, e, e2, _, _, _, _, _, _, h9⟩ := h
    obtain ⟨_, _, _, rfl⟩ := mkT_inj e2
    simp only [uniV, Value.agg.injEq] at e
    have e3 := congrArg (fun a : Array Value => a.getD 3 undef) e
    simp at e3
    obtain ⟨rfl, _, _⟩ := e3
    exact ⟨m, h9⟩
abbrev fnNV (t : Tok) (s : List UInt8) (ta : Option Addr) (tl tc kb : Nat) : NV := ⟨6, ⟨s.toArray⟩, 0, t.line, t.col, ta, tl, tc, none, 0, 0, some ⟨kb, 0, none⟩, 1, 1⟩
theorem function_c (pb tb cap d : Nat) (ts : List Tok) (K E : Nat -> Pr Ty) (hK : Reads pb tb cap d ts TyE 17 K) (hE : Reads pb tb cap d ts NdE 12 E) (ok : ToksOk ts) (a : Nat) (w : World) (h : Ps w pb tb cap ts a d) :
    Calls prog 56 #[.pointer (some ⟨pb, 0, none⟩)] w (PPost pb tb cap ts d w NdE ((wantA ts a [102, 110]).go fun _ b => (paramA ts K b).go fun h b => (behindA ts K [58] b).go fun y b => (wantA ts b [61, 62]).go fun _ b => (E b).go fun x b => .inl (mkE 6 h.1 0 (tkA ts a).line (tkA ts a).col (h.2 :: if y.2 then [y.1] else []) [] [x], b))) := by
  have H := hideP h
  have OK := hideP ok
  have hp := h.ltp
  have HE1 := hideP hE
  have HK1 := hideP hK
  have HM0 := hideP (fun w h => must_c pb tb cap a d ts [102, 110] w h ok)
  obtain ⟨t, ht⟩ : ∃ t, t = tkA ts a := ⟨_, rfl⟩
  rw [<- ht] at HM0 ⊢
  clear ht
  have C0 := hideP (ctx_init h zNV.obj)
  obtain ⟨R, hR⟩ : ∃ R : Pr Ty, R = ((wantA ts a [102, 110]).go fun _ b => (paramA ts K b).go fun h b => (behindA ts K [58] b).go fun y b => (wantA ts b [61, 62]).go fun _ b => (E b).go fun x b => .inl (mkE 6 h.1 0 t.line t.col (h.2 :: if y.2 then [y.1] else []) [] [x], b)) := ⟨_, rfl⟩
  rw [<- hR]
  have HR0 := hideP hR
  clear h ok hR hE hK
  obtain ⟨i0, hi, hz0, hz1, hz2⟩ := info_parts info_ty
  go_enter func56, ntmps56
  go_wp2_with fail
  refine (HM0.out _ C0.out.ps).mono ?_
  intro e w1 hpost
  rcases ppost_or hpost with ⟨er, li, co, hr, rfl, hst⟩ | ⟨u, b1, v, hr, rfl, hst, hps, hv⟩
  · have HE : Hid (R = .inr (er, li, co)) := by rw [HR0.out, hr]; exact rfl
    have HF := hideP (C0.out.st.trans hst)
    clear hr hst hpost
    go_wp2_with fail
    exact ⟨rfl, HF.out, by rw [HE.out]⟩
  have HR1 : Hid (R = (paramA ts K b1).go fun h b => (behindA ts K [58] b).go fun y b => (wantA ts b [61, 62]).go fun _ b => (E b).go fun x b => .inl (mkE 6 h.1 0 t.line t.col (h.2 :: if y.2 then [y.1] else []) [] [x], b)) := by rw [HR0.out, hr]; exact rfl
  subst hv
  have C1 := hideP ((C0.out.step hst hps))
  have C2 := hideP (C1.out.alloc (TOKO t))
  clear hr hst hps hpost  
  go_wp2_with fail
  refine (param_c pb tb cap d ts K HK1.out OK.out b1 _ C2.out.ps).mono ?_
  intro e w2 hpost
  rcases ppost_or hpost with ⟨er, li, co, hr, rfl, hst⟩ | ⟨hh, b2, v, hr, rfl, hst, hps, hv⟩
  · have HE : Hid (R = .inr (er, li, co)) := by rw [HR1.out, hr]; exact rfl
    have HF := hideP (C2.out.st.trans hst)
    clear hr hst hpost
    go_wp2_with fail
    exact ⟨rfl, HF.out, by rw [HE.out]⟩
  have HR2 : Hid (R = (behindA ts K [58] b2).go fun y b => (wantA ts b [61, 62]).go fun _ b => (E b).go fun x b => .inl (mkE 6 hh.1 0 t.line t.col (hh.2 :: if y.2 then [y.1] else []) [] [x], b)) := by rw [HR1.out, hr]; exact rfl
  obtain ⟨s, D⟩ := hh
  obtain ⟨u2, rfl, hv⟩ := hv
  obtain ⟨k1, nm1, na1, nl1, nc1, ka1, kl1, kc1, rfl⟩ := hv.cells
  have C3 := hideP ((C2.out.step hst hps).addT hv C2.out.sz)
  have C4 := hideP (C3.out.alloc (tyO k1 nm1 na1 nl1 nc1 ka1 kl1 kc1))
  clear hr hst hps hpost hv
  have HRw : Hid (RowsC TyC4 (w.heap.size + 1) 44 4 none ((w2.alloc (tyO k1 nm1 na1 nl1 nc1 ka1 kl1 kc1)).alloc (.cells #[.int .i64 k1, .string nm1, .slice na1 nl1 nc1, .slice ka1 kl1 kc1] 44)) (.slice (some ⟨w2.heap.size + 1, 0, none⟩) 1 1) [[.int .i64 k1, .string nm1, .slice na1 nl1 nc1, .slice ka1 kl1 kc1]] [D]) := by
    have := rows_one (B := w.heap.size + 1) (et := 44) (k := 4) (rep := TyC4) (c := [.int .i64 k1, .string nm1, .slice na1 nl1 nc1, .slice ka1 kl1 kc1]) (x := D) C4.out.t0 (Nat.le_refl _) C4.out.sz rfl
    rw [World.size_alloc] at this
    exact this
  have C5 := hideP (C4.out.alloc (.cells #[.int .i64 k1, .string nm1, .slice na1 nl1 nc1, .slice ka1 kl1 kc1] 44))
  go_wp2_with fail
  refine (behind_c pb tb cap d ts [58] K HK1.out OK.out b2 _ C5.out.ps).mono ?_
  intro e w3 hpost
  rcases ppost_or hpost with ⟨er, li, co, hr, rfl, hst⟩ | ⟨y, b3, v, hr, rfl, hst, hps, hv⟩
  · have HE : Hid (R = .inr (er, li, co)) := by rw [HR2.out, hr]; exact rfl
    have HF := hideP (C5.out.st.trans hst)
    clear hr hst hpost
    go_wp2_with fail
    exact ⟨rfl, HF.out, by rw [HE.out]⟩
  have HR3 : Hid (R = (wantA ts b3 [61, 62]).go fun _ b => (E b).go fun x b => .inl (mkE 6 s 0 t.line t.col (D :: if y.2 then [y.1] else []) [] [x], b)) := by rw [HR2.out, hr]; exact rfl
  obtain ⟨D2, okb⟩ := y
  obtain ⟨u4, rfl, hv⟩ := hv
  obtain ⟨k4, nm4, na4, nl4, nc4, ka4, kl4, kc4, rfl⟩ := hv.cells
  have HRw3 := hideP (HRw.out.stay hst (by omega))
  have HV4 := hideP hv
  have C6 := hideP ((C5.out.step hst hps).addT hv C5.out.sz)
  have C7 := hideP (C6.out.alloc (tyO k4 nm4 na4 nl4 nc4 ka4 kl4 kc4))
  clear hr hst hps hpost hv
  cases okb with
  | false =>
    have HR4 : Hid (R = (wantA ts b3 [61, 62]).go fun _ b => (E b).go fun x b => .inl (mkE 6 s 0 t.line t.col ([D]) [] [x], b)) := HR3.out
    have HRw4 := hideP ((HRw3.out.stay ((Stay.refl pb w3).alloc (by have := C6.out.ps.ltp; exact this) (tyO k4 nm4 na4 nl4 nc4 ka4 kl4 kc4)) (by omega)))
    obtain ⟨av, cv, hve, hu⟩ := tyE_row HRw4.out (by simp)
    injection hve with hve1 hve2 hve3
    subst hve1 hve3
    have C8 := hideP (C7.out.addT hu (Nat.le_refl _))
    clear hu hve2
    go_wp2_with fail
    refine (must_c pb tb cap b3 d ts [61, 62] _ C8.out.ps OK.out).mono ?_
    intro e w4 hpost
    rcases ppost_or hpost with ⟨er, li, co, hr, rfl, hst⟩ | ⟨u5, b4, v5, hr, rfl, hst, hps, hv⟩
    · have HE : Hid (R = .inr (er, li, co)) := by rw [HR4.out, hr]; exact rfl
      have HF := hideP (C8.out.st.trans hst)
      clear hr hst hpost
      go_wp2_with fail
      exact ⟨rfl, HF.out, by rw [HE.out]⟩
    have HR5 : Hid (R = (E b4).go fun x b => .inl (mkE 6 s 0 t.line t.col [D] [] [x], b)) := by rw [HR4.out, hr]; exact rfl
    have C9 := hideP ((C8.out.step hst hps))
    clear hr hst hps hpost hv
    obtain ⟨⟨k0, k1', k2, k3⟩, _, hk1⟩ := res_facts C9.out.b3
    go_wp2_with fail
    have hne0 : w1.heap.size ≠ w.heap.size := by have := C1.out.sz; omega
    have hS0 : (((w4).drew).cell? ⟨w1.heap.size, 0, none⟩ = some (.int .i64 t.kind) /\ ((w4).drew).cell? ⟨w1.heap.size, 1, none⟩ = some (.string ⟨t.text.toArray⟩) /\ ((w4).drew).cell? ⟨w1.heap.size, 2, none⟩ = some (.int .i64 t.line) /\ ((w4).drew).cell? ⟨w1.heap.size, 3, none⟩ = some (.int .i64 t.col)) := (tokB (C9.out.drew.b3))
    have HC : Hid (Calls prog 12 #[.pointer (some ⟨pb, 0, none⟩)] (w4).drew fun e w9 => (∃ chain, e = .panicked chain /\ PPost pb tb cap ts d w NdE R e w9) ∨ ∃ (y : NV) (D3 : Ty) (b6 : Nat), e = .returned (y.val) /\ ((w9.cell? ⟨w1.heap.size, 0, none⟩ = some (.int .i64 t.kind) /\ w9.cell? ⟨w1.heap.size, 1, none⟩ = some (.string ⟨t.text.toArray⟩) /\ w9.cell? ⟨w1.heap.size, 2, none⟩ = some (.int .i64 t.line) /\ w9.cell? ⟨w1.heap.size, 3, none⟩ = some (.int .i64 t.col))) /\ Hid (R = .inl (mkE 6 s 0 t.line t.col [D] [] [D3], b6) /\ Ctx pb tb cap d ts w w9 b6 [(w3.heap.size, tyO k4 nm4 na4 nl4 nc4 ka4 kl4 kc4), ((w2.alloc (tyO k1 nm1 na1 nl1 nc1 ka1 kl1 kc1)).heap.size, .cells #[.int .i64 k1, .string nm1, .slice na1 nl1 nc1, .slice ka1 kl1 kc1] 44), (w2.heap.size, tyO k1 nm1 na1 nl1 nc1 ka1 kl1 kc1), (w1.heap.size, TOKO t), (w.heap.size, zNV.obj)] [(y, D3)] [(uniV (some ⟨w2.heap.size + 1, 0, none⟩) 1 1, mkT 7 [] [] [D]), (.agg #[.int .i64 k4, .string nm4, .slice na4 nl4 nc4, .slice ka4 kl4 kc4], D2), (.agg #[.int .i64 k1, .string nm1, .slice na1 nl1 nc1, .slice ka1 kl1 kc1], D)])) := by
      refine (HE1.out.calls b4 _ C9.out.drew.ps).mono ?_
      intro e w9 hpost
      rcases ppost_or hpost with ⟨er, li, co, hr, rfl, hst⟩ | ⟨D3, b6, v, hr, rfl, hst, hps, hv⟩
      · exact .inl ⟨_, rfl, C9.out.drew.st.trans hst, by rw [HR5.out, hr]; rfl⟩
      obtain ⟨y, rfl, hv⟩ := hv
      have CN := (C9.out.drew.step hst hps).addN hv C9.out.drew.sz
      exact .inr ⟨y, D3, b6, rfl, (tokB (CN.b3)), by rw [HR5.out, hr]; rfl, CN⟩
    go_wp2_with fail
    go_region_held (fun W => (W.cell? ⟨w1.heap.size, 0, none⟩ = some (.int .i64 t.kind) /\ W.cell? ⟨w1.heap.size, 1, none⟩ = some (.string ⟨t.text.toArray⟩) /\ W.cell? ⟨w1.heap.size, 2, none⟩ = some (.int .i64 t.line) /\ W.cell? ⟨w1.heap.size, 3, none⟩ = some (.int .i64 t.col))) (first | with_reducible assumption | with_reducible exact HS3.out _ | with_reducible exact HS4.out _ _ _ _ _ _ _ _) (first
      | (go_at_call 12; refine HC.out.mono ?_; rintro e w9 (⟨ch, rfl, hf⟩ | ⟨y, D3, b6, rfl, t5, HX⟩); exact ⟨rfl, hf⟩; have HS3 : Hid (∀ o, (((w9.alloc o)).cell? ⟨w1.heap.size, 0, none⟩ = some (.int .i64 t.kind) /\ ((w9.alloc o)).cell? ⟨w1.heap.size, 1, none⟩ = some (.string ⟨t.text.toArray⟩) /\ ((w9.alloc o)).cell? ⟨w1.heap.size, 2, none⟩ = some (.int .i64 t.line) /\ ((w9.alloc o)).cell? ⟨w1.heap.size, 3, none⟩ = some (.int .i64 t.col))) := (fun o => (tokB ((HX.out.2.alloc o).b4))))
      | (go_at_call 94; refine (placed_c t ⟨6, ⟨s.toArray⟩, 0, 0, 0, some ⟨w2.heap.size + 1, 0, none⟩, 1, 1, none, 0, 0, some ⟨w9.heap.size, 0, none⟩, 1, 1⟩ _).mono ?_; rintro e w10 ⟨rfl, hb⟩; have HX2 := hideP ((HX.out.2.alloc _).below hb); have t6 : (w10.cell? ⟨w1.heap.size, 0, none⟩ = some (.int .i64 t.kind) /\ w10.cell? ⟨w1.heap.size, 1, none⟩ = some (.string ⟨t.text.toArray⟩) /\ w10.cell? ⟨w1.heap.size, 2, none⟩ = some (.int .i64 t.line) /\ w10.cell? ⟨w1.heap.size, 3, none⟩ = some (.int .i64 t.col)) := (tokB (HX2.out.b4)); have HB8 := hideP (box8 (x := zNV) (HX2.out.b5)); obtain ⟨⟨r0, r1, r2, r3, r4, r5, r6, r7⟩, ⟨f0, f1, f2, f3, f4, f5, f6, f7⟩, hr1⟩ := HB8.out; have HS4 : Hid (∀ v0 v1 v2 v3 v4 v5 v6 v7, (((set8 w10 w.heap.size v0 v1 v2 v3 v4 v5 v6 v7)).cell? ⟨w1.heap.size, 0, none⟩ = some (.int .i64 t.kind) /\ ((set8 w10 w.heap.size v0 v1 v2 v3 v4 v5 v6 v7)).cell? ⟨w1.heap.size, 1, none⟩ = some (.string ⟨t.text.toArray⟩) /\ ((set8 w10 w.heap.size v0 v1 v2 v3 v4 v5 v6 v7)).cell? ⟨w1.heap.size, 2, none⟩ = some (.int .i64 t.line) /\ ((set8 w10 w.heap.size v0 v1 v2 v3 v4 v5 v6 v7)).cell? ⟨w1.heap.size, 3, none⟩ = some (.int .i64 t.col))) := (fun v0 v1 v2 v3 v4 v5 v6 v7 => (tokB ((set8_other hne0 v0 v1 v2 v3 v4 v5 v6 v7).trans (HX2.out.b4)))); clear hb))
    all_goals
      go_wp2_with fail
      rw [HX.out.1]
      refine bodyPost_ret (results_cell_row rfl _ _ w.heap.size 27 _ (0, 0) _ rfl (put8_heap (x := fnNV t s (some ⟨w2.heap.size + 1, 0, none⟩) 1 1 w9.heap.size) HX2.out.b5) underlying27 rfl (by kernel_rfl)) rfl ⟨stay_put8 HX2.out.st hp (Nat.le_refl _) (fnNV t s (some ⟨w2.heap.size + 1, 0, none⟩) 1 1 w9.heap.size), ps_put8 HX2.out.ps hp (fnNV t s (some ⟨w2.heap.size + 1, 0, none⟩) 1 1 w9.heap.size), _, rfl, fnNV t s (some ⟨w2.heap.size + 1, 0, none⟩) 1 1 w9.heap.size, rfl, ?_⟩
      exact ((ndV_one HX2.out.n0 HX2.out.b0 (by have := HX.out.2.sz; omega) (fnNV t s (some ⟨w2.heap.size + 1, 0, none⟩) 1 1 w9.heap.size) [D] [] ⟨rfl, rfl⟩ ⟨rfl, by simp, tyE_kids HX2.out.t0⟩ ⟨rfl, Nat.zero_le _, .inl rfl⟩).put8 (Nat.lt_succ_self _) (fnNV t s (some ⟨w2.heap.size + 1, 0, none⟩) 1 1 w9.heap.size)).lower (Nat.le_succ _)
  | true =>
    have HR4 : Hid (R = (wantA ts b3 [61, 62]).go fun _ b => (E b).go fun x b => .inl (mkE 6 s 0 t.line t.col ([D, D2]) [] [x], b)) := HR3.out
    have HRw4 := hideP ((HRw3.out.stay ((Stay.refl pb w3).alloc (by have := C6.out.ps.ltp; exact this) (tyO k4 nm4 na4 nl4 nc4 ka4 kl4 kc4)) (by omega)))
    go_wp2_with (at_builtin; refine wpList_append_own_at _ rfl (.tmp 26) (.tmp 28) 23 rfl (w.heap.size + 1) 44 i0 _ 4 72 underlying23 hi hz0 hz1 hz2 rfl (by decide) _ _ _ rfl (HRw4.out.ow.alloc _) ⟨_, 0, none⟩ 1 1 [.int .i64 k4, .string nm4, .slice na4 nl4 nc4, .slice ka4 kl4 kc4] rfl rfl (cells_newN1 _ _ _ _ (by simp)) (by simp [Value.oneCell']) (by unfold maxLen; simp) (by simp) (by have := C7.out.sz; simp at this ⊢; omega) ?_)
    intro v' w4 hown' hgrow _ hloc
    have HR5 := hideP (HRw4.out.put (x := D2) (rep := TyC4) hown' hgrow (hloc.imp_right fun e => ⟨_, e, by simp⟩) ((Stay.refl pb _).alloc C7.out.ps.ltp _) (by omega) rfl (((Made.new (rep := TyC4) HV4.out C5.out.sz fun q hq => HRw.out.all q hq).stay ((Stay.refl pb w3).alloc (by have := C6.out.ps.ltp; exact this) (tyO k4 nm4 na4 nl4 nc4 ka4 kl4 kc4)) (by omega)).stay ((Stay.refl pb _).alloc C7.out.ps.ltp _) (by omega)))
    have C8 := hideP ((C7.out.alloc (.cells #[.int .i64 k4, .string nm4, .slice na4 nl4 nc4, .slice ka4 kl4 kc4] 44)).regrow (bx' := [(w1.heap.size, TOKO t), (w.heap.size, zNV.obj)]) hgrow (fun q hq => by simp [Value.ownBlock] at hq; have := C3.out.sz; omega) (by
      intro p hp
      rcases List.mem_cons.1 hp with rfl | hp
      · exact ⟨by simp, fun e => by simp [Value.ownBlock] at e; have := (C4.out.b1); have := lt_of_block C3.out.b0; omega⟩
      · rw [List.mem_singleton.1 hp]; exact ⟨by simp, fun e => by simp [Value.ownBlock] at e; have := C3.out.sz; omega⟩))
    obtain ⟨av, cv, rfl, hu⟩ := tyE_row HR5.out (by simp)
    have C9 := hideP (C8.out.addT hu (Nat.le_refl _))
    clear hu hown' hgrow hloc
    go_wp2_with fail
    refine (must_c pb tb cap b3 d ts [61, 62] _ C9.out.ps OK.out).mono ?_
    intro e w5 hpost
    rcases ppost_or hpost with ⟨er, li, co, hr, rfl, hst⟩ | ⟨u5, b4, v5, hr, rfl, hst, hps, hv⟩
    · have HE : Hid (R = .inr (er, li, co)) := by rw [HR4.out, hr]; exact rfl
      have HF := hideP (C9.out.st.trans hst)
      clear hr hst hpost
      go_wp2_with fail
      exact ⟨rfl, HF.out, by rw [HE.out]⟩
    have HR5 : Hid (R = (E b4).go fun x b => .inl (mkE 6 s 0 t.line t.col [D, D2] [] [x], b)) := by rw [HR4.out, hr]; exact rfl
    have C10 := hideP ((C9.out.step hst hps))
    clear hr hst hps hpost hv
    obtain ⟨⟨k0, k1', k2, k3⟩, _, hk1⟩ := res_facts C10.out.b0
    go_wp2_with fail
    have hne0 : w1.heap.size ≠ w.heap.size := by have := C1.out.sz; omega
    have hS0 : (((w5).drew).cell? ⟨w1.heap.size, 0, none⟩ = some (.int .i64 t.kind) /\ ((w5).drew).cell? ⟨w1.heap.size, 1, none⟩ = some (.string ⟨t.text.toArray⟩) /\ ((w5).drew).cell? ⟨w1.heap.size, 2, none⟩ = some (.int .i64 t.line) /\ ((w5).drew).cell? ⟨w1.heap.size, 3, none⟩ = some (.int .i64 t.col)) := (tokB (C10.out.drew.b0))
    have HC : Hid (Calls prog 12 #[.pointer (some ⟨pb, 0, none⟩)] (w5).drew fun e w9 => (∃ chain, e = .panicked chain /\ PPost pb tb cap ts d w NdE R e w9) ∨ ∃ (y : NV) (D3 : Ty) (b6 : Nat), e = .returned (y.val) /\ ((w9.cell? ⟨w1.heap.size, 0, none⟩ = some (.int .i64 t.kind) /\ w9.cell? ⟨w1.heap.size, 1, none⟩ = some (.string ⟨t.text.toArray⟩) /\ w9.cell? ⟨w1.heap.size, 2, none⟩ = some (.int .i64 t.line) /\ w9.cell? ⟨w1.heap.size, 3, none⟩ = some (.int .i64 t.col))) /\ Hid (R = .inl (mkE 6 s 0 t.line t.col [D, D2] [] [D3], b6) /\ Ctx pb tb cap d ts w w9 b6 [(w1.heap.size, TOKO t), (w.heap.size, zNV.obj)] [(y, D3)] [(uniV av 2 cv, mkT 7 [] [] [D, D2])])) := by
      refine (HE1.out.calls b4 _ C10.out.drew.ps).mono ?_
      intro e w9 hpost
      rcases ppost_or hpost with ⟨er, li, co, hr, rfl, hst⟩ | ⟨D3, b6, v, hr, rfl, hst, hps, hv⟩
      · exact .inl ⟨_, rfl, C10.out.drew.st.trans hst, by rw [HR5.out, hr]; rfl⟩
      obtain ⟨y, rfl, hv⟩ := hv
      have CN := (C10.out.drew.step hst hps).addN hv C10.out.drew.sz
      exact .inr ⟨y, D3, b6, rfl, (tokB (CN.b0)), by rw [HR5.out, hr]; rfl, CN⟩
    go_wp2_with fail
    go_region_held (fun W => (W.cell? ⟨w1.heap.size, 0, none⟩ = some (.int .i64 t.kind) /\ W.cell? ⟨w1.heap.size, 1, none⟩ = some (.string ⟨t.text.toArray⟩) /\ W.cell? ⟨w1.heap.size, 2, none⟩ = some (.int .i64 t.line) /\ W.cell? ⟨w1.heap.size, 3, none⟩ = some (.int .i64 t.col))) (first | with_reducible assumption | with_reducible exact HS3.out _ | with_reducible exact HS4.out _ _ _ _ _ _ _ _) (first
      | (go_at_call 12; refine HC.out.mono ?_; rintro e w9 (⟨ch, rfl, hf⟩ | ⟨y, D3, b6, rfl, t5, HX⟩); exact ⟨rfl, hf⟩; have HS3 : Hid (∀ o, (((w9.alloc o)).cell? ⟨w1.heap.size, 0, none⟩ = some (.int .i64 t.kind) /\ ((w9.alloc o)).cell? ⟨w1.heap.size, 1, none⟩ = some (.string ⟨t.text.toArray⟩) /\ ((w9.alloc o)).cell? ⟨w1.heap.size, 2, none⟩ = some (.int .i64 t.line) /\ ((w9.alloc o)).cell? ⟨w1.heap.size, 3, none⟩ = some (.int .i64 t.col))) := (fun o => (tokB ((HX.out.2.alloc o).b1))))
      | (go_at_call 94; refine (placed_c t ⟨6, ⟨s.toArray⟩, 0, 0, 0, av, 2, cv, none, 0, 0, some ⟨w9.heap.size, 0, none⟩, 1, 1⟩ _).mono ?_; rintro e w10 ⟨rfl, hb⟩; have HX2 := hideP ((HX.out.2.alloc _).below hb); have t6 : (w10.cell? ⟨w1.heap.size, 0, none⟩ = some (.int .i64 t.kind) /\ w10.cell? ⟨w1.heap.size, 1, none⟩ = some (.string ⟨t.text.toArray⟩) /\ w10.cell? ⟨w1.heap.size, 2, none⟩ = some (.int .i64 t.line) /\ w10.cell? ⟨w1.heap.size, 3, none⟩ = some (.int .i64 t.col)) := (tokB (HX2.out.b1)); have HB8 := hideP (box8 (x := zNV) (HX2.out.b2)); obtain ⟨⟨r0, r1, r2, r3, r4, r5, r6, r7⟩, ⟨f0, f1, f2, f3, f4, f5, f6, f7⟩, hr1⟩ := HB8.out; have HS4 : Hid (∀ v0 v1 v2 v3 v4 v5 v6 v7, (((set8 w10 w.heap.size v0 v1 v2 v3 v4 v5 v6 v7)).cell? ⟨w1.heap.size, 0, none⟩ = some (.int .i64 t.kind) /\ ((set8 w10 w.heap.size v0 v1 v2 v3 v4 v5 v6 v7)).cell? ⟨w1.heap.size, 1, none⟩ = some (.string ⟨t.text.toArray⟩) /\ ((set8 w10 w.heap.size v0 v1 v2 v3 v4 v5 v6 v7)).cell? ⟨w1.heap.size, 2, none⟩ = some (.int .i64 t.line) /\ ((set8 w10 w.heap.size v0 v1 v2 v3 v4 v5 v6 v7)).cell? ⟨w1.heap.size, 3, none⟩ = some (.int .i64 t.col))) := (fun v0 v1 v2 v3 v4 v5 v6 v7 => (tokB ((set8_other hne0 v0 v1 v2 v3 v4 v5 v6 v7).trans (HX2.out.b1)))); clear hb))
    all_goals
      go_wp2_with fail
      rw [HX.out.1]
      refine bodyPost_ret (results_cell_row rfl _ _ w.heap.size 27 _ (0, 0) _ rfl (put8_heap (x := fnNV t s (av) 2 cv w9.heap.size) HX2.out.b2) underlying27 rfl (by kernel_rfl)) rfl ⟨stay_put8 HX2.out.st hp (Nat.le_refl _) (fnNV t s (av) 2 cv w9.heap.size), ps_put8 HX2.out.ps hp (fnNV t s (av) 2 cv w9.heap.size), _, rfl, fnNV t s (av) 2 cv w9.heap.size, rfl, ?_⟩
      exact ((ndV_one HX2.out.n0 HX2.out.b0 (by have := HX.out.2.sz; omega) (fnNV t s (av) 2 cv w9.heap.size) [D, D2] [] ⟨rfl, rfl⟩ ⟨rfl, by simp, tyE_kids HX2.out.t0⟩ ⟨rfl, Nat.zero_le _, .inl rfl⟩).put8 (Nat.lt_succ_self _) (fnNV t s (av) 2 cv w9.heap.size)).lower (Nat.le_succ _)
end Go.Proofs.YtlhmofphpfdjlaaGreatDoor
