/- Part. -/
import Derived.Test.YtlhmofphpfdjlaaGreatDoorPart22
set_option maxRecDepth 100000
set_option maxHeartbeats 4000000
/- Atoms. -/
namespace Go.Proofs.YtlhmofphpfdjlaaGreatDoor
open Go.Proofs.Tryz
open Go.RowKit
attribute [local go_sem ↓] Go.wp_at_zero Go.wp_at_succ
abbrev printNV (t : Tok) (kb : Nat) : NV := ⟨17, ⟨#[]⟩, 0, t.line, t.col, none, 0, 0, none, 0, 0, some ⟨kb, 0, none⟩, 1, 1⟩
/-- The expression at another place. -/
def placeT (t : Tok) (D : Ty) : Ty := match D with
  | .agg [k, tx, n, _, _, a, b, c] => .agg [k, tx, n, .lit (.int .i64 t.line), .lit (.int .i64 t.col), a, b, c]
  | D => D
theorem placeT_nd {lo : Nat} {w : World} {y : NV} {D : Ty} (h : NdV lo w y D) (t : Tok) : NdV lo w { y with li := t.line, co := t.col } (placeT t D) := by
  obtain ⟨k, tx, N, l, c, tys, ns, ks, rfl, h2⟩ := h.place t.line t.col
  exact h2
abbrev constL : List (List UInt8) := [[116, 114, 117, 101], [102, 97, 108, 115, 101], [110, 117, 108, 108]]
theorem atom_const (pb tb cap d a : Nat) (ts : List Tok) (r0 : Pr Ty) (hc : ∀ w, Ps w pb tb cap ts a d -> Calls prog 148 #[.pointer (some ⟨pb, 0, none⟩)] w (PPost pb tb cap ts d w NdE r0)) (ok : ToksOk ts) (h3 : (constL.any fun s => seesA ts a s) = true) (w : World) (h : Ps w pb tb cap ts a d) :
    Calls prog 146 #[.pointer (some ⟨pb, 0, none⟩)] w (PPost pb tb cap ts d w NdE (r0.go fun x b => .inl (x, b))) := by
  have H := hideP h
  have OK := hideP ok
  have hp := h.ltp
  have HC := hideP (hc)
  have Hh3 := hideP h3
  have HPk := hideP (fun w h => peek_c pb tb cap a d ts w h)
  obtain ⟨t, ht⟩ : ∃ t, t = tkA ts a := ⟨_, rfl⟩
  rw [<- ht] at HPk
  have HTk := hideP ht
  clear ht
  have C0 := hideP (ctx_init h zNV.obj)
  obtain ⟨R, hR⟩ : ∃ R : Pr Ty, R = (r0.go fun x b => .inl (x, b)) := ⟨_, rfl⟩
  rw [<- hR]
  have HR0 := hideP hR
  clear h ok hR hc h3
  go_enter func146, ntmps146
  go_wp2_with fail
  refine (HPk.out _ C0.out.ps).mono ?_
  rintro e w1 ⟨rfl, hb⟩
  have C1 := hideP (C0.out.below hb)
  have C2 := hideP (C1.out.alloc (TOKO t))
  clear hb
  go_wp2_with fail
  refine (is_new pb tb cap a _ 3 ts constL _ _ C2.out.ps.rd (by simp) (by simp)).mono ?_
  rw [Hh3.out]
  rintro e w2 ⟨rfl, hb⟩
  have C3 := hideP (C2.out.below hb)
  clear hb
  go_wp2_with fail
  refine (HC.out _ C3.out.ps).mono ?_
  intro e w3 hpost
  rcases ppost_or hpost with ⟨er, li, co, hr, rfl, hst⟩ | ⟨D, b, v, hr, rfl, hst, hps, hv⟩
  · have HE : Hid (R = .inr (er, li, co)) := by rw [HR0.out, hr]; exact rfl
    have HF := hideP (C3.out.st.trans hst)
    clear hr hst hpost
    go_wp2_with fail
    exact ⟨rfl, HF.out, by rw [HE.out]⟩
  have HR1 : Hid (R = .inl (D, b)) := by rw [HR0.out, hr]; exact rfl
  obtain ⟨x, rfl, hv⟩ := hv
  have C4 := hideP ((C3.out.step hst hps).addN hv C3.out.sz)
  clear hr hst hps hpost hv
  obtain ⟨⟨r0, r1, r2, r3, r4, r5, r6, r7⟩, ⟨f0, f1, f2, f3, f4, f5, f6, f7⟩, hr1⟩ := box8 (x := zNV) (C4.out.b1)
  go_wp2_with fail
  rw [HR1.out]
  refine bodyPost_ret (results_cell_row rfl _ _ w.heap.size 27 _ (0, 0) _ rfl (put8_heap (x := x) C4.out.b1) underlying27 rfl (by kernel_rfl)) rfl ⟨stay_put8 C4.out.st hp (Nat.le_refl _) (x), ps_put8 C4.out.ps hp (x), _, rfl, x, rfl, ?_⟩
  exact ((C4.out.n0).put8 (Nat.lt_succ_self _) (x)).lower (Nat.le_succ _)
theorem atom_print (pb tb cap d : Nat) (ts : List Tok) (E : Nat -> Pr Ty) (hE : Reads pb tb cap d ts NdE 12 E) (ok : ToksOk ts) (a : Nat) (h3 : (constL.any fun s => seesA ts a s) = false) (hp1 : seesA ts a [112, 114, 105, 110, 116] = true) (w : World) (h : Ps w pb tb cap ts a d) :
    Calls prog 146 #[.pointer (some ⟨pb, 0, none⟩)] w (PPost pb tb cap ts d w NdE (((wantA ts (a + 1) [40]).go fun _ b => (E b).go fun x b => (wantA ts b [41]).go fun _ b => .inl (x, b)).go fun x b => .inl (mkE 17 [] 0 (tkA ts a).line (tkA ts a).col [] [] [x], b))) := by
  have H := hideP h
  have OK := hideP ok
  have hp := h.ltp
  have HI := hideP (fun w h => inBrackets_c pb tb cap d ts E hE ok (a + 1) w h)
  have Hh3 := hideP h3
  have Hhp1 := hideP hp1
  have HPk := hideP (fun w h => peek_c pb tb cap a d ts w h)
  obtain ⟨t, ht⟩ : ∃ t, t = tkA ts a := ⟨_, rfl⟩
  rw [<- ht] at HPk
  have HTk := hideP ht
  clear ht
  have C0 := hideP (ctx_init h zNV.obj)
  obtain ⟨R, hR⟩ : ∃ R : Pr Ty, R = (((wantA ts (a + 1) [40]).go fun _ b => (E b).go fun x b => (wantA ts b [41]).go fun _ b => .inl (x, b)).go fun x b => .inl (mkE 17 [] 0 (tkA ts a).line (tkA ts a).col [] [] [x], b)) := ⟨_, rfl⟩
  rw [<- hR]
  have HR0 := hideP hR
  clear h ok hR hE h3 hp1
  go_enter func146, ntmps146
  go_wp2_with fail
  refine (HPk.out _ C0.out.ps).mono ?_
  rintro e w1 ⟨rfl, hb⟩
  have C1 := hideP (C0.out.below hb)
  have C2 := hideP (C1.out.alloc (TOKO t))
  clear hb
  go_wp2_with fail
  rw [<- HTk.out] at HR0
  refine (is_new pb tb cap a _ 3 ts constL _ _ C2.out.ps.rd (by simp) (by simp)).mono ?_
  rw [Hh3.out]
  rintro e w2 ⟨rfl, hb⟩
  have C3 := hideP (C2.out.below hb)
  clear hb
  go_wp2_with fail
  refine (take_c pb tb cap a d ts [112, 114, 105, 110, 116] _ C3.out.ps OK.out).mono ?_
  rw [Hhp1.out, if_pos rfl]
  rintro e w3 ⟨rfl, hst, hps⟩
  have C4 := hideP (C3.out.step hst hps)
  clear hst hps
  obtain ⟨⟨k0, k1, k2, k3⟩, _, hk1⟩ := res_facts C4.out.b0
  go_wp2_with fail
  have hne0 : w1.heap.size ≠ w.heap.size := by have := C1.out.sz; omega
  have hS0 : (((w3).drew).cell? ⟨w1.heap.size, 0, none⟩ = some (.int .i64 t.kind) /\ ((w3).drew).cell? ⟨w1.heap.size, 1, none⟩ = some (.string ⟨t.text.toArray⟩) /\ ((w3).drew).cell? ⟨w1.heap.size, 2, none⟩ = some (.int .i64 t.line) /\ ((w3).drew).cell? ⟨w1.heap.size, 3, none⟩ = some (.int .i64 t.col)) := (tokB (C4.out.drew.b0))
  have HC : Hid (Calls prog 147 #[.pointer (some ⟨pb, 0, none⟩)] (w3).drew fun e w9 => (∃ chain, e = .panicked chain /\ PPost pb tb cap ts d w NdE R e w9) ∨ ∃ (y : NV) (D : Ty) (b2 : Nat), e = .returned (y.val) /\ ((w9.cell? ⟨w1.heap.size, 0, none⟩ = some (.int .i64 t.kind) /\ w9.cell? ⟨w1.heap.size, 1, none⟩ = some (.string ⟨t.text.toArray⟩) /\ w9.cell? ⟨w1.heap.size, 2, none⟩ = some (.int .i64 t.line) /\ w9.cell? ⟨w1.heap.size, 3, none⟩ = some (.int .i64 t.col))) /\ Hid (R = .inl (mkE 17 [] 0 t.line t.col [] [] [D], b2) /\ Ctx pb tb cap d ts w w9 b2 [(w1.heap.size, TOKO t), (w.heap.size, zNV.obj)] [(y, D)] [])) := by
    refine (HI.out _ C4.out.drew.ps).mono ?_
    intro e w9 hpost
    rcases ppost_or hpost with ⟨er, li, co, hr, rfl, hst⟩ | ⟨D, b2, v, hr, rfl, hst, hps, hv⟩
    · exact .inl ⟨_, rfl, C4.out.drew.st.trans hst, by rw [HR0.out, hr]; rfl⟩
    obtain ⟨y, rfl, hv⟩ := hv
    have CN := (C4.out.drew.step hst hps).addN hv C4.out.drew.sz
    exact .inr ⟨y, D, b2, rfl, (tokB (CN.b0)), by rw [HR0.out, hr]; rfl, CN⟩
  go_wp2_with fail
  go_region_held (fun W => (W.cell? ⟨w1.heap.size, 0, none⟩ = some (.int .i64 t.kind) /\ W.cell? ⟨w1.heap.size, 1, none⟩ = some (.string ⟨t.text.toArray⟩) /\ W.cell? ⟨w1.heap.size, 2, none⟩ = some (.int .i64 t.line) /\ W.cell? ⟨w1.heap.size, 3, none⟩ = some (.int .i64 t.col))) (first | with_reducible assumption | with_reducible exact HS3.out _ | with_reducible exact HS4.out _ _ _ _ _ _ _ _) (first
    | (go_at_call 147; refine HC.out.mono ?_; rintro e w9 (⟨ch, rfl, hf⟩ | ⟨y, D, b2, rfl, t5, HX⟩); exact ⟨rfl, hf⟩; have HS3 : Hid (∀ o, (((w9.alloc o)).cell? ⟨w1.heap.size, 0, none⟩ = some (.int .i64 t.kind) /\ ((w9.alloc o)).cell? ⟨w1.heap.size, 1, none⟩ = some (.string ⟨t.text.toArray⟩) /\ ((w9.alloc o)).cell? ⟨w1.heap.size, 2, none⟩ = some (.int .i64 t.line) /\ ((w9.alloc o)).cell? ⟨w1.heap.size, 3, none⟩ = some (.int .i64 t.col))) := (fun o => (tokB ((HX.out.2.alloc o).b1))))
    | (go_at_call 94; refine (placed_c t ⟨17, ⟨#[]⟩, 0, 0, 0, none, 0, 0, none, 0, 0, some ⟨w9.heap.size, 0, none⟩, 1, 1⟩ _).mono ?_; rintro e w10 ⟨rfl, hb⟩; have HX2 := hideP ((HX.out.2.alloc _).below hb); have t6 : (w10.cell? ⟨w1.heap.size, 0, none⟩ = some (.int .i64 t.kind) /\ w10.cell? ⟨w1.heap.size, 1, none⟩ = some (.string ⟨t.text.toArray⟩) /\ w10.cell? ⟨w1.heap.size, 2, none⟩ = some (.int .i64 t.line) /\ w10.cell? ⟨w1.heap.size, 3, none⟩ = some (.int .i64 t.col)) := (tokB (HX2.out.b1)); have HB8 := hideP (box8 (x := zNV) (HX2.out.b2)); obtain ⟨⟨r0, r1, r2, r3, r4, r5, r6, r7⟩, ⟨f0, f1, f2, f3, f4, f5, f6, f7⟩, hr1⟩ := HB8.out; have HS4 : Hid (∀ v0 v1 v2 v3 v4 v5 v6 v7, (((set8 w10 w.heap.size v0 v1 v2 v3 v4 v5 v6 v7)).cell? ⟨w1.heap.size, 0, none⟩ = some (.int .i64 t.kind) /\ ((set8 w10 w.heap.size v0 v1 v2 v3 v4 v5 v6 v7)).cell? ⟨w1.heap.size, 1, none⟩ = some (.string ⟨t.text.toArray⟩) /\ ((set8 w10 w.heap.size v0 v1 v2 v3 v4 v5 v6 v7)).cell? ⟨w1.heap.size, 2, none⟩ = some (.int .i64 t.line) /\ ((set8 w10 w.heap.size v0 v1 v2 v3 v4 v5 v6 v7)).cell? ⟨w1.heap.size, 3, none⟩ = some (.int .i64 t.col))) := (fun v0 v1 v2 v3 v4 v5 v6 v7 => (tokB ((set8_other hne0 v0 v1 v2 v3 v4 v5 v6 v7).trans (HX2.out.b1)))); clear hb))
  all_goals
    go_wp2_with fail
    rw [HX.out.1]
    refine bodyPost_ret (results_cell_row rfl _ _ w.heap.size 27 _ (0, 0) _ rfl (put8_heap (x := printNV t w9.heap.size) HX2.out.b2) underlying27 rfl (by kernel_rfl)) rfl ⟨stay_put8 HX2.out.st hp (Nat.le_refl _) (printNV t w9.heap.size), ps_put8 HX2.out.ps hp (printNV t w9.heap.size), _, rfl, printNV t w9.heap.size, rfl, ?_⟩
    exact ((ndV_one HX2.out.n0 HX2.out.b0 (by have := HX.out.2.sz; omega) (printNV t w9.heap.size) [] [] ⟨rfl, rfl⟩ ⟨rfl, Nat.zero_le _, 0, .inl rfl⟩ ⟨rfl, Nat.zero_le _, .inl rfl⟩).put8 (Nat.lt_succ_self _) (printNV t w9.heap.size)).lower (Nat.le_succ _)
theorem atom_read (pb tb cap d : Nat) (ts : List Tok)  (ok : ToksOk ts) (a : Nat) (h3 : (constL.any fun s => seesA ts a s) = false) (hp1 : seesA ts a [112, 114, 105, 110, 116] = false) (hr1 : seesA ts a [114, 101, 97, 100] = true) (w : World) (h : Ps w pb tb cap ts a d) :
    Calls prog 146 #[.pointer (some ⟨pb, 0, none⟩)] w (PPost pb tb cap ts d w NdE ((wantA ts (a + 1) [40]).go fun _ b => (wantA ts b [41]).go fun _ b => .inl (mkE 18 [] 0 (tkA ts a).line (tkA ts a).col [] [] [], b))) := by
  have H := hideP h
  have OK := hideP ok
  have hp := h.ltp
  have Hh3 := hideP h3
  have Hhp1 := hideP hp1
  have Hhr1 := hideP hr1
  have HPk := hideP (fun w h => peek_c pb tb cap a d ts w h)
  obtain ⟨t, ht⟩ : ∃ t, t = tkA ts a := ⟨_, rfl⟩
  rw [<- ht] at HPk
  have HTk := hideP ht
  clear ht
  have C0 := hideP (ctx_init h zNV.obj)
  obtain ⟨R, hR⟩ : ∃ R : Pr Ty, R = ((wantA ts (a + 1) [40]).go fun _ b => (wantA ts b [41]).go fun _ b => .inl (mkE 18 [] 0 (tkA ts a).line (tkA ts a).col [] [] [], b)) := ⟨_, rfl⟩
  rw [<- hR]
  have HR0 := hideP hR
  clear h ok hR  h3 hp1 hr1
  go_enter func146, ntmps146
  go_wp2_with fail
  refine (HPk.out _ C0.out.ps).mono ?_
  rintro e w1 ⟨rfl, hb⟩
  have C1 := hideP (C0.out.below hb)
  have C2 := hideP (C1.out.alloc (TOKO t))
  clear hb
  go_wp2_with fail
  rw [<- HTk.out] at HR0
  refine (is_new pb tb cap a _ 3 ts constL _ _ C2.out.ps.rd (by simp) (by simp)).mono ?_
  rw [Hh3.out]
  rintro e w2 ⟨rfl, hb⟩
  have C3 := hideP (C2.out.below hb)
  clear hb
  go_wp2_with fail
  refine (take_c pb tb cap a d ts [112, 114, 105, 110, 116] _ C3.out.ps OK.out).mono ?_
  rw [Hhp1.out, if_neg (by simp)]
  rintro e w3 ⟨rfl, hst, hps⟩
  have C4 := hideP (C3.out.step hst hps)
  clear hst hps
  go_wp2_with fail
  refine (take_c pb tb cap a d ts [114, 101, 97, 100] _ C4.out.ps OK.out).mono ?_
  rw [Hhr1.out, if_pos rfl]
  rintro e w4 ⟨rfl, hst, hps⟩
  have C5 := hideP (C4.out.step hst hps)
  clear hst hps
  go_wp2_with fail
  refine (must_c pb tb cap (a + 1) d ts [40] _ C5.out.ps OK.out).mono ?_
  intro e w5 hpost
  rcases ppost_or hpost with ⟨er, li, co, hr, rfl, hst⟩ | ⟨u1, b1, v1, hr, rfl, hst, hps, hv⟩
  · have HE : Hid (R = .inr (er, li, co)) := by rw [HR0.out, hr]; exact rfl
    have HF := hideP (C5.out.st.trans hst)
    clear hr hst hpost
    go_wp2_with fail
    exact ⟨rfl, HF.out, by rw [HE.out]⟩
  have HR1 : Hid (R = (wantA ts b1 [41]).go fun _ b => .inl (mkE 18 [] 0 t.line t.col [] [] [], b)) := by rw [HR0.out, hr]; exact rfl
  have C6 := hideP ((C5.out.step hst hps))
  clear hr hst hps hpost hv
  go_wp2_with fail
  refine (must_c pb tb cap b1 d ts [41] _ C6.out.ps OK.out).mono ?_
  intro e w6 hpost
  rcases ppost_or hpost with ⟨er, li, co, hr, rfl, hst⟩ | ⟨u2, b2, v2, hr, rfl, hst, hps, hv⟩
  · have HE : Hid (R = .inr (er, li, co)) := by rw [HR1.out, hr]; exact rfl
    have HF := hideP (C6.out.st.trans hst)
    clear hr hst hpost
    go_wp2_with fail
    exact ⟨rfl, HF.out, by rw [HE.out]⟩
  have HR2 : Hid (R = .inl (mkE 18 [] 0 t.line t.col [] [] [], b2)) := by rw [HR1.out, hr]; exact rfl
  have C7 := hideP ((C6.out.step hst hps))
  clear hr hst hps hpost hv
  obtain ⟨⟨k0, k1, k2, k3⟩, _, hk1⟩ := res_facts C7.out.b0
  go_wp2_with fail
  refine (placed_c t ⟨18, ⟨#[]⟩, 0, 0, 0, none, 0, 0, none, 0, 0, none, 0, 0⟩ _).mono ?_
  rintro e w7 ⟨rfl, hb⟩
  have C8 := hideP (C7.out.below hb)
  clear hb
  obtain ⟨⟨r0, r1, r2, r3, r4, r5, r6, r7⟩, ⟨f0, f1, f2, f3, f4, f5, f6, f7⟩, hr1⟩ := box8 (x := zNV) (C8.out.b1)
  go_wp2_with fail
  rw [HR2.out]
  refine bodyPost_ret (results_cell_row rfl _ _ w.heap.size 27 _ (0, 0) _ rfl (put8_heap (x := leafNV 18 [] 0 t) C8.out.b1) underlying27 rfl (by kernel_rfl)) rfl ⟨stay_put8 C8.out.st hp (Nat.le_refl _) (leafNV 18 [] 0 t), ps_put8 C8.out.ps hp (leafNV 18 [] 0 t), _, rfl, leafNV 18 [] 0 t, rfl, ?_⟩
  exact ((leaf_nd _ _ 18 [] 0 t).put8 (Nat.lt_succ_self _) (leafNV 18 [] 0 t)).lower (Nat.le_succ _)
theorem atom_brackets (pb tb cap d : Nat) (ts : List Tok) (E : Nat -> Pr Ty) (hE : Reads pb tb cap d ts NdE 12 E) (ok : ToksOk ts) (a : Nat) (h3 : (constL.any fun s => seesA ts a s) = false) (hp1 : seesA ts a [112, 114, 105, 110, 116] = false) (hr1 : seesA ts a [114, 101, 97, 100] = false) (hb1 : seesA ts a [40] = true) (w : World) (h : Ps w pb tb cap ts a d) :
    Calls prog 146 #[.pointer (some ⟨pb, 0, none⟩)] w (PPost pb tb cap ts d w NdE (((wantA ts a [40]).go fun _ b => (E b).go fun x b => (wantA ts b [41]).go fun _ b => .inl (x, b)).go fun x b => .inl (x, b))) := by
  have H := hideP h
  have OK := hideP ok
  have hp := h.ltp
  have HI := hideP (fun w h => inBrackets_c pb tb cap d ts E hE ok a w h)
  have Hh3 := hideP h3
  have Hhp1 := hideP hp1
  have Hhr1 := hideP hr1
  have Hhb1 := hideP hb1
  have HPk := hideP (fun w h => peek_c pb tb cap a d ts w h)
  obtain ⟨t, ht⟩ : ∃ t, t = tkA ts a := ⟨_, rfl⟩
  rw [<- ht] at HPk
  have HTk := hideP ht
  clear ht
  have C0 := hideP (ctx_init h zNV.obj)
  obtain ⟨R, hR⟩ : ∃ R : Pr Ty, R = (((wantA ts a [40]).go fun _ b => (E b).go fun x b => (wantA ts b [41]).go fun _ b => .inl (x, b)).go fun x b => .inl (x, b)) := ⟨_, rfl⟩
  rw [<- hR]
  have HR0 := hideP hR
  clear h ok hR hE h3 hp1 hr1 hb1
  go_enter func146, ntmps146
  go_wp2_with fail
  refine (HPk.out _ C0.out.ps).mono ?_
  rintro e w1 ⟨rfl, hb⟩
  have C1 := hideP (C0.out.below hb)
  have C2 := hideP (C1.out.alloc (TOKO t))
  clear hb
  go_wp2_with fail
  refine (is_new pb tb cap a _ 3 ts constL _ _ C2.out.ps.rd (by simp) (by simp)).mono ?_
  rw [Hh3.out]
  rintro e w2 ⟨rfl, hb⟩
  have C3 := hideP (C2.out.below hb)
  clear hb
  go_wp2_with fail
  refine (take_c pb tb cap a d ts [112, 114, 105, 110, 116] _ C3.out.ps OK.out).mono ?_
  rw [Hhp1.out, if_neg (by simp)]
  rintro e w3 ⟨rfl, hst, hps⟩
  have C4 := hideP (C3.out.step hst hps)
  clear hst hps
  go_wp2_with fail
  refine (take_c pb tb cap a d ts [114, 101, 97, 100] _ C4.out.ps OK.out).mono ?_
  rw [Hhr1.out, if_neg (by simp)]
  rintro e w4 ⟨rfl, hst, hps⟩
  have C5 := hideP (C4.out.step hst hps)
  clear hst hps
  go_wp2_with fail
  refine (is_new pb tb cap a _ 1 ts [[40]] _ _ C5.out.ps.rd (by simp) (by simp)).mono ?_
  rw [any_one, Hhb1.out]
  rintro e w5 ⟨rfl, hb⟩
  have C6 := hideP (C5.out.below hb)
  clear hb
  go_wp2_with fail
  refine (HI.out _ C6.out.ps).mono ?_
  intro e w6 hpost
  rcases ppost_or hpost with ⟨er, li, co, hr, rfl, hst⟩ | ⟨D, b, v, hr, rfl, hst, hps, hv⟩
  · have HE : Hid (R = .inr (er, li, co)) := by rw [HR0.out, hr]; exact rfl
    have HF := hideP (C6.out.st.trans hst)
    clear hr hst hpost
    go_wp2_with fail
    exact ⟨rfl, HF.out, by rw [HE.out]⟩
  have HR1 : Hid (R = .inl (D, b)) := by rw [HR0.out, hr]; exact rfl
  obtain ⟨x, rfl, hv⟩ := hv
  have C7 := hideP ((C6.out.step hst hps).addN hv C6.out.sz)
  clear hr hst hps hpost hv
  obtain ⟨⟨r0, r1, r2, r3, r4, r5, r6, r7⟩, ⟨f0, f1, f2, f3, f4, f5, f6, f7⟩, hr1⟩ := box8 (x := zNV) (C7.out.b1)
  go_wp2_with fail
  rw [HR1.out]
  refine bodyPost_ret (results_cell_row rfl _ _ w.heap.size 27 _ (0, 0) _ rfl (put8_heap (x := x) C7.out.b1) underlying27 rfl (by kernel_rfl)) rfl ⟨stay_put8 C7.out.st hp (Nat.le_refl _) (x), ps_put8 C7.out.ps hp (x), _, rfl, x, rfl, ?_⟩
  exact ((C7.out.n0).put8 (Nat.lt_succ_self _) (x)).lower (Nat.le_succ _)
theorem atom_spelt (pb tb cap d : Nat) (ts : List Tok) (K : Nat -> Pr Ty) (hK : Reads pb tb cap d ts TyE 17 K) (ok : ToksOk ts) (a : Nat) (h3 : (constL.any fun s => seesA ts a s) = false) (hp1 : seesA ts a [112, 114, 105, 110, 116] = false) (hr1 : seesA ts a [114, 101, 97, 100] = false) (hb1 : seesA ts a [40] = false) (hc1 : seesA ts a [123] = false) (w : World) (h : Ps w pb tb cap ts a d) :
    Calls prog 146 #[.pointer (some ⟨pb, 0, none⟩)] w (PPost pb tb cap ts d w NdE ((speltA ts K ts.length a).go fun x b => .inl (x, b))) := by
  have H := hideP h
  have OK := hideP ok
  have hp := h.ltp
  have HI := hideP (fun w h => spelt_c pb tb cap d ts K hK ok a w h)
  have Hh3 := hideP h3
  have Hhp1 := hideP hp1
  have Hhr1 := hideP hr1
  have Hhb1 := hideP hb1
  have Hhc1 := hideP hc1
  have HPk := hideP (fun w h => peek_c pb tb cap a d ts w h)
  obtain ⟨t, ht⟩ : ∃ t, t = tkA ts a := ⟨_, rfl⟩
  rw [<- ht] at HPk
  have HTk := hideP ht
  clear ht
  have C0 := hideP (ctx_init h zNV.obj)
  obtain ⟨R, hR⟩ : ∃ R : Pr Ty, R = ((speltA ts K ts.length a).go fun x b => .inl (x, b)) := ⟨_, rfl⟩
  rw [<- hR]
  have HR0 := hideP hR
  clear h ok hR hK h3 hp1 hr1 hb1 hc1
  go_enter func146, ntmps146
  go_wp2_with fail
  refine (HPk.out _ C0.out.ps).mono ?_
  rintro e w1 ⟨rfl, hb⟩
  have C1 := hideP (C0.out.below hb)
  have C2 := hideP (C1.out.alloc (TOKO t))
  clear hb
  go_wp2_with fail
  refine (is_new pb tb cap a _ 3 ts constL _ _ C2.out.ps.rd (by simp) (by simp)).mono ?_
  rw [Hh3.out]
  rintro e w2 ⟨rfl, hb⟩
  have C3 := hideP (C2.out.below hb)
  clear hb
  go_wp2_with fail
  refine (take_c pb tb cap a d ts [112, 114, 105, 110, 116] _ C3.out.ps OK.out).mono ?_
  rw [Hhp1.out, if_neg (by simp)]
  rintro e w3 ⟨rfl, hst, hps⟩
  have C4 := hideP (C3.out.step hst hps)
  clear hst hps
  go_wp2_with fail
  refine (take_c pb tb cap a d ts [114, 101, 97, 100] _ C4.out.ps OK.out).mono ?_
  rw [Hhr1.out, if_neg (by simp)]
  rintro e w4 ⟨rfl, hst, hps⟩
  have C5 := hideP (C4.out.step hst hps)
  clear hst hps
  go_wp2_with fail
  refine (is_new pb tb cap a _ 1 ts [[40]] _ _ C5.out.ps.rd (by simp) (by simp)).mono ?_
  rw [any_one, Hhb1.out]
  rintro e w5 ⟨rfl, hb⟩
  have C6 := hideP (C5.out.below hb)
  clear hb
  go_wp2_with fail
  refine (take_c pb tb cap a d ts [123] _ C6.out.ps OK.out).mono ?_
  rw [Hhc1.out, if_neg (by simp)]
  rintro e w6 ⟨rfl, hst, hps⟩
  have C7 := hideP (C6.out.step hst hps)
  clear hst hps
  go_wp2_with fail
  refine (HI.out _ C7.out.ps).mono ?_
  intro e w7 hpost
  rcases ppost_or hpost with ⟨er, li, co, hr, rfl, hst⟩ | ⟨D, b, v, hr, rfl, hst, hps, hv⟩
  · have HE : Hid (R = .inr (er, li, co)) := by rw [HR0.out, hr]; exact rfl
    have HF := hideP (C7.out.st.trans hst)
    clear hr hst hpost
    go_wp2_with fail
    exact ⟨rfl, HF.out, by rw [HE.out]⟩
  have HR1 : Hid (R = .inl (D, b)) := by rw [HR0.out, hr]; exact rfl
  obtain ⟨x, rfl, hv⟩ := hv
  have C8 := hideP ((C7.out.step hst hps).addN hv C7.out.sz)
  clear hr hst hps hpost hv
  obtain ⟨⟨r0, r1, r2, r3, r4, r5, r6, r7⟩, ⟨f0, f1, f2, f3, f4, f5, f6, f7⟩, hr1⟩ := box8 (x := zNV) (C8.out.b1)
  go_wp2_with fail
  rw [HR1.out]
  refine bodyPost_ret (results_cell_row rfl _ _ w.heap.size 27 _ (0, 0) _ rfl (put8_heap (x := x) C8.out.b1) underlying27 rfl (by kernel_rfl)) rfl ⟨stay_put8 C8.out.st hp (Nat.le_refl _) (x), ps_put8 C8.out.ps hp (x), _, rfl, x, rfl, ?_⟩
  exact ((C8.out.n0).put8 (Nat.lt_succ_self _) (x)).lower (Nat.le_succ _)
theorem atom_braces (pb tb cap d : Nat) (ts : List Tok) (E : Nat -> Pr Ty) (hE : Reads pb tb cap d ts NdE 12 E) (ok : ToksOk ts) (a : Nat) (h3 : (constL.any fun s => seesA ts a s) = false) (hp1 : seesA ts a [112, 114, 105, 110, 116] = false) (hr1 : seesA ts a [114, 101, 97, 100] = false) (hb1 : seesA ts a [40] = false) (hc1 : seesA ts a [123] = true) (w : World) (h : Ps w pb tb cap ts a d) :
    Calls prog 146 #[.pointer (some ⟨pb, 0, none⟩)] w (PPost pb tb cap ts d w NdE ((bracesA ts E ts.length (a + 1)).go fun x b => .inl (placeT (tkA ts a) x, b))) := by
  have H := hideP h
  have OK := hideP ok
  have hp := h.ltp
  have HI := hideP (fun w h => braces_c pb tb cap d ts E hE ok (a + 1) w h)
  have Hh3 := hideP h3
  have Hhp1 := hideP hp1
  have Hhr1 := hideP hr1
  have Hhb1 := hideP hb1
  have Hhc1 := hideP hc1
  have HPk := hideP (fun w h => peek_c pb tb cap a d ts w h)
  obtain ⟨t, ht⟩ : ∃ t, t = tkA ts a := ⟨_, rfl⟩
  rw [<- ht] at HPk
  have HTk := hideP ht
  clear ht
  have C0 := hideP (ctx_init h zNV.obj)
  obtain ⟨R, hR⟩ : ∃ R : Pr Ty, R = ((bracesA ts E ts.length (a + 1)).go fun x b => .inl (placeT (tkA ts a) x, b)) := ⟨_, rfl⟩
  rw [<- hR]
  have HR0 := hideP hR
  clear h ok hR hE h3 hp1 hr1 hb1 hc1
  go_enter func146, ntmps146
  go_wp2_with fail
  refine (HPk.out _ C0.out.ps).mono ?_
  rintro e w1 ⟨rfl, hb⟩
  have C1 := hideP (C0.out.below hb)
  have C2 := hideP (C1.out.alloc (TOKO t))
  clear hb
  go_wp2_with fail
  rw [<- HTk.out] at HR0
  refine (is_new pb tb cap a _ 3 ts constL _ _ C2.out.ps.rd (by simp) (by simp)).mono ?_
  rw [Hh3.out]
  rintro e w2 ⟨rfl, hb⟩
  have C3 := hideP (C2.out.below hb)
  clear hb
  go_wp2_with fail
  refine (take_c pb tb cap a d ts [112, 114, 105, 110, 116] _ C3.out.ps OK.out).mono ?_
  rw [Hhp1.out, if_neg (by simp)]
  rintro e w3 ⟨rfl, hst, hps⟩
  have C4 := hideP (C3.out.step hst hps)
  clear hst hps
  go_wp2_with fail
  refine (take_c pb tb cap a d ts [114, 101, 97, 100] _ C4.out.ps OK.out).mono ?_
  rw [Hhr1.out, if_neg (by simp)]
  rintro e w4 ⟨rfl, hst, hps⟩
  have C5 := hideP (C4.out.step hst hps)
  clear hst hps
  go_wp2_with fail
  refine (is_new pb tb cap a _ 1 ts [[40]] _ _ C5.out.ps.rd (by simp) (by simp)).mono ?_
  rw [any_one, Hhb1.out]
  rintro e w5 ⟨rfl, hb⟩
  have C6 := hideP (C5.out.below hb)
  clear hb
  go_wp2_with fail
  refine (take_c pb tb cap a d ts [123] _ C6.out.ps OK.out).mono ?_
  rw [Hhc1.out, if_pos rfl]
  rintro e w6 ⟨rfl, hst, hps⟩
  have C7 := hideP (C6.out.step hst hps)
  clear hst hps
  obtain ⟨⟨k0, k1, k2, k3⟩, _, hk1⟩ := res_facts C7.out.b0
  go_wp2_with fail
  have hne0 : w1.heap.size ≠ w.heap.size := by have := C1.out.sz; omega
  have hS0 : (((w6).drew).cell? ⟨w1.heap.size, 0, none⟩ = some (.int .i64 t.kind) /\ ((w6).drew).cell? ⟨w1.heap.size, 1, none⟩ = some (.string ⟨t.text.toArray⟩) /\ ((w6).drew).cell? ⟨w1.heap.size, 2, none⟩ = some (.int .i64 t.line) /\ ((w6).drew).cell? ⟨w1.heap.size, 3, none⟩ = some (.int .i64 t.col)) := (tokB (C7.out.drew.b0))
  have HC : Hid (Calls prog 149 #[.pointer (some ⟨pb, 0, none⟩)] (w6).drew fun e w9 => (∃ chain, e = .panicked chain /\ PPost pb tb cap ts d w NdE R e w9) ∨ ∃ (y : NV) (D : Ty) (b2 : Nat), e = .returned (y.val) /\ ((w9.cell? ⟨w1.heap.size, 0, none⟩ = some (.int .i64 t.kind) /\ w9.cell? ⟨w1.heap.size, 1, none⟩ = some (.string ⟨t.text.toArray⟩) /\ w9.cell? ⟨w1.heap.size, 2, none⟩ = some (.int .i64 t.line) /\ w9.cell? ⟨w1.heap.size, 3, none⟩ = some (.int .i64 t.col))) /\ Hid (R = .inl (placeT t D, b2) /\ Ctx pb tb cap d ts w w9 b2 [(w1.heap.size, TOKO t), (w.heap.size, zNV.obj)] [(y, D)] [])) := by
    refine (HI.out _ C7.out.drew.ps).mono ?_
    intro e w9 hpost
    rcases ppost_or hpost with ⟨er, li, co, hr, rfl, hst⟩ | ⟨D, b2, v, hr, rfl, hst, hps, hv⟩
    · exact .inl ⟨_, rfl, C7.out.drew.st.trans hst, by rw [HR0.out, hr]; rfl⟩
    obtain ⟨y, rfl, hv⟩ := hv
    have CN := (C7.out.drew.step hst hps).addN hv C7.out.drew.sz
    exact .inr ⟨y, D, b2, rfl, (tokB (CN.b0)), by rw [HR0.out, hr]; rfl, CN⟩
  go_wp2_with fail
  go_region_held (fun W => (W.cell? ⟨w1.heap.size, 0, none⟩ = some (.int .i64 t.kind) /\ W.cell? ⟨w1.heap.size, 1, none⟩ = some (.string ⟨t.text.toArray⟩) /\ W.cell? ⟨w1.heap.size, 2, none⟩ = some (.int .i64 t.line) /\ W.cell? ⟨w1.heap.size, 3, none⟩ = some (.int .i64 t.col))) (first | with_reducible assumption | with_reducible exact HS3.out _ | with_reducible exact HS4.out _ _ _ _ _ _ _ _) (first
    | (go_at_call 149; refine HC.out.mono ?_; rintro e w9 (⟨ch, rfl, hf⟩ | ⟨y, D, b2, rfl, t5, HX⟩); exact ⟨rfl, hf⟩; have HS3 : Hid (∀ o, (((w9.alloc o)).cell? ⟨w1.heap.size, 0, none⟩ = some (.int .i64 t.kind) /\ ((w9.alloc o)).cell? ⟨w1.heap.size, 1, none⟩ = some (.string ⟨t.text.toArray⟩) /\ ((w9.alloc o)).cell? ⟨w1.heap.size, 2, none⟩ = some (.int .i64 t.line) /\ ((w9.alloc o)).cell? ⟨w1.heap.size, 3, none⟩ = some (.int .i64 t.col))) := (fun o => (tokB ((HX.out.2.alloc o).b1))))
    | (go_at_call 94; refine (placed_c t y _).mono ?_; rintro e w10 ⟨rfl, hb⟩; have HX2 := hideP (HX.out.2.below hb); have t6 : (w10.cell? ⟨w1.heap.size, 0, none⟩ = some (.int .i64 t.kind) /\ w10.cell? ⟨w1.heap.size, 1, none⟩ = some (.string ⟨t.text.toArray⟩) /\ w10.cell? ⟨w1.heap.size, 2, none⟩ = some (.int .i64 t.line) /\ w10.cell? ⟨w1.heap.size, 3, none⟩ = some (.int .i64 t.col)) := (tokB (HX2.out.b0)); have HB8 := hideP (box8 (x := zNV) (HX2.out.b1)); obtain ⟨⟨r0, r1, r2, r3, r4, r5, r6, r7⟩, ⟨f0, f1, f2, f3, f4, f5, f6, f7⟩, hr1⟩ := HB8.out; have HS4 : Hid (∀ v0 v1 v2 v3 v4 v5 v6 v7, (((set8 w10 w.heap.size v0 v1 v2 v3 v4 v5 v6 v7)).cell? ⟨w1.heap.size, 0, none⟩ = some (.int .i64 t.kind) /\ ((set8 w10 w.heap.size v0 v1 v2 v3 v4 v5 v6 v7)).cell? ⟨w1.heap.size, 1, none⟩ = some (.string ⟨t.text.toArray⟩) /\ ((set8 w10 w.heap.size v0 v1 v2 v3 v4 v5 v6 v7)).cell? ⟨w1.heap.size, 2, none⟩ = some (.int .i64 t.line) /\ ((set8 w10 w.heap.size v0 v1 v2 v3 v4 v5 v6 v7)).cell? ⟨w1.heap.size, 3, none⟩ = some (.int .i64 t.col))) := (fun v0 v1 v2 v3 v4 v5 v6 v7 => (tokB ((set8_other hne0 v0 v1 v2 v3 v4 v5 v6 v7).trans (HX2.out.b0)))); clear hb))
  all_goals
    go_wp2_with fail
    rw [HX.out.1]
    refine bodyPost_ret (results_cell_row rfl _ _ w.heap.size 27 _ (0, 0) _ rfl (put8_heap (x := { y with li := t.line, co := t.col }) HX2.out.b1) underlying27 rfl (by kernel_rfl)) rfl ⟨stay_put8 HX2.out.st hp (Nat.le_refl _) ({ y with li := t.line, co := t.col }), ps_put8 HX2.out.ps hp ({ y with li := t.line, co := t.col }), _, rfl, { y with li := t.line, co := t.col }, rfl, ?_⟩
    exact ((placeT_nd HX2.out.n0 t).put8 (Nat.lt_succ_self _) ({ y with li := t.line, co := t.col })).lower (Nat.le_succ _)
end Go.Proofs.YtlhmofphpfdjlaaGreatDoor
