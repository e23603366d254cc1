/- Part. -/
import Derived.Test.YtlhmofphpfdjlaaGreatDoorPart23
set_option maxRecDepth 100000
set_option maxHeartbeats 4000000
/- Operations of one operand. -/
namespace Go.Proofs.YtlhmofphpfdjlaaGreatDoor
open Go.Proofs.Tryz
open Go.RowKit
attribute [local go_sem ↓] Go.wp_at_zero Go.wp_at_succ
/-- One expression in a row that was just made. -/
theorem ndV_one {lo kb : Nat} {w : World} {x : NV} {D1 : Ty} (h1 : NdV lo w x D1) (hk : w.heap[kb]? = some x.obj) (hlo : lo <= kb)
    (z : NV) (tys : List Ty) (ns : List (List UInt8)) (hz : z.ka = some ⟨kb, 0, none⟩ /\ z.kl = 1) (ht : z.tl = tys.length /\ tys.length <= 100000 /\ ∃ m, KidsF w lo m z.ta tys) (hn : z.nl = ns.length /\ ns.length <= 100000 /\ NamesF w lo z.na ns) :
    NdV lo w z (mkE z.k z.tx.data.toList z.N z.li z.co tys ns [D1]) := by
  obtain ⟨m1, h1⟩ := h1
  obtain ⟨t1, t2, m3, t3⟩ := ht
  refine ⟨max m1 m3 + 1, tys, ns, [D1], rfl, ⟨t1, hn.1, hz.2⟩, ⟨t2, hn.2.1, (by show 1 <= _; omega)⟩, kidsF_mono t3 (Nat.le_max_right _ _), hn.2.2, .inr ⟨kb, 0, hz.1, hlo, ⟨_, _, hk⟩, fun i hi => ?_⟩⟩
  match i, hi with
  | 0, _ => exact ⟨x, ⟨by rw [cell_of_row _ _ _ _ _ _ hk]; rfl, by rw [cell_of_row _ _ _ _ _ _ hk]; rfl, by rw [cell_of_row _ _ _ _ _ _ hk]; rfl, by rw [cell_of_row _ _ _ _ _ _ hk]; rfl, by rw [cell_of_row _ _ _ _ _ _ hk]; rfl, by rw [cell_of_row _ _ _ _ _ _ hk]; rfl, by rw [cell_of_row _ _ _ _ _ _ hk]; rfl, by rw [cell_of_row _ _ _ _ _ _ hk]; rfl⟩, nodeF_mono h1 (Nat.le_max_left _ _)⟩
abbrev set8 (w : World) (b : Nat) (v0 v1 v2 v3 v4 v5 v6 v7 : Value) : World := (((((((w.setCell ⟨b, 0, none⟩ v0).setCell ⟨b, 1, none⟩ v1).setCell ⟨b, 2, none⟩ v2).setCell ⟨b, 3, none⟩ v3).setCell ⟨b, 4, none⟩ v4).setCell ⟨b, 5, none⟩ v5).setCell ⟨b, 6, none⟩ v6).setCell ⟨b, 7, none⟩ v7
theorem set8_other {w : World} {b i : Nat} (hi : i ≠ b) (v0 v1 v2 v3 v4 v5 v6 v7 : Value) : (set8 w b v0 v1 v2 v3 v4 v5 v6 v7).heap[i]? = w.heap[i]? := by
  unfold set8
  rw [Below.heap_setCell _ _ _ _ hi, Below.heap_setCell _ _ _ _ hi, Below.heap_setCell _ _ _ _ hi, Below.heap_setCell _ _ _ _ hi, Below.heap_setCell _ _ _ _ hi, Below.heap_setCell _ _ _ _ hi, Below.heap_setCell _ _ _ _ hi, Below.heap_setCell _ _ _ _ hi]
/-- The box's cells behind a store elsewhere. -/
theorem tok_far {W W' : World} {b : Nat} {t : Tok} (h : TokB W b t) (hk : W'.heap[b]? = W.heap[b]?) : TokB W' b t := by
  have hc : ∀ j, W'.cell? ⟨b, j, none⟩ = W.cell? ⟨b, j, none⟩ := fun j => World.cell?_of_block (w := W) (a := ⟨b, j, none⟩) hk
  exact ⟨(hc 0).trans h.1, (hc 1).trans h.2.1, (hc 2).trans h.2.2.1, (hc 3).trans h.2.2.2⟩
abbrev unNV (k : Int) (t : Tok) (kb : Nat) : NV := ⟨k, ⟨#[]⟩, 0, t.line, t.col, none, 0, 0, none, 0, 0, some ⟨kb, 0, none⟩, 1, 1⟩
theorem unary_neg (pb tb cap d : Nat) (ts : List Tok) (U : Nat -> Pr Ty) (hU : Reads pb tb cap d ts NdE 143 U) (ok : ToksOk ts) (a : Nat) (hs : seesA ts a [45] = true) (w : World) (h : Ps w pb tb cap ts a d) :
    Calls prog 144 #[.pointer (some ⟨pb, 0, none⟩)] w (PPost pb tb cap ts d w NdE ((U (a + 1)).go fun x b => .inl (mkE 16 [] 0 (tkA ts a).line (tkA ts a).col [] [] [x], b))) := by
  have H := hideP h
  have OK := hideP ok
  have hp := h.ltp
  have HU1 := hideP hU
  have C0 := hideP (ctx_init h zNV.obj)
  have HN := hideP (sees_next ok.ends h.lt hs)
  have HS := hideP hs
  have HPa := hideP (fun w h => pass_c pb tb cap a d ts w h HN.out ok.len)
  obtain ⟨t, ht⟩ : ∃ t, t = tkA ts a := ⟨_, rfl⟩
  rw [<- ht] at HPa ⊢
  clear ht hs
  obtain ⟨R, hR⟩ : ∃ R : Pr Ty, R = ((U (a + 1)).go fun x b => .inl (mkE 16 [] 0 t.line t.col [] [] [x], b)) := ⟨_, rfl⟩
  rw [<- hR]
  have HR0 := hideP hR
  clear h ok hR hU
  go_enter func144, ntmps144
  go_wp2_with fail
  refine (is_new pb tb cap a _ 1 ts [[45]] _ _ C0.out.ps.rd (by simp) (by simp)).mono ?_
  rw [any_one, HS.out]
  rintro e w1 ⟨rfl, hb⟩
  have C1 := hideP (C0.out.below hb)
  clear hb
  go_wp2_with fail
  refine (HPa.out _ C1.out.ps).mono ?_
  rintro e w2 ⟨rfl, hst, hps⟩
  have C2 := hideP (C1.out.step hst hps)
  have C3 := hideP (C2.out.alloc (TOKO t))
  clear hst hps
  obtain ⟨⟨k0, k1, k2, k3⟩, _, hk1⟩ := res_facts C3.out.b0
  go_wp2_with fail
  have hne0 : w2.heap.size ≠ w.heap.size := by have := C2.out.sz; omega
  have hS0 : (((w2.alloc (TOKO t)).drew).cell? ⟨w2.heap.size, 0, none⟩ = some (.int .i64 t.kind) /\ ((w2.alloc (TOKO t)).drew).cell? ⟨w2.heap.size, 1, none⟩ = some (.string ⟨t.text.toArray⟩) /\ ((w2.alloc (TOKO t)).drew).cell? ⟨w2.heap.size, 2, none⟩ = some (.int .i64 t.line) /\ ((w2.alloc (TOKO t)).drew).cell? ⟨w2.heap.size, 3, none⟩ = some (.int .i64 t.col)) := (tokB (C3.out.drew.b0))
  have HC : Hid (Calls prog 143 #[.pointer (some ⟨pb, 0, none⟩)] (w2.alloc (TOKO t)).drew fun e w9 => (∃ chain, e = .panicked chain /\ PPost pb tb cap ts d w NdE R e w9) ∨ ∃ (y : NV) (D : Ty) (b2 : Nat), e = .returned (y.val) /\ ((w9.cell? ⟨w2.heap.size, 0, none⟩ = some (.int .i64 t.kind) /\ w9.cell? ⟨w2.heap.size, 1, none⟩ = some (.string ⟨t.text.toArray⟩) /\ w9.cell? ⟨w2.heap.size, 2, none⟩ = some (.int .i64 t.line) /\ w9.cell? ⟨w2.heap.size, 3, none⟩ = some (.int .i64 t.col))) /\ Hid (R = .inl (mkE 16 [] 0 t.line t.col [] [] [D], b2) /\ Ctx pb tb cap d ts w w9 b2 [(w2.heap.size, TOKO t), (w.heap.size, zNV.obj)] [(y, D)] [])) := by
    refine (HU1.out.calls (a + 1) _ C3.out.drew.ps).mono ?_
    intro e w9 hpost
    rcases ppost_or hpost with ⟨er, li, co, hr, rfl, hst⟩ | ⟨D, b2, v, hr, rfl, hst, hps, hv⟩
    · exact .inl ⟨_, rfl, C3.out.drew.st.trans hst, by rw [HR0.out, hr]; rfl⟩
    obtain ⟨y, rfl, hv⟩ := hv
    have CN := (C3.out.drew.step hst hps).addN hv C3.out.drew.sz
    exact .inr ⟨y, D, b2, rfl, (tokB (CN.b0)), by rw [HR0.out, hr]; rfl, CN⟩
  go_wp2_with fail
  go_region_held (fun W => (W.cell? ⟨w2.heap.size, 0, none⟩ = some (.int .i64 t.kind) /\ W.cell? ⟨w2.heap.size, 1, none⟩ = some (.string ⟨t.text.toArray⟩) /\ W.cell? ⟨w2.heap.size, 2, none⟩ = some (.int .i64 t.line) /\ W.cell? ⟨w2.heap.size, 3, none⟩ = some (.int .i64 t.col))) (first | with_reducible assumption | with_reducible exact HS3.out _ | with_reducible exact HS4.out _ _ _ _ _ _ _ _) (first
    | (go_at_call 143; refine HC.out.mono ?_; rintro e w9 (⟨ch, rfl, hf⟩ | ⟨y, D, b2, rfl, t5, HX⟩); exact ⟨rfl, hf⟩; have HS3 : Hid (∀ o, (((w9.alloc o)).cell? ⟨w2.heap.size, 0, none⟩ = some (.int .i64 t.kind) /\ ((w9.alloc o)).cell? ⟨w2.heap.size, 1, none⟩ = some (.string ⟨t.text.toArray⟩) /\ ((w9.alloc o)).cell? ⟨w2.heap.size, 2, none⟩ = some (.int .i64 t.line) /\ ((w9.alloc o)).cell? ⟨w2.heap.size, 3, none⟩ = some (.int .i64 t.col))) := (fun o => (tokB ((HX.out.2.alloc o).b1))))
    | (go_at_call 94; refine (placed_c t ⟨16, ⟨#[]⟩, 0, 0, 0, none, 0, 0, none, 0, 0, some ⟨w9.heap.size, 0, none⟩, 1, 1⟩ _).mono ?_; rintro e w10 ⟨rfl, hb⟩; have HX2 := hideP ((HX.out.2.alloc _).below hb); have t6 : (w10.cell? ⟨w2.heap.size, 0, none⟩ = some (.int .i64 t.kind) /\ w10.cell? ⟨w2.heap.size, 1, none⟩ = some (.string ⟨t.text.toArray⟩) /\ w10.cell? ⟨w2.heap.size, 2, none⟩ = some (.int .i64 t.line) /\ w10.cell? ⟨w2.heap.size, 3, none⟩ = some (.int .i64 t.col)) := (tokB (HX2.out.b1)); have HB8 := hideP (box8 (x := zNV) (HX2.out.b2)); obtain ⟨⟨r0, r1, r2, r3, r4, r5, r6, r7⟩, ⟨f0, f1, f2, f3, f4, f5, f6, f7⟩, hr1⟩ := HB8.out; have HS4 : Hid (∀ v0 v1 v2 v3 v4 v5 v6 v7, (((set8 w10 w.heap.size v0 v1 v2 v3 v4 v5 v6 v7)).cell? ⟨w2.heap.size, 0, none⟩ = some (.int .i64 t.kind) /\ ((set8 w10 w.heap.size v0 v1 v2 v3 v4 v5 v6 v7)).cell? ⟨w2.heap.size, 1, none⟩ = some (.string ⟨t.text.toArray⟩) /\ ((set8 w10 w.heap.size v0 v1 v2 v3 v4 v5 v6 v7)).cell? ⟨w2.heap.size, 2, none⟩ = some (.int .i64 t.line) /\ ((set8 w10 w.heap.size v0 v1 v2 v3 v4 v5 v6 v7)).cell? ⟨w2.heap.size, 3, none⟩ = some (.int .i64 t.col))) := (fun v0 v1 v2 v3 v4 v5 v6 v7 => (tokB ((set8_other hne0 v0 v1 v2 v3 v4 v5 v6 v7).trans (HX2.out.b1)))); clear hb))
  all_goals
    go_wp2_with fail
    rw [HX.out.1]
    refine bodyPost_ret (results_cell_row rfl _ _ w.heap.size 27 _ (0, 0) _ rfl (put8_heap (x := unNV 16 t w9.heap.size) HX2.out.b2) underlying27 rfl (by kernel_rfl)) rfl ⟨stay_put8 HX2.out.st hp (Nat.le_refl _) (unNV 16 t w9.heap.size), ps_put8 HX2.out.ps hp (unNV 16 t w9.heap.size), _, rfl, unNV 16 t w9.heap.size, rfl, ?_⟩
    exact ((ndV_one HX2.out.n0 HX2.out.b0 (by have := HX.out.2.sz; omega) (unNV 16 t w9.heap.size) [] [] ⟨rfl, rfl⟩ ⟨rfl, Nat.zero_le _, 0, .inl rfl⟩ ⟨rfl, Nat.zero_le _, .inl rfl⟩).put8 (Nat.lt_succ_self _) (unNV 16 t w9.heap.size)).lower (Nat.le_succ _)
theorem unary_not (pb tb cap d : Nat) (ts : List Tok) (U : Nat -> Pr Ty) (hU : Reads pb tb cap d ts NdE 143 U) (ok : ToksOk ts) (a : Nat) (hs : seesA ts a [110, 111, 116] = true) (w : World) (h : Ps w pb tb cap ts a d) :
    Calls prog 144 #[.pointer (some ⟨pb, 0, none⟩)] w (PPost pb tb cap ts d w NdE ((U (a + 1)).go fun x b => .inl (mkE 15 [] 0 (tkA ts a).line (tkA ts a).col [] [] [x], b))) := by
  have H := hideP h
  have OK := hideP ok
  have hp := h.ltp
  have HU1 := hideP hU
  have C0 := hideP (ctx_init h zNV.obj)
  have HN := hideP (sees_next ok.ends h.lt hs)
  have HS0 := hideP (sees_two hs (show ([110, 111, 116] : List UInt8) ≠ [45] by decide))
  have HS := hideP hs
  have HPa := hideP (fun w h => pass_c pb tb cap a d ts w h HN.out ok.len)
  obtain ⟨t, ht⟩ : ∃ t, t = tkA ts a := ⟨_, rfl⟩
  rw [<- ht] at HPa ⊢
  clear ht hs
  obtain ⟨R, hR⟩ : ∃ R : Pr Ty, R = ((U (a + 1)).go fun x b => .inl (mkE 15 [] 0 t.line t.col [] [] [x], b)) := ⟨_, rfl⟩
  rw [<- hR]
  have HR0 := hideP hR
  clear h ok hR hU
  go_enter func144, ntmps144
  go_wp2_with fail
  refine (is_new pb tb cap a _ 1 ts [[45]] _ _ C0.out.ps.rd (by simp) (by simp)).mono ?_
  rw [any_one, HS0.out]
  rintro e w1 ⟨rfl, hb⟩
  have C1 := hideP (C0.out.below hb)
  clear hb
  go_wp2_with fail
  refine (is_new pb tb cap a _ 1 ts [[110, 111, 116]] _ _ C1.out.ps.rd (by simp) (by simp)).mono ?_
  rw [any_one, HS.out]
  rintro e w2 ⟨rfl, hb⟩
  have C2 := hideP (C1.out.below hb)
  clear hb
  go_wp2_with fail
  refine (HPa.out _ C2.out.ps).mono ?_
  rintro e w3 ⟨rfl, hst, hps⟩
  have C3 := hideP (C2.out.step hst hps)
  have C4 := hideP (C3.out.alloc (TOKO t))
  clear hst hps
  obtain ⟨⟨k0, k1, k2, k3⟩, _, hk1⟩ := res_facts C4.out.b0
  go_wp2_with fail
  have hne0 : w3.heap.size ≠ w.heap.size := by have := C3.out.sz; omega
  have hS0 : (((w3.alloc (TOKO t)).drew).cell? ⟨w3.heap.size, 0, none⟩ = some (.int .i64 t.kind) /\ ((w3.alloc (TOKO t)).drew).cell? ⟨w3.heap.size, 1, none⟩ = some (.string ⟨t.text.toArray⟩) /\ ((w3.alloc (TOKO t)).drew).cell? ⟨w3.heap.size, 2, none⟩ = some (.int .i64 t.line) /\ ((w3.alloc (TOKO t)).drew).cell? ⟨w3.heap.size, 3, none⟩ = some (.int .i64 t.col)) := (tokB (C4.out.drew.b0))
  have HC : Hid (Calls prog 143 #[.pointer (some ⟨pb, 0, none⟩)] (w3.alloc (TOKO t)).drew fun e w9 => (∃ chain, e = .panicked chain /\ PPost pb tb cap ts d w NdE R e w9) ∨ ∃ (y : NV) (D : Ty) (b2 : Nat), e = .returned (y.val) /\ ((w9.cell? ⟨w3.heap.size, 0, none⟩ = some (.int .i64 t.kind) /\ w9.cell? ⟨w3.heap.size, 1, none⟩ = some (.string ⟨t.text.toArray⟩) /\ w9.cell? ⟨w3.heap.size, 2, none⟩ = some (.int .i64 t.line) /\ w9.cell? ⟨w3.heap.size, 3, none⟩ = some (.int .i64 t.col))) /\ Hid (R = .inl (mkE 15 [] 0 t.line t.col [] [] [D], b2) /\ Ctx pb tb cap d ts w w9 b2 [(w3.heap.size, TOKO t), (w.heap.size, zNV.obj)] [(y, D)] [])) := by
    refine (HU1.out.calls (a + 1) _ C4.out.drew.ps).mono ?_
    intro e w9 hpost
    rcases ppost_or hpost with ⟨er, li, co, hr, rfl, hst⟩ | ⟨D, b2, v, hr, rfl, hst, hps, hv⟩
    · exact .inl ⟨_, rfl, C4.out.drew.st.trans hst, by rw [HR0.out, hr]; rfl⟩
    obtain ⟨y, rfl, hv⟩ := hv
    have CN := (C4.out.drew.step hst hps).addN hv C4.out.drew.sz
    exact .inr ⟨y, D, b2, rfl, (tokB (CN.b0)), by rw [HR0.out, hr]; rfl, CN⟩
  go_wp2_with fail
  go_region_held (fun W => (W.cell? ⟨w3.heap.size, 0, none⟩ = some (.int .i64 t.kind) /\ W.cell? ⟨w3.heap.size, 1, none⟩ = some (.string ⟨t.text.toArray⟩) /\ W.cell? ⟨w3.heap.size, 2, none⟩ = some (.int .i64 t.line) /\ W.cell? ⟨w3.heap.size, 3, none⟩ = some (.int .i64 t.col))) (first | with_reducible assumption | with_reducible exact HS3.out _ | with_reducible exact HS4.out _ _ _ _ _ _ _ _) (first
    | (go_at_call 143; refine HC.out.mono ?_; rintro e w9 (⟨ch, rfl, hf⟩ | ⟨y, D, b2, rfl, t5, HX⟩); exact ⟨rfl, hf⟩; have HS3 : Hid (∀ o, (((w9.alloc o)).cell? ⟨w3.heap.size, 0, none⟩ = some (.int .i64 t.kind) /\ ((w9.alloc o)).cell? ⟨w3.heap.size, 1, none⟩ = some (.string ⟨t.text.toArray⟩) /\ ((w9.alloc o)).cell? ⟨w3.heap.size, 2, none⟩ = some (.int .i64 t.line) /\ ((w9.alloc o)).cell? ⟨w3.heap.size, 3, none⟩ = some (.int .i64 t.col))) := (fun o => (tokB ((HX.out.2.alloc o).b1))))
    | (go_at_call 94; refine (placed_c t ⟨15, ⟨#[]⟩, 0, 0, 0, none, 0, 0, none, 0, 0, some ⟨w9.heap.size, 0, none⟩, 1, 1⟩ _).mono ?_; rintro e w10 ⟨rfl, hb⟩; have HX2 := hideP ((HX.out.2.alloc _).below hb); have t6 : (w10.cell? ⟨w3.heap.size, 0, none⟩ = some (.int .i64 t.kind) /\ w10.cell? ⟨w3.heap.size, 1, none⟩ = some (.string ⟨t.text.toArray⟩) /\ w10.cell? ⟨w3.heap.size, 2, none⟩ = some (.int .i64 t.line) /\ w10.cell? ⟨w3.heap.size, 3, none⟩ = some (.int .i64 t.col)) := (tokB (HX2.out.b1)); have HB8 := hideP (box8 (x := zNV) (HX2.out.b2)); obtain ⟨⟨r0, r1, r2, r3, r4, r5, r6, r7⟩, ⟨f0, f1, f2, f3, f4, f5, f6, f7⟩, hr1⟩ := HB8.out; have HS4 : Hid (∀ v0 v1 v2 v3 v4 v5 v6 v7, (((set8 w10 w.heap.size v0 v1 v2 v3 v4 v5 v6 v7)).cell? ⟨w3.heap.size, 0, none⟩ = some (.int .i64 t.kind) /\ ((set8 w10 w.heap.size v0 v1 v2 v3 v4 v5 v6 v7)).cell? ⟨w3.heap.size, 1, none⟩ = some (.string ⟨t.text.toArray⟩) /\ ((set8 w10 w.heap.size v0 v1 v2 v3 v4 v5 v6 v7)).cell? ⟨w3.heap.size, 2, none⟩ = some (.int .i64 t.line) /\ ((set8 w10 w.heap.size v0 v1 v2 v3 v4 v5 v6 v7)).cell? ⟨w3.heap.size, 3, none⟩ = some (.int .i64 t.col))) := (fun v0 v1 v2 v3 v4 v5 v6 v7 => (tokB ((set8_other hne0 v0 v1 v2 v3 v4 v5 v6 v7).trans (HX2.out.b1)))); clear hb))
  all_goals
    go_wp2_with fail
    rw [HX.out.1]
    refine bodyPost_ret (results_cell_row rfl _ _ w.heap.size 27 _ (0, 0) _ rfl (put8_heap (x := unNV 15 t w9.heap.size) HX2.out.b2) underlying27 rfl (by kernel_rfl)) rfl ⟨stay_put8 HX2.out.st hp (Nat.le_refl _) (unNV 15 t w9.heap.size), ps_put8 HX2.out.ps hp (unNV 15 t w9.heap.size), _, rfl, unNV 15 t w9.heap.size, rfl, ?_⟩
    exact ((ndV_one HX2.out.n0 HX2.out.b0 (by have := HX.out.2.sz; omega) (unNV 15 t w9.heap.size) [] [] ⟨rfl, rfl⟩ ⟨rfl, Nat.zero_le _, 0, .inl rfl⟩ ⟨rfl, Nat.zero_le _, .inl rfl⟩).put8 (Nat.lt_succ_self _) (unNV 15 t w9.heap.size)).lower (Nat.le_succ _)
end Go.Proofs.YtlhmofphpfdjlaaGreatDoor
