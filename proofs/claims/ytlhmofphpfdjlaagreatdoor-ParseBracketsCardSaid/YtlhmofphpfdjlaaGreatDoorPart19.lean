/- Part. -/
import Derived.Test.YtlhmofphpfdjlaaGreatDoorPart18
set_option maxRecDepth 100000
set_option maxHeartbeats 4000000
/- unary, and if. -/
namespace Go.Proofs.YtlhmofphpfdjlaaGreatDoor
open Go.Proofs.Tryz
open Go.RowKit
attribute [local go_sem ↓] Go.wp_at_zero Go.wp_at_succ
theorem unary_post (pb tb cap d : Nat) (ts : List Tok) (P : Nat -> Pr Ty) (hP : Reads pb tb cap d ts NdE 145 P) (ok : ToksOk ts) (a : Nat) (h1 : seesA ts a [45] = false) (h2 : seesA ts a [110, 111, 116] = false) (w : World) (h : Ps w pb tb cap ts a d) :
    Calls prog 144 #[.pointer (some ⟨pb, 0, none⟩)] w (PPost pb tb cap ts d w NdE ((P a).go fun x b => .inl (x, b))) := by
  have H := hideP h
  have OK := hideP ok
  have hp := h.ltp
  have HP1 := hideP hP
  have HS1 := hideP h1
  have HS2 := hideP h2
  have C0 := hideP (ctx_init h zNV.obj)
  obtain ⟨R, hR⟩ : ∃ R : Pr Ty, R = ((P a).go fun x b => .inl (x, b)) := ⟨_, rfl⟩
  rw [<- hR]
  have HR0 := hideP hR
  clear h ok hR hP h1 h2
  go_enter func144, ntmps144
  go_wp2_with fail
  refine (is_new pb tb cap a _ 1 ts [[45]] _ _ C0.out.ps.rd (by simp) (by simp)).mono ?_
  rw [any_one, HS1.out]
  rintro e w1 ⟨rfl, hb⟩
  have C1 := hideP (C0.out.below hb)
  clear hb
  go_wp2_with fail
  refine (is_new pb tb cap a _ 1 ts [[110, 111, 116]] _ _ C1.out.ps.rd (by simp) (by simp)).mono ?_
  rw [any_one, HS2.out]
  rintro e w2 ⟨rfl, hb⟩
  have C2 := hideP (C1.out.below hb)
  clear hb
  go_wp2_with fail
  refine (HP1.out.calls a _ C2.out.ps).mono ?_
  intro e w3 hpost
  rcases ppost_or hpost with ⟨er, li, co, hr, rfl, hst⟩ | ⟨D, b, v, hr, rfl, hst, hps, hv⟩
  · have HE : Hid (R = .inr (er, li, co)) := by rw [HR0.out, hr]; exact rfl
    have HF := hideP (C2.out.st.trans hst)
    clear hr hst hpost
    go_wp2_with fail
    exact ⟨rfl, HF.out, by rw [HE.out]⟩
  have HR1 : Hid (R = .inl (D, b)) := by rw [HR0.out, hr]; exact rfl
  obtain ⟨x, rfl, hv⟩ := hv
  have C3 := hideP ((C2.out.step hst hps).addN hv C2.out.sz)
  clear hr hst hps hpost hv
  obtain ⟨⟨r0, r1, r2, r3, r4, r5, r6, r7⟩, ⟨f0, f1, f2, f3, f4, f5, f6, f7⟩, hr1⟩ := box8 (x := zNV) (C3.out.b0)
  go_wp2_with fail
  rw [HR1.out]
  refine bodyPost_ret (results_cell_row rfl _ _ w.heap.size 27 _ (0, 0) _ rfl (put8_heap (x := x) C3.out.b0) underlying27 rfl (by kernel_rfl)) rfl ⟨stay_put8 C3.out.st hp (Nat.le_refl _) (x), ps_put8 C3.out.ps hp (x), _, rfl, x, rfl, ?_⟩
  exact ((C3.out.n0).put8 (Nat.lt_succ_self _) (x)).lower (Nat.le_succ _)
/-- unary, behind its depth. -/
theorem unaryHere_c (pb tb cap d : Nat) (ts : List Tok) (U P : Nat -> Pr Ty) (hU : Reads pb tb cap d ts NdE 143 U) (hP : Reads pb tb cap d ts NdE 145 P) (ok : ToksOk ts) (a : Nat) (w : World) (h : Ps w pb tb cap ts a d) :
    Calls prog 144 #[.pointer (some ⟨pb, 0, none⟩)] w (PPost pb tb cap ts d w NdE (if seesA ts a [45] then (U (a + 1)).go fun x b => .inl (mkE 16 [] 0 (lineA ts a) (colA ts a) [] [] [x], b)
      else if seesA ts a [110, 111, 116] then (U (a + 1)).go fun x b => .inl (mkE 15 [] 0 (lineA ts a) (colA ts a) [] [] [x], b) else P a)) := by
  by_cases h1 : seesA ts a [45] = true
  · rw [if_pos h1]
    exact unary_neg pb tb cap d ts U hU ok a h1 w h
  · rw [if_neg h1]
    by_cases h2 : seesA ts a [110, 111, 116] = true
    · rw [if_pos h2]
      exact unary_not pb tb cap d ts U hU ok a h2 w h
    · rw [if_neg h2]
      have := unary_post pb tb cap d ts P hP ok a (by simpa using h1) (by simpa using h2) w h
      cases hp : P a with
      | inl p => rw [hp] at this; exact this
      | inr p => rw [hp] at this; exact this
/-- Three expressions in a row that was just made. -/
theorem ndV_three {lo kb : Nat} {w : World} {x y u : NV} {D1 D2 D3 : Ty} (h1 : NdV lo w x D1) (h2 : NdV lo w y D2) (h3 : NdV lo w u D3) (hk : w.heap[kb]? = some (.cells #[.int .i64 x.k, .string x.tx, .int .i64 x.N, .int .i64 x.li, .int .i64 x.co, .slice x.ta x.tl x.tc, .slice x.na x.nl x.nc, .slice x.ka x.kl x.kc, .int .i64 y.k, .string y.tx, .int .i64 y.N, .int .i64 y.li, .int .i64 y.co, .slice y.ta y.tl y.tc, .slice y.na y.nl y.nc, .slice y.ka y.kl y.kc, .int .i64 u.k, .string u.tx, .int .i64 u.N, .int .i64 u.li, .int .i64 u.co, .slice u.ta u.tl u.tc, .slice u.na u.nl u.nc, .slice u.ka u.kl u.kc] 27)) (hlo : lo <= kb)
    (z : NV) (hz : z.ka = some ⟨kb, 0, none⟩ /\ z.kl = 3) (ht : z.tl = 0) (hn : z.nl = 0) :
    NdV lo w z (mkE z.k z.tx.data.toList z.N z.li z.co [] [] [D1, D2, D3]) := by
  obtain ⟨m1, h1⟩ := h1
  obtain ⟨m2, h2⟩ := h2
  obtain ⟨m3, h3⟩ := h3
  refine ⟨max (max m1 m2) m3 + 1, [], [], [D1, D2, D3], rfl, ⟨ht, hn, hz.2⟩, ⟨Nat.zero_le _, Nat.zero_le _, (by show 3 <= _; omega)⟩, .inl rfl, .inl rfl, .inr ⟨kb, 0, hz.1, hlo, ⟨_, _, hk⟩, fun i hi => ?_⟩⟩
  match i, hi with
  | 0, _ => exact ⟨x, ⟨by rw [cell_of_row _ _ _ _ _ _ hk]; rfl, by rw [cell_of_row _ _ _ _ _ _ hk]; rfl, by rw [cell_of_row _ _ _ _ _ _ hk]; rfl, by rw [cell_of_row _ _ _ _ _ _ hk]; rfl, by rw [cell_of_row _ _ _ _ _ _ hk]; rfl, by rw [cell_of_row _ _ _ _ _ _ hk]; rfl, by rw [cell_of_row _ _ _ _ _ _ hk]; rfl, by rw [cell_of_row _ _ _ _ _ _ hk]; rfl⟩, nodeF_mono h1 (Nat.le_trans (Nat.le_max_left _ _) (Nat.le_max_left _ _))⟩
  | 1, _ => exact ⟨y, ⟨by rw [cell_of_row _ _ _ _ _ _ hk]; rfl, by rw [cell_of_row _ _ _ _ _ _ hk]; rfl, by rw [cell_of_row _ _ _ _ _ _ hk]; rfl, by rw [cell_of_row _ _ _ _ _ _ hk]; rfl, by rw [cell_of_row _ _ _ _ _ _ hk]; rfl, by rw [cell_of_row _ _ _ _ _ _ hk]; rfl, by rw [cell_of_row _ _ _ _ _ _ hk]; rfl, by rw [cell_of_row _ _ _ _ _ _ hk]; rfl⟩, nodeF_mono h2 (Nat.le_trans (Nat.le_max_right _ _) (Nat.le_max_left _ _))⟩
  | 2, _ => exact ⟨u, ⟨by rw [cell_of_row _ _ _ _ _ _ hk]; rfl, by rw [cell_of_row _ _ _ _ _ _ hk]; rfl, by rw [cell_of_row _ _ _ _ _ _ hk]; rfl, by rw [cell_of_row _ _ _ _ _ _ hk]; rfl, by rw [cell_of_row _ _ _ _ _ _ hk]; rfl, by rw [cell_of_row _ _ _ _ _ _ hk]; rfl, by rw [cell_of_row _ _ _ _ _ _ hk]; rfl, by rw [cell_of_row _ _ _ _ _ _ hk]; rfl⟩, nodeF_mono h3 (Nat.le_max_right _ _)⟩
abbrev ifNV (t : Tok) (kb : Nat) : NV := ⟨11, ⟨#[]⟩, 0, t.line, t.col, none, 0, 0, none, 0, 0, some ⟨kb, 0, none⟩, 3, 3⟩
theorem choice_c (pb tb cap d : Nat) (ts : List Tok) (E : Nat -> Pr Ty) (hE : Reads pb tb cap d ts NdE 12 E) (ok : ToksOk ts) (a : Nat) (w : World) (h : Ps w pb tb cap ts a d) :
    Calls prog 55 #[.pointer (some ⟨pb, 0, none⟩)] w (PPost pb tb cap ts d w NdE ((wantA ts a [105, 102]).go fun _ b => (E b).go fun c b => (wantA ts b [116, 104, 101, 110]).go fun _ b => (E b).go fun x b => (wantA ts b [101, 108, 115, 101]).go fun _ b => (E b).go fun y b => .inl (mkE 11 [] 0 (tkA ts a).line (tkA ts a).col [] [] [c, x, y], b))) := by
  have H := hideP h
  have OK := hideP ok
  have hp := h.ltp
  have HE1 := hideP hE
  have HM0 := hideP (fun w h => must_c pb tb cap a d ts [105, 102] w h ok)
  obtain ⟨t, ht⟩ : ∃ t, t = tkA ts a := ⟨_, rfl⟩
  rw [<- ht] at HM0 ⊢
  clear ht
  have C0 := hideP (ctx_init h zNV.obj)
  obtain ⟨R, hR⟩ : ∃ R : Pr Ty, R = ((wantA ts a [105, 102]).go fun _ b => (E b).go fun c b => (wantA ts b [116, 104, 101, 110]).go fun _ b => (E b).go fun x b => (wantA ts b [101, 108, 115, 101]).go fun _ b => (E b).go fun y b => .inl (mkE 11 [] 0 t.line t.col [] [] [c, x, y], b)) := ⟨_, rfl⟩
  rw [<- hR]
  have HR0 := hideP hR
  clear h ok hR hE
  go_enter func55, ntmps55
  go_wp2_with fail
  refine (HM0.out _ C0.out.ps).mono ?_
  intro e w1 hpost
  rcases ppost_or hpost with ⟨er, li, co, hr, rfl, hst⟩ | ⟨u, b1, v, hr, rfl, hst, hps, hv⟩
  · have HE : Hid (R = .inr (er, li, co)) := by rw [HR0.out, hr]; exact rfl
    have HF := hideP (C0.out.st.trans hst)
    clear hr hst hpost
    go_wp2_with fail
    exact ⟨rfl, HF.out, by rw [HE.out]⟩
  have HR1 : Hid (R = (E b1).go fun c b => (wantA ts b [116, 104, 101, 110]).go fun _ b => (E b).go fun x b => (wantA ts b [101, 108, 115, 101]).go fun _ b => (E b).go fun y b => .inl (mkE 11 [] 0 t.line t.col [] [] [c, x, y], b)) := by rw [HR0.out, hr]; exact rfl
  subst hv
  have C1 := hideP ((C0.out.step hst hps))
  have C2 := hideP (C1.out.alloc (TOKO t))
  clear hr hst hps hpost  
  go_wp2_with fail
  refine (HE1.out.calls b1 _ C2.out.ps).mono ?_
  intro e w2 hpost
  rcases ppost_or hpost with ⟨er, li, co, hr, rfl, hst⟩ | ⟨D1, b2, v, hr, rfl, hst, hps, hv⟩
  · have HE : Hid (R = .inr (er, li, co)) := by rw [HR1.out, hr]; exact rfl
    have HF := hideP (C2.out.st.trans hst)
    clear hr hst hpost
    go_wp2_with fail
    exact ⟨rfl, HF.out, by rw [HE.out]⟩
  have HR2 : Hid (R = (wantA ts b2 [116, 104, 101, 110]).go fun _ b => (E b).go fun x b => (wantA ts b [101, 108, 115, 101]).go fun _ b => (E b).go fun y b => .inl (mkE 11 [] 0 t.line t.col [] [] [D1, x, y], b)) := by rw [HR1.out, hr]; exact rfl
  obtain ⟨x1, rfl, hv⟩ := hv
  have C3 := hideP ((C2.out.step hst hps).addN hv C2.out.sz)
  have C4 := hideP (C3.out.alloc (x1.obj))
  clear hr hst hps hpost hv
  go_wp2_with fail
  refine (must_c pb tb cap b2 d ts [116, 104, 101, 110] _ C4.out.ps OK.out).mono ?_
  intro e w3 hpost
  rcases ppost_or hpost with ⟨er, li, co, hr, rfl, hst⟩ | ⟨u3, b3, v3, hr, rfl, hst, hps, hv⟩
  · have HE : Hid (R = .inr (er, li, co)) := by rw [HR2.out, hr]; exact rfl
    have HF := hideP (C4.out.st.trans hst)
    clear hr hst hpost
    go_wp2_with fail
    exact ⟨rfl, HF.out, by rw [HE.out]⟩
  have HR3 : Hid (R = (E b3).go fun x b => (wantA ts b [101, 108, 115, 101]).go fun _ b => (E b).go fun y b => .inl (mkE 11 [] 0 t.line t.col [] [] [D1, x, y], b)) := by rw [HR2.out, hr]; exact rfl
  have C5 := hideP ((C4.out.step hst hps))
  clear hr hst hps hpost hv
  go_wp2_with fail
  refine (HE1.out.calls b3 _ C5.out.ps).mono ?_
  intro e w4 hpost
  rcases ppost_or hpost with ⟨er, li, co, hr, rfl, hst⟩ | ⟨D2, b4, v, hr, rfl, hst, hps, hv⟩
  · have HE : Hid (R = .inr (er, li, co)) := by rw [HR3.out, hr]; exact rfl
    have HF := hideP (C5.out.st.trans hst)
    clear hr hst hpost
    go_wp2_with fail
    exact ⟨rfl, HF.out, by rw [HE.out]⟩
  have HR4 : Hid (R = (wantA ts b4 [101, 108, 115, 101]).go fun _ b => (E b).go fun y b => .inl (mkE 11 [] 0 t.line t.col [] [] [D1, D2, y], b)) := by rw [HR3.out, hr]; exact rfl
  obtain ⟨x2, rfl, hv⟩ := hv
  have C6 := hideP ((C5.out.step hst hps).addN hv C5.out.sz)
  have C7 := hideP (C6.out.alloc (x2.obj))
  clear hr hst hps hpost hv
  go_wp2_with fail
  refine (must_c pb tb cap b4 d ts [101, 108, 115, 101] _ C7.out.ps OK.out).mono ?_
  intro e w5 hpost
  rcases ppost_or hpost with ⟨er, li, co, hr, rfl, hst⟩ | ⟨u5, b5, v5, hr, rfl, hst, hps, hv⟩
  · have HE : Hid (R = .inr (er, li, co)) := by rw [HR4.out, hr]; exact rfl
    have HF := hideP (C7.out.st.trans hst)
    clear hr hst hpost
    go_wp2_with fail
    exact ⟨rfl, HF.out, by rw [HE.out]⟩
  have HR5 : Hid (R = (E b5).go fun y b => .inl (mkE 11 [] 0 t.line t.col [] [] [D1, D2, y], b)) := by rw [HR4.out, hr]; exact rfl
  have C8 := hideP ((C7.out.step hst hps))
  clear hr hst hps hpost hv
  obtain ⟨⟨k0, k1, k2, k3⟩, _, hk1⟩ := res_facts C8.out.b2
  obtain ⟨⟨n0, n1, n2, n3, n4, n5, n6, n7⟩, _, hn1⟩ := box8 (x := x1) C8.out.b1
  obtain ⟨⟨m0, m1, m2, m3, m4, m5, m6, m7⟩, _, hm1⟩ := box8 (x := x2) C8.out.b0
  go_wp2_with fail
  have hne0 : w1.heap.size ≠ w.heap.size := by have := C1.out.sz; omega
  have hne1 : w2.heap.size ≠ w.heap.size := by have := C3.out.sz; omega
  have hne2 : w4.heap.size ≠ w.heap.size := by have := C6.out.sz; omega
  have hS0 : (((w5).drew).cell? ⟨w1.heap.size, 0, none⟩ = some (.int .i64 t.kind) /\ ((w5).drew).cell? ⟨w1.heap.size, 1, none⟩ = some (.string ⟨t.text.toArray⟩) /\ ((w5).drew).cell? ⟨w1.heap.size, 2, none⟩ = some (.int .i64 t.line) /\ ((w5).drew).cell? ⟨w1.heap.size, 3, none⟩ = some (.int .i64 t.col)) /\ (((w5).drew).cell? ⟨w2.heap.size, 0, none⟩ = some (.int .i64 x1.k) /\ ((w5).drew).cell? ⟨w2.heap.size, 1, none⟩ = some (.string x1.tx) /\ ((w5).drew).cell? ⟨w2.heap.size, 2, none⟩ = some (.int .i64 x1.N) /\ ((w5).drew).cell? ⟨w2.heap.size, 3, none⟩ = some (.int .i64 x1.li) /\ ((w5).drew).cell? ⟨w2.heap.size, 4, none⟩ = some (.int .i64 x1.co) /\ ((w5).drew).cell? ⟨w2.heap.size, 5, none⟩ = some (.slice x1.ta x1.tl x1.tc) /\ ((w5).drew).cell? ⟨w2.heap.size, 6, none⟩ = some (.slice x1.na x1.nl x1.nc) /\ ((w5).drew).cell? ⟨w2.heap.size, 7, none⟩ = some (.slice x1.ka x1.kl x1.kc)) /\ (((w5).drew).cell? ⟨w4.heap.size, 0, none⟩ = some (.int .i64 x2.k) /\ ((w5).drew).cell? ⟨w4.heap.size, 1, none⟩ = some (.string x2.tx) /\ ((w5).drew).cell? ⟨w4.heap.size, 2, none⟩ = some (.int .i64 x2.N) /\ ((w5).drew).cell? ⟨w4.heap.size, 3, none⟩ = some (.int .i64 x2.li) /\ ((w5).drew).cell? ⟨w4.heap.size, 4, none⟩ = some (.int .i64 x2.co) /\ ((w5).drew).cell? ⟨w4.heap.size, 5, none⟩ = some (.slice x2.ta x2.tl x2.tc) /\ ((w5).drew).cell? ⟨w4.heap.size, 6, none⟩ = some (.slice x2.na x2.nl x2.nc) /\ ((w5).drew).cell? ⟨w4.heap.size, 7, none⟩ = some (.slice x2.ka x2.kl x2.kc)) := ⟨(tokB (C8.out.drew.b2)), (box8 (x := x1) (C8.out.drew.b1)).1, (box8 (x := x2) (C8.out.drew.b0)).1⟩
  have HC : Hid (Calls prog 12 #[.pointer (some ⟨pb, 0, none⟩)] (w5).drew fun e w9 => (∃ chain, e = .panicked chain /\ PPost pb tb cap ts d w NdE R e w9) ∨ ∃ (y : NV) (D3 : Ty) (b6 : Nat), e = .returned (y.val) /\ ((w9.cell? ⟨w1.heap.size, 0, none⟩ = some (.int .i64 t.kind) /\ w9.cell? ⟨w1.heap.size, 1, none⟩ = some (.string ⟨t.text.toArray⟩) /\ w9.cell? ⟨w1.heap.size, 2, none⟩ = some (.int .i64 t.line) /\ w9.cell? ⟨w1.heap.size, 3, none⟩ = some (.int .i64 t.col)) /\ (w9.cell? ⟨w2.heap.size, 0, none⟩ = some (.int .i64 x1.k) /\ w9.cell? ⟨w2.heap.size, 1, none⟩ = some (.string x1.tx) /\ w9.cell? ⟨w2.heap.size, 2, none⟩ = some (.int .i64 x1.N) /\ w9.cell? ⟨w2.heap.size, 3, none⟩ = some (.int .i64 x1.li) /\ w9.cell? ⟨w2.heap.size, 4, none⟩ = some (.int .i64 x1.co) /\ w9.cell? ⟨w2.heap.size, 5, none⟩ = some (.slice x1.ta x1.tl x1.tc) /\ w9.cell? ⟨w2.heap.size, 6, none⟩ = some (.slice x1.na x1.nl x1.nc) /\ w9.cell? ⟨w2.heap.size, 7, none⟩ = some (.slice x1.ka x1.kl x1.kc)) /\ (w9.cell? ⟨w4.heap.size, 0, none⟩ = some (.int .i64 x2.k) /\ w9.cell? ⟨w4.heap.size, 1, none⟩ = some (.string x2.tx) /\ w9.cell? ⟨w4.heap.size, 2, none⟩ = some (.int .i64 x2.N) /\ w9.cell? ⟨w4.heap.size, 3, none⟩ = some (.int .i64 x2.li) /\ w9.cell? ⟨w4.heap.size, 4, none⟩ = some (.int .i64 x2.co) /\ w9.cell? ⟨w4.heap.size, 5, none⟩ = some (.slice x2.ta x2.tl x2.tc) /\ w9.cell? ⟨w4.heap.size, 6, none⟩ = some (.slice x2.na x2.nl x2.nc) /\ w9.cell? ⟨w4.heap.size, 7, none⟩ = some (.slice x2.ka x2.kl x2.kc))) /\ Hid (R = .inl (mkE 11 [] 0 t.line t.col [] [] [D1, D2, D3], b6) /\ Ctx pb tb cap d ts w w9 b6 [(w4.heap.size, x2.obj), (w2.heap.size, x1.obj), (w1.heap.size, TOKO t), (w.heap.size, zNV.obj)] [(y, D3), (x2, D2), (x1, D1)] [])) := by
    refine (HE1.out.calls b5 _ C8.out.drew.ps).mono ?_
    intro e w9 hpost
    rcases ppost_or hpost with ⟨er, li, co, hr, rfl, hst⟩ | ⟨D3, b6, v, hr, rfl, hst, hps, hv⟩
    · exact .inl ⟨_, rfl, C8.out.drew.st.trans hst, by rw [HR5.out, hr]; rfl⟩
    obtain ⟨y, rfl, hv⟩ := hv
    have CN := (C8.out.drew.step hst hps).addN hv C8.out.drew.sz
    exact .inr ⟨y, D3, b6, rfl, ⟨(tokB (CN.b2)), (box8 (x := x1) (CN.b1)).1, (box8 (x := x2) (CN.b0)).1⟩, by rw [HR5.out, hr]; rfl, CN⟩
  go_wp2_with fail
  go_region_held (fun W => (W.cell? ⟨w1.heap.size, 0, none⟩ = some (.int .i64 t.kind) /\ W.cell? ⟨w1.heap.size, 1, none⟩ = some (.string ⟨t.text.toArray⟩) /\ W.cell? ⟨w1.heap.size, 2, none⟩ = some (.int .i64 t.line) /\ W.cell? ⟨w1.heap.size, 3, none⟩ = some (.int .i64 t.col)) /\ (W.cell? ⟨w2.heap.size, 0, none⟩ = some (.int .i64 x1.k) /\ W.cell? ⟨w2.heap.size, 1, none⟩ = some (.string x1.tx) /\ W.cell? ⟨w2.heap.size, 2, none⟩ = some (.int .i64 x1.N) /\ W.cell? ⟨w2.heap.size, 3, none⟩ = some (.int .i64 x1.li) /\ W.cell? ⟨w2.heap.size, 4, none⟩ = some (.int .i64 x1.co) /\ W.cell? ⟨w2.heap.size, 5, none⟩ = some (.slice x1.ta x1.tl x1.tc) /\ W.cell? ⟨w2.heap.size, 6, none⟩ = some (.slice x1.na x1.nl x1.nc) /\ W.cell? ⟨w2.heap.size, 7, none⟩ = some (.slice x1.ka x1.kl x1.kc)) /\ (W.cell? ⟨w4.heap.size, 0, none⟩ = some (.int .i64 x2.k) /\ W.cell? ⟨w4.heap.size, 1, none⟩ = some (.string x2.tx) /\ W.cell? ⟨w4.heap.size, 2, none⟩ = some (.int .i64 x2.N) /\ W.cell? ⟨w4.heap.size, 3, none⟩ = some (.int .i64 x2.li) /\ W.cell? ⟨w4.heap.size, 4, none⟩ = some (.int .i64 x2.co) /\ W.cell? ⟨w4.heap.size, 5, none⟩ = some (.slice x2.ta x2.tl x2.tc) /\ W.cell? ⟨w4.heap.size, 6, none⟩ = some (.slice x2.na x2.nl x2.nc) /\ W.cell? ⟨w4.heap.size, 7, none⟩ = some (.slice x2.ka x2.kl x2.kc))) (first | with_reducible assumption | with_reducible exact HS3.out _ | with_reducible exact HS4.out _ _ _ _ _ _ _ _) (first
    | (go_at_call 12; refine HC.out.mono ?_; rintro e w9 (⟨ch, rfl, hf⟩ | ⟨y, D3, b6, rfl, t5, HX⟩); exact ⟨rfl, hf⟩; have HS3 : Hid (∀ o, (((w9.alloc o)).cell? ⟨w1.heap.size, 0, none⟩ = some (.int .i64 t.kind) /\ ((w9.alloc o)).cell? ⟨w1.heap.size, 1, none⟩ = some (.string ⟨t.text.toArray⟩) /\ ((w9.alloc o)).cell? ⟨w1.heap.size, 2, none⟩ = some (.int .i64 t.line) /\ ((w9.alloc o)).cell? ⟨w1.heap.size, 3, none⟩ = some (.int .i64 t.col)) /\ (((w9.alloc o)).cell? ⟨w2.heap.size, 0, none⟩ = some (.int .i64 x1.k) /\ ((w9.alloc o)).cell? ⟨w2.heap.size, 1, none⟩ = some (.string x1.tx) /\ ((w9.alloc o)).cell? ⟨w2.heap.size, 2, none⟩ = some (.int .i64 x1.N) /\ ((w9.alloc o)).cell? ⟨w2.heap.size, 3, none⟩ = some (.int .i64 x1.li) /\ ((w9.alloc o)).cell? ⟨w2.heap.size, 4, none⟩ = some (.int .i64 x1.co) /\ ((w9.alloc o)).cell? ⟨w2.heap.size, 5, none⟩ = some (.slice x1.ta x1.tl x1.tc) /\ ((w9.alloc o)).cell? ⟨w2.heap.size, 6, none⟩ = some (.slice x1.na x1.nl x1.nc) /\ ((w9.alloc o)).cell? ⟨w2.heap.size, 7, none⟩ = some (.slice x1.ka x1.kl x1.kc)) /\ (((w9.alloc o)).cell? ⟨w4.heap.size, 0, none⟩ = some (.int .i64 x2.k) /\ ((w9.alloc o)).cell? ⟨w4.heap.size, 1, none⟩ = some (.string x2.tx) /\ ((w9.alloc o)).cell? ⟨w4.heap.size, 2, none⟩ = some (.int .i64 x2.N) /\ ((w9.alloc o)).cell? ⟨w4.heap.size, 3, none⟩ = some (.int .i64 x2.li) /\ ((w9.alloc o)).cell? ⟨w4.heap.size, 4, none⟩ = some (.int .i64 x2.co) /\ ((w9.alloc o)).cell? ⟨w4.heap.size, 5, none⟩ = some (.slice x2.ta x2.tl x2.tc) /\ ((w9.alloc o)).cell? ⟨w4.heap.size, 6, none⟩ = some (.slice x2.na x2.nl x2.nc) /\ ((w9.alloc o)).cell? ⟨w4.heap.size, 7, none⟩ = some (.slice x2.ka x2.kl x2.kc))) := (fun o => ⟨(tokB ((HX.out.2.alloc o).b3)), (box8 (x := x1) ((HX.out.2.alloc o).b2)).1, (box8 (x := x2) ((HX.out.2.alloc o).b1)).1⟩))
    | (go_at_call 94; refine (placed_c t ⟨11, ⟨#[]⟩, 0, 0, 0, none, 0, 0, none, 0, 0, some ⟨w9.heap.size, 0, none⟩, 3, 3⟩ _).mono ?_; rintro e w10 ⟨rfl, hb⟩; have HX2 := hideP ((HX.out.2.alloc _).below hb); have t6 : (w10.cell? ⟨w1.heap.size, 0, none⟩ = some (.int .i64 t.kind) /\ w10.cell? ⟨w1.heap.size, 1, none⟩ = some (.string ⟨t.text.toArray⟩) /\ w10.cell? ⟨w1.heap.size, 2, none⟩ = some (.int .i64 t.line) /\ w10.cell? ⟨w1.heap.size, 3, none⟩ = some (.int .i64 t.col)) /\ (w10.cell? ⟨w2.heap.size, 0, none⟩ = some (.int .i64 x1.k) /\ w10.cell? ⟨w2.heap.size, 1, none⟩ = some (.string x1.tx) /\ w10.cell? ⟨w2.heap.size, 2, none⟩ = some (.int .i64 x1.N) /\ w10.cell? ⟨w2.heap.size, 3, none⟩ = some (.int .i64 x1.li) /\ w10.cell? ⟨w2.heap.size, 4, none⟩ = some (.int .i64 x1.co) /\ w10.cell? ⟨w2.heap.size, 5, none⟩ = some (.slice x1.ta x1.tl x1.tc) /\ w10.cell? ⟨w2.heap.size, 6, none⟩ = some (.slice x1.na x1.nl x1.nc) /\ w10.cell? ⟨w2.heap.size, 7, none⟩ = some (.slice x1.ka x1.kl x1.kc)) /\ (w10.cell? ⟨w4.heap.size, 0, none⟩ = some (.int .i64 x2.k) /\ w10.cell? ⟨w4.heap.size, 1, none⟩ = some (.string x2.tx) /\ w10.cell? ⟨w4.heap.size, 2, none⟩ = some (.int .i64 x2.N) /\ w10.cell? ⟨w4.heap.size, 3, none⟩ = some (.int .i64 x2.li) /\ w10.cell? ⟨w4.heap.size, 4, none⟩ = some (.int .i64 x2.co) /\ w10.cell? ⟨w4.heap.size, 5, none⟩ = some (.slice x2.ta x2.tl x2.tc) /\ w10.cell? ⟨w4.heap.size, 6, none⟩ = some (.slice x2.na x2.nl x2.nc) /\ w10.cell? ⟨w4.heap.size, 7, none⟩ = some (.slice x2.ka x2.kl x2.kc)) := ⟨(tokB (HX2.out.b3)), (box8 (x := x1) (HX2.out.b2)).1, (box8 (x := x2) (HX2.out.b1)).1⟩; have HB8 := hideP (box8 (x := zNV) (HX2.out.b4)); obtain ⟨⟨r0, r1, r2, r3, r4, r5, r6, r7⟩, ⟨f0, f1, f2, f3, f4, f5, f6, f7⟩, hr1⟩ := HB8.out; have HS4 : Hid (∀ v0 v1 v2 v3 v4 v5 v6 v7, (((set8 w10 w.heap.size v0 v1 v2 v3 v4 v5 v6 v7)).cell? ⟨w1.heap.size, 0, none⟩ = some (.int .i64 t.kind) /\ ((set8 w10 w.heap.size v0 v1 v2 v3 v4 v5 v6 v7)).cell? ⟨w1.heap.size, 1, none⟩ = some (.string ⟨t.text.toArray⟩) /\ ((set8 w10 w.heap.size v0 v1 v2 v3 v4 v5 v6 v7)).cell? ⟨w1.heap.size, 2, none⟩ = some (.int .i64 t.line) /\ ((set8 w10 w.heap.size v0 v1 v2 v3 v4 v5 v6 v7)).cell? ⟨w1.heap.size, 3, none⟩ = some (.int .i64 t.col)) /\ (((set8 w10 w.heap.size v0 v1 v2 v3 v4 v5 v6 v7)).cell? ⟨w2.heap.size, 0, none⟩ = some (.int .i64 x1.k) /\ ((set8 w10 w.heap.size v0 v1 v2 v3 v4 v5 v6 v7)).cell? ⟨w2.heap.size, 1, none⟩ = some (.string x1.tx) /\ ((set8 w10 w.heap.size v0 v1 v2 v3 v4 v5 v6 v7)).cell? ⟨w2.heap.size, 2, none⟩ = some (.int .i64 x1.N) /\ ((set8 w10 w.heap.size v0 v1 v2 v3 v4 v5 v6 v7)).cell? ⟨w2.heap.size, 3, none⟩ = some (.int .i64 x1.li) /\ ((set8 w10 w.heap.size v0 v1 v2 v3 v4 v5 v6 v7)).cell? ⟨w2.heap.size, 4, none⟩ = some (.int .i64 x1.co) /\ ((set8 w10 w.heap.size v0 v1 v2 v3 v4 v5 v6 v7)).cell? ⟨w2.heap.size, 5, none⟩ = some (.slice x1.ta x1.tl x1.tc) /\ ((set8 w10 w.heap.size v0 v1 v2 v3 v4 v5 v6 v7)).cell? ⟨w2.heap.size, 6, none⟩ = some (.slice x1.na x1.nl x1.nc) /\ ((set8 w10 w.heap.size v0 v1 v2 v3 v4 v5 v6 v7)).cell? ⟨w2.heap.size, 7, none⟩ = some (.slice x1.ka x1.kl x1.kc)) /\ (((set8 w10 w.heap.size v0 v1 v2 v3 v4 v5 v6 v7)).cell? ⟨w4.heap.size, 0, none⟩ = some (.int .i64 x2.k) /\ ((set8 w10 w.heap.size v0 v1 v2 v3 v4 v5 v6 v7)).cell? ⟨w4.heap.size, 1, none⟩ = some (.string x2.tx) /\ ((set8 w10 w.heap.size v0 v1 v2 v3 v4 v5 v6 v7)).cell? ⟨w4.heap.size, 2, none⟩ = some (.int .i64 x2.N) /\ ((set8 w10 w.heap.size v0 v1 v2 v3 v4 v5 v6 v7)).cell? ⟨w4.heap.size, 3, none⟩ = some (.int .i64 x2.li) /\ ((set8 w10 w.heap.size v0 v1 v2 v3 v4 v5 v6 v7)).cell? ⟨w4.heap.size, 4, none⟩ = some (.int .i64 x2.co) /\ ((set8 w10 w.heap.size v0 v1 v2 v3 v4 v5 v6 v7)).cell? ⟨w4.heap.size, 5, none⟩ = some (.slice x2.ta x2.tl x2.tc) /\ ((set8 w10 w.heap.size v0 v1 v2 v3 v4 v5 v6 v7)).cell? ⟨w4.heap.size, 6, none⟩ = some (.slice x2.na x2.nl x2.nc) /\ ((set8 w10 w.heap.size v0 v1 v2 v3 v4 v5 v6 v7)).cell? ⟨w4.heap.size, 7, none⟩ = some (.slice x2.ka x2.kl x2.kc))) := (fun v0 v1 v2 v3 v4 v5 v6 v7 => ⟨(tokB ((set8_other hne0 v0 v1 v2 v3 v4 v5 v6 v7).trans (HX2.out.b3))), (box8 (x := x1) ((set8_other hne1 v0 v1 v2 v3 v4 v5 v6 v7).trans (HX2.out.b2))).1, (box8 (x := x2) ((set8_other hne2 v0 v1 v2 v3 v4 v5 v6 v7).trans (HX2.out.b1))).1⟩); clear hb))
  all_goals
    go_wp2_with fail
    rw [HX.out.1]
    refine bodyPost_ret (results_cell_row rfl _ _ w.heap.size 27 _ (0, 0) _ rfl (put8_heap (x := ifNV t w9.heap.size) HX2.out.b4) underlying27 rfl (by kernel_rfl)) rfl ⟨stay_put8 HX2.out.st hp (Nat.le_refl _) (ifNV t w9.heap.size), ps_put8 HX2.out.ps hp (ifNV t w9.heap.size), _, rfl, ifNV t w9.heap.size, rfl, ?_⟩
    exact ((ndV_three HX2.out.n2 HX2.out.n1 HX2.out.n0 HX2.out.b0 (by have := HX.out.2.sz; omega) (ifNV t w9.heap.size) ⟨rfl, rfl⟩ rfl rfl).put8 (Nat.lt_succ_self _) (ifNV t w9.heap.size)).lower (Nat.le_succ _)
end Go.Proofs.YtlhmofphpfdjlaaGreatDoor
