/- Part. -/
import Derived.Test.YtlhmofphpfdjlaaGreatDoorPart24
set_option maxRecDepth 100000
set_option maxHeartbeats 4000000
/- Comparisons. -/
namespace Go.Proofs.YtlhmofphpfdjlaaGreatDoor
open Go.Proofs.Tryz
open Go.RowKit
attribute [local go_sem ↓] Go.wp_at_zero Go.wp_at_succ
theorem placed_x (t : Tok) (k : Int) (tx : ByteArray) (N : Int) (ta : Option Addr) (tl tc : Nat) (na : Option Addr) (nl nc : Nat) (ka : Option Addr) (kl kc : Nat) (w : World) : Calls prog 94 #[tokV t, .agg #[.int .i64 k, .string tx, .int .i64 N, .int .i64 0, .int .i64 0, .slice ta tl tc, .slice na nl nc, .slice ka kl kc]] w fun e w' => ∃ z : NV, e = .returned z.val /\ Hid (z = ⟨k, tx, N, t.line, t.col, ta, tl, tc, na, nl, nc, ka, kl, kc⟩) /\ Below w.heap.size w w' :=
  (placed_c t ⟨k, tx, N, 0, 0, ta, tl, tc, na, nl, nc, ka, kl, kc⟩ w).mono fun _ _ ⟨h1, h2⟩ => ⟨_, h1, rfl, h2⟩
theorem placed_z (t : Tok) (k : Int) (tx : ByteArray) (N : Int) (ta : Option Addr) (tl tc : Nat) (na : Option Addr) (nl nc : Nat) (ka : Option Addr) (kl kc : Nat) (w : World) : Calls prog 94 #[tokV t, .agg #[.int .i64 k, .string tx, .int .i64 N, .int .i64 0, .int .i64 0, .slice ta tl tc, .slice na nl nc, .slice ka kl kc]] w fun e w' => e = .returned (NV.val ⟨k, tx, N, t.line, t.col, ta, tl, tc, na, nl, nc, ka, kl, kc⟩) /\ Below w.heap.size w w' :=
  placed_c t ⟨k, tx, N, 0, 0, ta, tl, tc, na, nl, nc, ka, kl, kc⟩ w
/-- What stands behind the left side of a comparison. -/
def cmpB (ts : List Tok) (K sub : Nat -> Pr Ty) (x : Ty) (a : Nat) : Pr Ty :=
  if ([[60], [60, 61], [61, 61]] : List (List UInt8)).any fun s => seesA ts a s then (sub (a + 1)).go fun y b => .inl (mkE 14 (tkA ts a).text 0 (tkA ts a).line (tkA ts a).col [] [] [x, y], b)
  else if seesA ts a [105, 115] then (tagA ts (a + 1)).go fun i b => .inl (mkE 12 [] i (tkA ts a).line (tkA ts a).col [] [] [x], b)
  else if seesA ts a [97, 115] then (K (a + 1)).go fun t b => .inl (mkE 13 [] 0 (tkA ts a).line (tkA ts a).col [t] [] [x], b)
  else .inl (x, a)
/-- One type in a row that was just made. -/
theorem ty_one {lo tb : Nat} {w : World} {k : Int} {nm : ByteArray} {na : Option Addr} {nl nc : Nat} {ka : Option Addr} {kl kc : Nat} {D : Ty} (h : TyE lo w (.agg #[.int .i64 k, .string nm, .slice na nl nc, .slice ka kl kc]) D) (hk : w.heap[tb]? = some (tyO k nm na nl nc ka kl kc)) (hlo : lo <= tb) : ∃ m, KidsF w lo m (some ⟨tb, 0, none⟩) [D] := by
  obtain ⟨m, h⟩ := h
  refine ⟨m, .inr ⟨tb, 0, rfl, hlo, ⟨_, _, hk⟩, fun i hi => ?_⟩⟩
  match i, hi with
  | 0, _ => exact ⟨_, _, _, _, by rw [cell_of_row _ _ _ _ _ _ hk]; rfl, by rw [cell_of_row _ _ _ _ _ _ hk]; rfl, by rw [cell_of_row _ _ _ _ _ _ hk]; rfl, by rw [cell_of_row _ _ _ _ _ _ hk]; rfl, h⟩
abbrev isNV (t : Tok) (i : Int) (kb : Nat) : NV := ⟨12, ⟨#[]⟩, i, t.line, t.col, none, 0, 0, none, 0, 0, some ⟨kb, 0, none⟩, 1, 1⟩
abbrev asNV (t : Tok) (tb kb : Nat) : NV := ⟨13, ⟨#[]⟩, 0, t.line, t.col, some ⟨tb, 0, none⟩, 1, 1, none, 0, 0, some ⟨kb, 0, none⟩, 1, 1⟩
theorem cmp_c (pb tb cap d : Nat) (ts : List Tok) (K : Nat -> Pr Ty) (hK : Reads pb tb cap d ts TyE 17 K) (sub : Nat -> Pr Ty) (hs : Reads pb tb cap d ts NdE 125 sub) (ok : ToksOk ts) (a : Nat) (w : World) (h : Ps w pb tb cap ts a d) :
    Calls prog 116 #[.pointer (some ⟨pb, 0, none⟩)] w (PPost pb tb cap ts d w NdE ((sub a).go fun x b => cmpB ts K sub x b)) := by
  have H := hideP h
  have OK := hideP ok
  have hp := h.ltp
  have HS1 := hideP hs
  have HK1 := hideP hK
  have C0 := hideP (ctx_init h zNV.obj)
  obtain ⟨R, hR⟩ : ∃ R : Pr Ty, R = ((sub a).go fun x b => cmpB ts K sub x b) := ⟨_, rfl⟩
  rw [<- hR]
  have HR0 := hideP hR
  clear h ok hR hs hK
  go_enter func116, ntmps116
  go_wp2_with fail
  refine (HS1.out.calls a _ C0.out.ps).mono ?_
  intro e w1 hpost
  rcases ppost_or hpost with ⟨er, li, co, hr, rfl, hst⟩ | ⟨D1, b1, v, hr, rfl, hst, hps, hv⟩
  · have HE : Hid (R = .inr (er, li, co)) := by rw [HR0.out, hr]; exact rfl
    have HF := hideP (C0.out.st.trans hst)
    clear hr hst hpost
    go_wp2_with fail
    exact ⟨rfl, HF.out, by rw [HE.out]⟩
  have HR1 : Hid (R = cmpB ts K sub D1 b1) := by rw [HR0.out, hr]; exact rfl
  obtain ⟨x1, rfl, hv⟩ := hv
  have C1 := hideP ((C0.out.step hst hps).addN hv C0.out.sz)
  have C2 := hideP (C1.out.alloc (x1.obj))
  clear hr hst hps hpost hv
  go_wp2_with fail
  obtain ⟨t, ht⟩ : ∃ t, t = tkA ts b1 := ⟨_, rfl⟩
  have HRc := HR1
  unfold cmpB at HRc
  rw [<- ht] at HRc
  have HTk := hideP ht
  clear ht
  cases h3 : ([[60], [60, 61], [61, 61]] : List (List UInt8)).any fun s => seesA ts b1 s with
  | true =>
    have HNx : Hid (b1 + 1 < ts.length) := by
      obtain ⟨s, _, h2⟩ := List.any_eq_true.1 h3
      exact sees_next OK.out.ends C2.out.ps.lt h2
    have HR2 : Hid (R = (sub (b1 + 1)).go fun y b => .inl (mkE 14 t.text 0 t.line t.col [] [] [D1, y], b)) := by rw [HRc.out, if_pos h3]; exact rfl
    refine (is_new pb tb cap b1 _ 3 ts [[60], [60, 61], [61, 61]] _ _ C2.out.ps.rd (by simp) (by simp)).mono ?_
    rw [h3]
    rintro e w2 ⟨rfl, hb⟩
    have C3 := hideP (C2.out.below hb)
    clear hb
    clear h3
    go_wp2_with fail
    have HPa := hideP (pass_c pb tb cap b1 d ts _ C3.out.ps HNx.out OK.out.len)
    rw [<- HTk.out] at HPa
    refine (HPa.out).mono ?_
    rintro e w3 ⟨rfl, hst, hps⟩
    have C4 := hideP (C3.out.step hst hps)
    have C5 := hideP (C4.out.alloc (TOKO t))
    clear hst hps
    obtain ⟨⟨n0, n1, n2, n3, n4, n5, n6, n7⟩, _, hn1⟩ := box8 (x := x1) C4.out.b0
    go_wp2_with fail
    have hne0 : w3.heap.size ≠ w.heap.size := by have := C4.out.sz; omega
    have hne1 : w1.heap.size ≠ w.heap.size := by have := C1.out.sz; omega
    have hS0 : (((w3.alloc (TOKO t)).drew).cell? ⟨w3.heap.size, 0, none⟩ = some (.int .i64 t.kind) /\ ((w3.alloc (TOKO t)).drew).cell? ⟨w3.heap.size, 1, none⟩ = some (.string ⟨t.text.toArray⟩) /\ ((w3.alloc (TOKO t)).drew).cell? ⟨w3.heap.size, 2, none⟩ = some (.int .i64 t.line) /\ ((w3.alloc (TOKO t)).drew).cell? ⟨w3.heap.size, 3, none⟩ = some (.int .i64 t.col)) /\ (((w3.alloc (TOKO t)).drew).cell? ⟨w1.heap.size, 0, none⟩ = some (.int .i64 x1.k) /\ ((w3.alloc (TOKO t)).drew).cell? ⟨w1.heap.size, 1, none⟩ = some (.string x1.tx) /\ ((w3.alloc (TOKO t)).drew).cell? ⟨w1.heap.size, 2, none⟩ = some (.int .i64 x1.N) /\ ((w3.alloc (TOKO t)).drew).cell? ⟨w1.heap.size, 3, none⟩ = some (.int .i64 x1.li) /\ ((w3.alloc (TOKO t)).drew).cell? ⟨w1.heap.size, 4, none⟩ = some (.int .i64 x1.co) /\ ((w3.alloc (TOKO t)).drew).cell? ⟨w1.heap.size, 5, none⟩ = some (.slice x1.ta x1.tl x1.tc) /\ ((w3.alloc (TOKO t)).drew).cell? ⟨w1.heap.size, 6, none⟩ = some (.slice x1.na x1.nl x1.nc) /\ ((w3.alloc (TOKO t)).drew).cell? ⟨w1.heap.size, 7, none⟩ = some (.slice x1.ka x1.kl x1.kc)) := ⟨(tokB (((C5.out.drew).has (w3.heap.size, TOKO t) (by simp)).1)), (box8 (x := x1) (((C5.out.drew).has (w1.heap.size, x1.obj) (by simp)).1)).1⟩
    have HS00 : Hid (∀ o, ((((w3.alloc (TOKO t)).alloc o).drew).cell? ⟨w3.heap.size, 0, none⟩ = some (.int .i64 t.kind) /\ (((w3.alloc (TOKO t)).alloc o).drew).cell? ⟨w3.heap.size, 1, none⟩ = some (.string ⟨t.text.toArray⟩) /\ (((w3.alloc (TOKO t)).alloc o).drew).cell? ⟨w3.heap.size, 2, none⟩ = some (.int .i64 t.line) /\ (((w3.alloc (TOKO t)).alloc o).drew).cell? ⟨w3.heap.size, 3, none⟩ = some (.int .i64 t.col)) /\ ((((w3.alloc (TOKO t)).alloc o).drew).cell? ⟨w1.heap.size, 0, none⟩ = some (.int .i64 x1.k) /\ (((w3.alloc (TOKO t)).alloc o).drew).cell? ⟨w1.heap.size, 1, none⟩ = some (.string x1.tx) /\ (((w3.alloc (TOKO t)).alloc o).drew).cell? ⟨w1.heap.size, 2, none⟩ = some (.int .i64 x1.N) /\ (((w3.alloc (TOKO t)).alloc o).drew).cell? ⟨w1.heap.size, 3, none⟩ = some (.int .i64 x1.li) /\ (((w3.alloc (TOKO t)).alloc o).drew).cell? ⟨w1.heap.size, 4, none⟩ = some (.int .i64 x1.co) /\ (((w3.alloc (TOKO t)).alloc o).drew).cell? ⟨w1.heap.size, 5, none⟩ = some (.slice x1.ta x1.tl x1.tc) /\ (((w3.alloc (TOKO t)).alloc o).drew).cell? ⟨w1.heap.size, 6, none⟩ = some (.slice x1.na x1.nl x1.nc) /\ (((w3.alloc (TOKO t)).alloc o).drew).cell? ⟨w1.heap.size, 7, none⟩ = some (.slice x1.ka x1.kl x1.kc))) := (fun o => ⟨(tokB ((((C5.out.alloc o).drew).has (w3.heap.size, TOKO t) (by simp)).1)), (box8 (x := x1) ((((C5.out.alloc o).drew).has (w1.heap.size, x1.obj) (by simp)).1)).1⟩)
    have HC : Hid (∀ wa bx, Ctx pb tb cap d ts w wa (b1 + 1) bx [(x1, D1)] [] -> (w3.heap.size, TOKO t) ∈ bx -> (w1.heap.size, x1.obj) ∈ bx -> Calls prog 125 #[.pointer (some ⟨pb, 0, none⟩)] wa fun e w9 => (∃ chain, e = .panicked chain /\ PPost pb tb cap ts d w NdE R e w9) ∨ ∃ (y : NV) (D2 : Ty) (b2 : Nat), e = .returned (y.val) /\ ((w9.cell? ⟨w3.heap.size, 0, none⟩ = some (.int .i64 t.kind) /\ w9.cell? ⟨w3.heap.size, 1, none⟩ = some (.string ⟨t.text.toArray⟩) /\ w9.cell? ⟨w3.heap.size, 2, none⟩ = some (.int .i64 t.line) /\ w9.cell? ⟨w3.heap.size, 3, none⟩ = some (.int .i64 t.col)) /\ (w9.cell? ⟨w1.heap.size, 0, none⟩ = some (.int .i64 x1.k) /\ w9.cell? ⟨w1.heap.size, 1, none⟩ = some (.string x1.tx) /\ w9.cell? ⟨w1.heap.size, 2, none⟩ = some (.int .i64 x1.N) /\ w9.cell? ⟨w1.heap.size, 3, none⟩ = some (.int .i64 x1.li) /\ w9.cell? ⟨w1.heap.size, 4, none⟩ = some (.int .i64 x1.co) /\ w9.cell? ⟨w1.heap.size, 5, none⟩ = some (.slice x1.ta x1.tl x1.tc) /\ w9.cell? ⟨w1.heap.size, 6, none⟩ = some (.slice x1.na x1.nl x1.nc) /\ w9.cell? ⟨w1.heap.size, 7, none⟩ = some (.slice x1.ka x1.kl x1.kc))) /\ Hid (R = .inl (mkE 14 t.text 0 t.line t.col [] [] [D1, D2], b2) /\ Ctx pb tb cap d ts w w9 b2 bx [(y, D2), (x1, D1)] [])) := by
      intro wa bx CA m0 m1
      refine (HS1.out.calls (b1 + 1) _ CA.ps).mono ?_
      intro e w9 hpost
      rcases ppost_or hpost with ⟨er, li, co, hr, rfl, hst⟩ | ⟨D2, b2, v, hr, rfl, hst, hps, hv⟩
      · exact .inl ⟨_, rfl, CA.st.trans hst, by rw [HR2.out, hr]; rfl⟩
      obtain ⟨y, rfl, hv⟩ := hv
      have CN := (CA.step hst hps).addN hv CA.sz
      exact .inr ⟨y, D2, b2, rfl, ⟨(tokB (((CN).has (w3.heap.size, TOKO t) m0).1)), (box8 (x := x1) (((CN).has (w1.heap.size, x1.obj) m1).1)).1⟩, by rw [HR2.out, hr]; rfl, CN⟩
    go_wp2_with fail
    go_region_held (fun W => (W.cell? ⟨w3.heap.size, 0, none⟩ = some (.int .i64 t.kind) /\ W.cell? ⟨w3.heap.size, 1, none⟩ = some (.string ⟨t.text.toArray⟩) /\ W.cell? ⟨w3.heap.size, 2, none⟩ = some (.int .i64 t.line) /\ W.cell? ⟨w3.heap.size, 3, none⟩ = some (.int .i64 t.col)) /\ (W.cell? ⟨w1.heap.size, 0, none⟩ = some (.int .i64 x1.k) /\ W.cell? ⟨w1.heap.size, 1, none⟩ = some (.string x1.tx) /\ W.cell? ⟨w1.heap.size, 2, none⟩ = some (.int .i64 x1.N) /\ W.cell? ⟨w1.heap.size, 3, none⟩ = some (.int .i64 x1.li) /\ W.cell? ⟨w1.heap.size, 4, none⟩ = some (.int .i64 x1.co) /\ W.cell? ⟨w1.heap.size, 5, none⟩ = some (.slice x1.ta x1.tl x1.tc) /\ W.cell? ⟨w1.heap.size, 6, none⟩ = some (.slice x1.na x1.nl x1.nc) /\ W.cell? ⟨w1.heap.size, 7, none⟩ = some (.slice x1.ka x1.kl x1.kc))) (first | with_reducible assumption | with_reducible exact HS00.out _ | with_reducible exact HS3.out _ | with_reducible exact HS33.out _ _ | with_reducible exact HS4.out _ _ _ _ _ _ _ _) (first
      | (go_at_call 125; refine (HC.out _ _ (by first | exact C5.out.drew | exact (C5.out.alloc _).drew) (by simp) (by simp)).mono ?_; rintro e w9 (⟨ch, rfl, hf⟩ | ⟨y, D2, b2, rfl, t5, HX⟩); exact ⟨rfl, hf⟩; have HS3 : Hid (∀ o, (((w9.alloc o)).cell? ⟨w3.heap.size, 0, none⟩ = some (.int .i64 t.kind) /\ ((w9.alloc o)).cell? ⟨w3.heap.size, 1, none⟩ = some (.string ⟨t.text.toArray⟩) /\ ((w9.alloc o)).cell? ⟨w3.heap.size, 2, none⟩ = some (.int .i64 t.line) /\ ((w9.alloc o)).cell? ⟨w3.heap.size, 3, none⟩ = some (.int .i64 t.col)) /\ (((w9.alloc o)).cell? ⟨w1.heap.size, 0, none⟩ = some (.int .i64 x1.k) /\ ((w9.alloc o)).cell? ⟨w1.heap.size, 1, none⟩ = some (.string x1.tx) /\ ((w9.alloc o)).cell? ⟨w1.heap.size, 2, none⟩ = some (.int .i64 x1.N) /\ ((w9.alloc o)).cell? ⟨w1.heap.size, 3, none⟩ = some (.int .i64 x1.li) /\ ((w9.alloc o)).cell? ⟨w1.heap.size, 4, none⟩ = some (.int .i64 x1.co) /\ ((w9.alloc o)).cell? ⟨w1.heap.size, 5, none⟩ = some (.slice x1.ta x1.tl x1.tc) /\ ((w9.alloc o)).cell? ⟨w1.heap.size, 6, none⟩ = some (.slice x1.na x1.nl x1.nc) /\ ((w9.alloc o)).cell? ⟨w1.heap.size, 7, none⟩ = some (.slice x1.ka x1.kl x1.kc))) := (fun o => ⟨(tokB (((HX.out.2.alloc o).has (w3.heap.size, TOKO t) (by simp)).1)), (box8 (x := x1) (((HX.out.2.alloc o).has (w1.heap.size, x1.obj) (by simp)).1)).1⟩); have HS33 : Hid (∀ o o2, ((((w9.alloc o).alloc o2)).cell? ⟨w3.heap.size, 0, none⟩ = some (.int .i64 t.kind) /\ (((w9.alloc o).alloc o2)).cell? ⟨w3.heap.size, 1, none⟩ = some (.string ⟨t.text.toArray⟩) /\ (((w9.alloc o).alloc o2)).cell? ⟨w3.heap.size, 2, none⟩ = some (.int .i64 t.line) /\ (((w9.alloc o).alloc o2)).cell? ⟨w3.heap.size, 3, none⟩ = some (.int .i64 t.col)) /\ ((((w9.alloc o).alloc o2)).cell? ⟨w1.heap.size, 0, none⟩ = some (.int .i64 x1.k) /\ (((w9.alloc o).alloc o2)).cell? ⟨w1.heap.size, 1, none⟩ = some (.string x1.tx) /\ (((w9.alloc o).alloc o2)).cell? ⟨w1.heap.size, 2, none⟩ = some (.int .i64 x1.N) /\ (((w9.alloc o).alloc o2)).cell? ⟨w1.heap.size, 3, none⟩ = some (.int .i64 x1.li) /\ (((w9.alloc o).alloc o2)).cell? ⟨w1.heap.size, 4, none⟩ = some (.int .i64 x1.co) /\ (((w9.alloc o).alloc o2)).cell? ⟨w1.heap.size, 5, none⟩ = some (.slice x1.ta x1.tl x1.tc) /\ (((w9.alloc o).alloc o2)).cell? ⟨w1.heap.size, 6, none⟩ = some (.slice x1.na x1.nl x1.nc) /\ (((w9.alloc o).alloc o2)).cell? ⟨w1.heap.size, 7, none⟩ = some (.slice x1.ka x1.kl x1.kc))) := (fun o o2 => ⟨(tokB ((((HX.out.2.alloc o).alloc o2).has (w3.heap.size, TOKO t) (by simp)).1)), (box8 (x := x1) ((((HX.out.2.alloc o).alloc o2).has (w1.heap.size, x1.obj) (by simp)).1)).1⟩))
      | (go_at_call 115; refine (operation_c t x1 y _).mono ?_; rintro e w10 ⟨kb, rfl, hb, hkb, hk⟩; have HKb := hideP hk; have HKl := hideP hkb; clear hk hkb; (first | have HX2 := hideP (HX.out.2.below hb) | have HX2 := hideP ((HX.out.2.alloc _).below hb) | have HX2 := hideP (((HX.out.2.alloc _).alloc _).below hb)); have t6 : (w10.cell? ⟨w3.heap.size, 0, none⟩ = some (.int .i64 t.kind) /\ w10.cell? ⟨w3.heap.size, 1, none⟩ = some (.string ⟨t.text.toArray⟩) /\ w10.cell? ⟨w3.heap.size, 2, none⟩ = some (.int .i64 t.line) /\ w10.cell? ⟨w3.heap.size, 3, none⟩ = some (.int .i64 t.col)) /\ (w10.cell? ⟨w1.heap.size, 0, none⟩ = some (.int .i64 x1.k) /\ w10.cell? ⟨w1.heap.size, 1, none⟩ = some (.string x1.tx) /\ w10.cell? ⟨w1.heap.size, 2, none⟩ = some (.int .i64 x1.N) /\ w10.cell? ⟨w1.heap.size, 3, none⟩ = some (.int .i64 x1.li) /\ w10.cell? ⟨w1.heap.size, 4, none⟩ = some (.int .i64 x1.co) /\ w10.cell? ⟨w1.heap.size, 5, none⟩ = some (.slice x1.ta x1.tl x1.tc) /\ w10.cell? ⟨w1.heap.size, 6, none⟩ = some (.slice x1.na x1.nl x1.nc) /\ w10.cell? ⟨w1.heap.size, 7, none⟩ = some (.slice x1.ka x1.kl x1.kc)) := ⟨(tokB (((HX2.out).has (w3.heap.size, TOKO t) (by simp)).1)), (box8 (x := x1) (((HX2.out).has (w1.heap.size, x1.obj) (by simp)).1)).1⟩; have HB8 := hideP (box8 (x := zNV) (HX2.out.has (w.heap.size, zNV.obj) (by simp)).1); obtain ⟨⟨r0, r1, r2, r3, r4, r5, r6, r7⟩, ⟨f0, f1, f2, f3, f4, f5, f6, f7⟩, hr1⟩ := HB8.out; have HS4 : Hid (∀ v0 v1 v2 v3 v4 v5 v6 v7, (((set8 w10 w.heap.size v0 v1 v2 v3 v4 v5 v6 v7)).cell? ⟨w3.heap.size, 0, none⟩ = some (.int .i64 t.kind) /\ ((set8 w10 w.heap.size v0 v1 v2 v3 v4 v5 v6 v7)).cell? ⟨w3.heap.size, 1, none⟩ = some (.string ⟨t.text.toArray⟩) /\ ((set8 w10 w.heap.size v0 v1 v2 v3 v4 v5 v6 v7)).cell? ⟨w3.heap.size, 2, none⟩ = some (.int .i64 t.line) /\ ((set8 w10 w.heap.size v0 v1 v2 v3 v4 v5 v6 v7)).cell? ⟨w3.heap.size, 3, none⟩ = some (.int .i64 t.col)) /\ (((set8 w10 w.heap.size v0 v1 v2 v3 v4 v5 v6 v7)).cell? ⟨w1.heap.size, 0, none⟩ = some (.int .i64 x1.k) /\ ((set8 w10 w.heap.size v0 v1 v2 v3 v4 v5 v6 v7)).cell? ⟨w1.heap.size, 1, none⟩ = some (.string x1.tx) /\ ((set8 w10 w.heap.size v0 v1 v2 v3 v4 v5 v6 v7)).cell? ⟨w1.heap.size, 2, none⟩ = some (.int .i64 x1.N) /\ ((set8 w10 w.heap.size v0 v1 v2 v3 v4 v5 v6 v7)).cell? ⟨w1.heap.size, 3, none⟩ = some (.int .i64 x1.li) /\ ((set8 w10 w.heap.size v0 v1 v2 v3 v4 v5 v6 v7)).cell? ⟨w1.heap.size, 4, none⟩ = some (.int .i64 x1.co) /\ ((set8 w10 w.heap.size v0 v1 v2 v3 v4 v5 v6 v7)).cell? ⟨w1.heap.size, 5, none⟩ = some (.slice x1.ta x1.tl x1.tc) /\ ((set8 w10 w.heap.size v0 v1 v2 v3 v4 v5 v6 v7)).cell? ⟨w1.heap.size, 6, none⟩ = some (.slice x1.na x1.nl x1.nc) /\ ((set8 w10 w.heap.size v0 v1 v2 v3 v4 v5 v6 v7)).cell? ⟨w1.heap.size, 7, none⟩ = some (.slice x1.ka x1.kl x1.kc))) := (fun v0 v1 v2 v3 v4 v5 v6 v7 => ⟨(tokB ((set8_other hne0 v0 v1 v2 v3 v4 v5 v6 v7).trans (((HX2.out).has (w3.heap.size, TOKO t) (by simp)).1))), (box8 (x := x1) ((set8_other hne1 v0 v1 v2 v3 v4 v5 v6 v7).trans (((HX2.out).has (w1.heap.size, x1.obj) (by simp)).1))).1⟩); have HBL := hideP hb; clear hb))
    all_goals
      go_wp2_with fail
      rw [HX.out.1]
      have hnd : NdV (w.heap.size + 1) w10 (opNV t kb) (mkE 14 t.text 0 t.line t.col [] [] [D1, D2]) := by
        first
          | exact op_node HX.out.2.n1 HX.out.2.n0 HBL.out (by have := HKl.out; have := HX.out.2.sz; omega) HKb.out
      refine bodyPost_ret (results_cell_row rfl _ _ w.heap.size 27 _ (0, 0) _ rfl (put8_heap (x := opNV t kb) (HX2.out.has (w.heap.size, zNV.obj) (by simp)).1) underlying27 rfl (by kernel_rfl)) rfl ⟨stay_put8 HX2.out.st hp (Nat.le_refl _) (opNV t kb), ps_put8 HX2.out.ps hp (opNV t kb), _, rfl, opNV t kb, rfl, ?_⟩
      exact (hnd.put8 (Nat.lt_succ_self _) (opNV t kb)).lower (Nat.le_succ _)
  | false =>
    refine (is_new pb tb cap b1 _ 3 ts [[60], [60, 61], [61, 61]] _ _ C2.out.ps.rd (by simp) (by simp)).mono ?_
    rw [h3]
    rintro e w2 ⟨rfl, hb⟩
    have C3 := hideP (C2.out.below hb)
    clear hb
    have HRd : Hid (R = if seesA ts b1 [105, 115] then (tagA ts (b1 + 1)).go fun i b => .inl (mkE 12 [] i t.line t.col [] [] [D1], b) else if seesA ts b1 [97, 115] then (K (b1 + 1)).go fun t2 b => .inl (mkE 13 [] 0 t.line t.col [t2] [] [D1], b) else .inl (D1, b1)) := by rw [HRc.out, if_neg (by simp [h3])]; exact rfl
    clear h3
    go_wp2_with fail
    cases h4 : seesA ts b1 [105, 115] with
    | true =>
      have HNx := hideP (sees_next OK.out.ends C3.out.ps.lt h4)
      have HR2 : Hid (R = (tagA ts (b1 + 1)).go fun i b => .inl (mkE 12 [] i t.line t.col [] [] [D1], b)) := by rw [HRd.out, if_pos h4]; exact rfl
      refine (is_new pb tb cap b1 _ 1 ts [[105, 115]] _ _ C3.out.ps.rd (by simp) (by simp)).mono ?_
      rw [any_one, h4]
      rintro e w3 ⟨rfl, hb⟩
      have C4 := hideP (C3.out.below hb)
      clear hb
      clear h4
      go_wp2_with fail
      have HPa := hideP (pass_c pb tb cap b1 d ts _ C4.out.ps HNx.out OK.out.len)
      rw [<- HTk.out] at HPa
      refine (HPa.out).mono ?_
      rintro e w4 ⟨rfl, hst, hps⟩
      have C5 := hideP (C4.out.step hst hps)
      have C6 := hideP (C5.out.alloc (TOKO t))
      clear hst hps
      obtain ⟨⟨n0, n1, n2, n3, n4, n5, n6, n7⟩, _, hn1⟩ := box8 (x := x1) C5.out.b0
      go_wp2_with fail
      have hne0 : w4.heap.size ≠ w.heap.size := by have := C5.out.sz; omega
      have hne1 : w1.heap.size ≠ w.heap.size := by have := C1.out.sz; omega
      have hS0 : (((w4.alloc (TOKO t)).drew).cell? ⟨w4.heap.size, 0, none⟩ = some (.int .i64 t.kind) /\ ((w4.alloc (TOKO t)).drew).cell? ⟨w4.heap.size, 1, none⟩ = some (.string ⟨t.text.toArray⟩) /\ ((w4.alloc (TOKO t)).drew).cell? ⟨w4.heap.size, 2, none⟩ = some (.int .i64 t.line) /\ ((w4.alloc (TOKO t)).drew).cell? ⟨w4.heap.size, 3, none⟩ = some (.int .i64 t.col)) /\ (((w4.alloc (TOKO t)).drew).cell? ⟨w1.heap.size, 0, none⟩ = some (.int .i64 x1.k) /\ ((w4.alloc (TOKO t)).drew).cell? ⟨w1.heap.size, 1, none⟩ = some (.string x1.tx) /\ ((w4.alloc (TOKO t)).drew).cell? ⟨w1.heap.size, 2, none⟩ = some (.int .i64 x1.N) /\ ((w4.alloc (TOKO t)).drew).cell? ⟨w1.heap.size, 3, none⟩ = some (.int .i64 x1.li) /\ ((w4.alloc (TOKO t)).drew).cell? ⟨w1.heap.size, 4, none⟩ = some (.int .i64 x1.co) /\ ((w4.alloc (TOKO t)).drew).cell? ⟨w1.heap.size, 5, none⟩ = some (.slice x1.ta x1.tl x1.tc) /\ ((w4.alloc (TOKO t)).drew).cell? ⟨w1.heap.size, 6, none⟩ = some (.slice x1.na x1.nl x1.nc) /\ ((w4.alloc (TOKO t)).drew).cell? ⟨w1.heap.size, 7, none⟩ = some (.slice x1.ka x1.kl x1.kc)) := ⟨(tokB (((C6.out.drew).has (w4.heap.size, TOKO t) (by simp)).1)), (box8 (x := x1) (((C6.out.drew).has (w1.heap.size, x1.obj) (by simp)).1)).1⟩
      have HS00 : Hid (∀ o, ((((w4.alloc (TOKO t)).alloc o).drew).cell? ⟨w4.heap.size, 0, none⟩ = some (.int .i64 t.kind) /\ (((w4.alloc (TOKO t)).alloc o).drew).cell? ⟨w4.heap.size, 1, none⟩ = some (.string ⟨t.text.toArray⟩) /\ (((w4.alloc (TOKO t)).alloc o).drew).cell? ⟨w4.heap.size, 2, none⟩ = some (.int .i64 t.line) /\ (((w4.alloc (TOKO t)).alloc o).drew).cell? ⟨w4.heap.size, 3, none⟩ = some (.int .i64 t.col)) /\ ((((w4.alloc (TOKO t)).alloc o).drew).cell? ⟨w1.heap.size, 0, none⟩ = some (.int .i64 x1.k) /\ (((w4.alloc (TOKO t)).alloc o).drew).cell? ⟨w1.heap.size, 1, none⟩ = some (.string x1.tx) /\ (((w4.alloc (TOKO t)).alloc o).drew).cell? ⟨w1.heap.size, 2, none⟩ = some (.int .i64 x1.N) /\ (((w4.alloc (TOKO t)).alloc o).drew).cell? ⟨w1.heap.size, 3, none⟩ = some (.int .i64 x1.li) /\ (((w4.alloc (TOKO t)).alloc o).drew).cell? ⟨w1.heap.size, 4, none⟩ = some (.int .i64 x1.co) /\ (((w4.alloc (TOKO t)).alloc o).drew).cell? ⟨w1.heap.size, 5, none⟩ = some (.slice x1.ta x1.tl x1.tc) /\ (((w4.alloc (TOKO t)).alloc o).drew).cell? ⟨w1.heap.size, 6, none⟩ = some (.slice x1.na x1.nl x1.nc) /\ (((w4.alloc (TOKO t)).alloc o).drew).cell? ⟨w1.heap.size, 7, none⟩ = some (.slice x1.ka x1.kl x1.kc))) := (fun o => ⟨(tokB ((((C6.out.alloc o).drew).has (w4.heap.size, TOKO t) (by simp)).1)), (box8 (x := x1) ((((C6.out.alloc o).drew).has (w1.heap.size, x1.obj) (by simp)).1)).1⟩)
      have HC : Hid (∀ wa bx, Ctx pb tb cap d ts w wa (b1 + 1) bx [(x1, D1)] [] -> (w4.heap.size, TOKO t) ∈ bx -> (w1.heap.size, x1.obj) ∈ bx -> Calls prog 126 #[.pointer (some ⟨pb, 0, none⟩)] wa fun e w9 => (∃ chain, e = .panicked chain /\ PPost pb tb cap ts d w NdE R e w9) ∨ ∃ (i0 : Int) (b2 : Nat), e = .returned (.int .i64 i0) /\ ((w9.cell? ⟨w4.heap.size, 0, none⟩ = some (.int .i64 t.kind) /\ w9.cell? ⟨w4.heap.size, 1, none⟩ = some (.string ⟨t.text.toArray⟩) /\ w9.cell? ⟨w4.heap.size, 2, none⟩ = some (.int .i64 t.line) /\ w9.cell? ⟨w4.heap.size, 3, none⟩ = some (.int .i64 t.col)) /\ (w9.cell? ⟨w1.heap.size, 0, none⟩ = some (.int .i64 x1.k) /\ w9.cell? ⟨w1.heap.size, 1, none⟩ = some (.string x1.tx) /\ w9.cell? ⟨w1.heap.size, 2, none⟩ = some (.int .i64 x1.N) /\ w9.cell? ⟨w1.heap.size, 3, none⟩ = some (.int .i64 x1.li) /\ w9.cell? ⟨w1.heap.size, 4, none⟩ = some (.int .i64 x1.co) /\ w9.cell? ⟨w1.heap.size, 5, none⟩ = some (.slice x1.ta x1.tl x1.tc) /\ w9.cell? ⟨w1.heap.size, 6, none⟩ = some (.slice x1.na x1.nl x1.nc) /\ w9.cell? ⟨w1.heap.size, 7, none⟩ = some (.slice x1.ka x1.kl x1.kc))) /\ Hid (R = .inl (mkE 12 [] i0 t.line t.col [] [] [D1], b2) /\ Ctx pb tb cap d ts w w9 b2 bx [(x1, D1)] [])) := by
        intro wa bx CA m0 m1
        refine (tag_c pb tb cap d ts OK.out (b1 + 1) _ CA.ps).mono ?_
        intro e w9 hpost
        rcases ppost_or hpost with ⟨er, li, co, hr, rfl, hst⟩ | ⟨i0, b2, v, hr, rfl, hst, hps, hv⟩
        · exact .inl ⟨_, rfl, CA.st.trans hst, by rw [HR2.out, hr]; rfl⟩
        subst hv
        have CN := (CA.step hst hps)
        exact .inr ⟨i0, b2, rfl, ⟨(tokB (((CN).has (w4.heap.size, TOKO t) m0).1)), (box8 (x := x1) (((CN).has (w1.heap.size, x1.obj) m1).1)).1⟩, by rw [HR2.out, hr]; rfl, CN⟩
      go_wp2_with fail
      go_region_held (fun W => (W.cell? ⟨w4.heap.size, 0, none⟩ = some (.int .i64 t.kind) /\ W.cell? ⟨w4.heap.size, 1, none⟩ = some (.string ⟨t.text.toArray⟩) /\ W.cell? ⟨w4.heap.size, 2, none⟩ = some (.int .i64 t.line) /\ W.cell? ⟨w4.heap.size, 3, none⟩ = some (.int .i64 t.col)) /\ (W.cell? ⟨w1.heap.size, 0, none⟩ = some (.int .i64 x1.k) /\ W.cell? ⟨w1.heap.size, 1, none⟩ = some (.string x1.tx) /\ W.cell? ⟨w1.heap.size, 2, none⟩ = some (.int .i64 x1.N) /\ W.cell? ⟨w1.heap.size, 3, none⟩ = some (.int .i64 x1.li) /\ W.cell? ⟨w1.heap.size, 4, none⟩ = some (.int .i64 x1.co) /\ W.cell? ⟨w1.heap.size, 5, none⟩ = some (.slice x1.ta x1.tl x1.tc) /\ W.cell? ⟨w1.heap.size, 6, none⟩ = some (.slice x1.na x1.nl x1.nc) /\ W.cell? ⟨w1.heap.size, 7, none⟩ = some (.slice x1.ka x1.kl x1.kc))) (first | with_reducible assumption | with_reducible exact HS00.out _ | with_reducible exact HS3.out _ | with_reducible exact HS33.out _ _ | with_reducible exact HS4.out _ _ _ _ _ _ _ _) (first
        | (go_at_call 126; refine (HC.out _ _ (by first | exact C6.out.drew | exact (C6.out.alloc _).drew) (by simp) (by simp)).mono ?_; rintro e w9 (⟨ch, rfl, hf⟩ | ⟨i0, b2, rfl, t5, HX⟩); exact ⟨rfl, hf⟩; have HS3 : Hid (∀ o, (((w9.alloc o)).cell? ⟨w4.heap.size, 0, none⟩ = some (.int .i64 t.kind) /\ ((w9.alloc o)).cell? ⟨w4.heap.size, 1, none⟩ = some (.string ⟨t.text.toArray⟩) /\ ((w9.alloc o)).cell? ⟨w4.heap.size, 2, none⟩ = some (.int .i64 t.line) /\ ((w9.alloc o)).cell? ⟨w4.heap.size, 3, none⟩ = some (.int .i64 t.col)) /\ (((w9.alloc o)).cell? ⟨w1.heap.size, 0, none⟩ = some (.int .i64 x1.k) /\ ((w9.alloc o)).cell? ⟨w1.heap.size, 1, none⟩ = some (.string x1.tx) /\ ((w9.alloc o)).cell? ⟨w1.heap.size, 2, none⟩ = some (.int .i64 x1.N) /\ ((w9.alloc o)).cell? ⟨w1.heap.size, 3, none⟩ = some (.int .i64 x1.li) /\ ((w9.alloc o)).cell? ⟨w1.heap.size, 4, none⟩ = some (.int .i64 x1.co) /\ ((w9.alloc o)).cell? ⟨w1.heap.size, 5, none⟩ = some (.slice x1.ta x1.tl x1.tc) /\ ((w9.alloc o)).cell? ⟨w1.heap.size, 6, none⟩ = some (.slice x1.na x1.nl x1.nc) /\ ((w9.alloc o)).cell? ⟨w1.heap.size, 7, none⟩ = some (.slice x1.ka x1.kl x1.kc))) := (fun o => ⟨(tokB (((HX.out.2.alloc o).has (w4.heap.size, TOKO t) (by simp)).1)), (box8 (x := x1) (((HX.out.2.alloc o).has (w1.heap.size, x1.obj) (by simp)).1)).1⟩); have HS33 : Hid (∀ o o2, ((((w9.alloc o).alloc o2)).cell? ⟨w4.heap.size, 0, none⟩ = some (.int .i64 t.kind) /\ (((w9.alloc o).alloc o2)).cell? ⟨w4.heap.size, 1, none⟩ = some (.string ⟨t.text.toArray⟩) /\ (((w9.alloc o).alloc o2)).cell? ⟨w4.heap.size, 2, none⟩ = some (.int .i64 t.line) /\ (((w9.alloc o).alloc o2)).cell? ⟨w4.heap.size, 3, none⟩ = some (.int .i64 t.col)) /\ ((((w9.alloc o).alloc o2)).cell? ⟨w1.heap.size, 0, none⟩ = some (.int .i64 x1.k) /\ (((w9.alloc o).alloc o2)).cell? ⟨w1.heap.size, 1, none⟩ = some (.string x1.tx) /\ (((w9.alloc o).alloc o2)).cell? ⟨w1.heap.size, 2, none⟩ = some (.int .i64 x1.N) /\ (((w9.alloc o).alloc o2)).cell? ⟨w1.heap.size, 3, none⟩ = some (.int .i64 x1.li) /\ (((w9.alloc o).alloc o2)).cell? ⟨w1.heap.size, 4, none⟩ = some (.int .i64 x1.co) /\ (((w9.alloc o).alloc o2)).cell? ⟨w1.heap.size, 5, none⟩ = some (.slice x1.ta x1.tl x1.tc) /\ (((w9.alloc o).alloc o2)).cell? ⟨w1.heap.size, 6, none⟩ = some (.slice x1.na x1.nl x1.nc) /\ (((w9.alloc o).alloc o2)).cell? ⟨w1.heap.size, 7, none⟩ = some (.slice x1.ka x1.kl x1.kc))) := (fun o o2 => ⟨(tokB ((((HX.out.2.alloc o).alloc o2).has (w4.heap.size, TOKO t) (by simp)).1)), (box8 (x := x1) ((((HX.out.2.alloc o).alloc o2).has (w1.heap.size, x1.obj) (by simp)).1)).1⟩))
        | (go_at_call 94; refine (placed_x t _ _ _ _ _ _ _ _ _ _ _ _ _).mono ?_; rintro e w10 ⟨z, rfl, HZ, hb⟩; (first | have HX2 := hideP (HX.out.2.below hb) | have HX2 := hideP ((HX.out.2.alloc _).below hb) | have HX2 := hideP (((HX.out.2.alloc _).alloc _).below hb)); have t6 : (w10.cell? ⟨w4.heap.size, 0, none⟩ = some (.int .i64 t.kind) /\ w10.cell? ⟨w4.heap.size, 1, none⟩ = some (.string ⟨t.text.toArray⟩) /\ w10.cell? ⟨w4.heap.size, 2, none⟩ = some (.int .i64 t.line) /\ w10.cell? ⟨w4.heap.size, 3, none⟩ = some (.int .i64 t.col)) /\ (w10.cell? ⟨w1.heap.size, 0, none⟩ = some (.int .i64 x1.k) /\ w10.cell? ⟨w1.heap.size, 1, none⟩ = some (.string x1.tx) /\ w10.cell? ⟨w1.heap.size, 2, none⟩ = some (.int .i64 x1.N) /\ w10.cell? ⟨w1.heap.size, 3, none⟩ = some (.int .i64 x1.li) /\ w10.cell? ⟨w1.heap.size, 4, none⟩ = some (.int .i64 x1.co) /\ w10.cell? ⟨w1.heap.size, 5, none⟩ = some (.slice x1.ta x1.tl x1.tc) /\ w10.cell? ⟨w1.heap.size, 6, none⟩ = some (.slice x1.na x1.nl x1.nc) /\ w10.cell? ⟨w1.heap.size, 7, none⟩ = some (.slice x1.ka x1.kl x1.kc)) := ⟨(tokB (((HX2.out).has (w4.heap.size, TOKO t) (by simp)).1)), (box8 (x := x1) (((HX2.out).has (w1.heap.size, x1.obj) (by simp)).1)).1⟩; have HB8 := hideP (box8 (x := zNV) (HX2.out.has (w.heap.size, zNV.obj) (by simp)).1); obtain ⟨⟨r0, r1, r2, r3, r4, r5, r6, r7⟩, ⟨f0, f1, f2, f3, f4, f5, f6, f7⟩, hr1⟩ := HB8.out; have HS4 : Hid (∀ v0 v1 v2 v3 v4 v5 v6 v7, (((set8 w10 w.heap.size v0 v1 v2 v3 v4 v5 v6 v7)).cell? ⟨w4.heap.size, 0, none⟩ = some (.int .i64 t.kind) /\ ((set8 w10 w.heap.size v0 v1 v2 v3 v4 v5 v6 v7)).cell? ⟨w4.heap.size, 1, none⟩ = some (.string ⟨t.text.toArray⟩) /\ ((set8 w10 w.heap.size v0 v1 v2 v3 v4 v5 v6 v7)).cell? ⟨w4.heap.size, 2, none⟩ = some (.int .i64 t.line) /\ ((set8 w10 w.heap.size v0 v1 v2 v3 v4 v5 v6 v7)).cell? ⟨w4.heap.size, 3, none⟩ = some (.int .i64 t.col)) /\ (((set8 w10 w.heap.size v0 v1 v2 v3 v4 v5 v6 v7)).cell? ⟨w1.heap.size, 0, none⟩ = some (.int .i64 x1.k) /\ ((set8 w10 w.heap.size v0 v1 v2 v3 v4 v5 v6 v7)).cell? ⟨w1.heap.size, 1, none⟩ = some (.string x1.tx) /\ ((set8 w10 w.heap.size v0 v1 v2 v3 v4 v5 v6 v7)).cell? ⟨w1.heap.size, 2, none⟩ = some (.int .i64 x1.N) /\ ((set8 w10 w.heap.size v0 v1 v2 v3 v4 v5 v6 v7)).cell? ⟨w1.heap.size, 3, none⟩ = some (.int .i64 x1.li) /\ ((set8 w10 w.heap.size v0 v1 v2 v3 v4 v5 v6 v7)).cell? ⟨w1.heap.size, 4, none⟩ = some (.int .i64 x1.co) /\ ((set8 w10 w.heap.size v0 v1 v2 v3 v4 v5 v6 v7)).cell? ⟨w1.heap.size, 5, none⟩ = some (.slice x1.ta x1.tl x1.tc) /\ ((set8 w10 w.heap.size v0 v1 v2 v3 v4 v5 v6 v7)).cell? ⟨w1.heap.size, 6, none⟩ = some (.slice x1.na x1.nl x1.nc) /\ ((set8 w10 w.heap.size v0 v1 v2 v3 v4 v5 v6 v7)).cell? ⟨w1.heap.size, 7, none⟩ = some (.slice x1.ka x1.kl x1.kc))) := (fun v0 v1 v2 v3 v4 v5 v6 v7 => ⟨(tokB ((set8_other hne0 v0 v1 v2 v3 v4 v5 v6 v7).trans (((HX2.out).has (w4.heap.size, TOKO t) (by simp)).1))), (box8 (x := x1) ((set8_other hne1 v0 v1 v2 v3 v4 v5 v6 v7).trans (((HX2.out).has (w1.heap.size, x1.obj) (by simp)).1))).1⟩); have HBL := hideP hb; clear hb))
      all_goals
        go_wp2_with fail
        rw [HX.out.1]
        have hnd : NdV (w.heap.size + 1) w10 (z) (mkE 12 [] i0 t.line t.col [] [] [D1]) := by
          rw [HZ.out]
          first
            | exact ndV_one HX2.out.n0 (HX2.out.has (w9.heap.size, x1.obj) (by simp)).1 (by have := HX.out.2.sz; have := C5.out.sz; omega) (isNV t i0 (w9.heap.size)) [] [] ⟨rfl, rfl⟩ ⟨rfl, Nat.zero_le _, 0, .inl rfl⟩ ⟨rfl, Nat.zero_le _, .inl rfl⟩
            | exact ndV_one HX2.out.n0 (HX2.out.has (w4.heap.size + 1, x1.obj) (by simp)).1 (by have := HX.out.2.sz; have := C5.out.sz; omega) (isNV t i0 (w4.heap.size + 1)) [] [] ⟨rfl, rfl⟩ ⟨rfl, Nat.zero_le _, 0, .inl rfl⟩ ⟨rfl, Nat.zero_le _, .inl rfl⟩
        refine bodyPost_ret (results_cell_row rfl _ _ w.heap.size 27 _ (0, 0) _ rfl (put8_heap (x := z) (HX2.out.has (w.heap.size, zNV.obj) (by simp)).1) underlying27 rfl (by kernel_rfl)) rfl ⟨stay_put8 HX2.out.st hp (Nat.le_refl _) (z), ps_put8 HX2.out.ps hp (z), _, rfl, z, rfl, ?_⟩
        exact (hnd.put8 (Nat.lt_succ_self _) (z)).lower (Nat.le_succ _)
    | false =>
      refine (is_new pb tb cap b1 _ 1 ts [[105, 115]] _ _ C3.out.ps.rd (by simp) (by simp)).mono ?_
      rw [any_one, h4]
      rintro e w3 ⟨rfl, hb⟩
      have C4 := hideP (C3.out.below hb)
      clear hb
      have HRe : Hid (R = if seesA ts b1 [97, 115] then (K (b1 + 1)).go fun t2 b => .inl (mkE 13 [] 0 t.line t.col [t2] [] [D1], b) else .inl (D1, b1)) := by rw [HRd.out, if_neg (by simp [h4])]; exact rfl
      clear h4
      go_wp2_with fail
      cases h5 : seesA ts b1 [97, 115] with
      | true =>
        have HNx := hideP (sees_next OK.out.ends C4.out.ps.lt h5)
        have HR2 : Hid (R = (K (b1 + 1)).go fun t2 b => .inl (mkE 13 [] 0 t.line t.col [t2] [] [D1], b)) := by rw [HRe.out, if_pos h5]; exact rfl
        refine (is_new pb tb cap b1 _ 1 ts [[97, 115]] _ _ C4.out.ps.rd (by simp) (by simp)).mono ?_
        rw [any_one, h5]
        rintro e w4 ⟨rfl, hb⟩
        have C5 := hideP (C4.out.below hb)
        clear hb
        clear h5
        go_wp2_with fail
        have HPa := hideP (pass_c pb tb cap b1 d ts _ C5.out.ps HNx.out OK.out.len)
        rw [<- HTk.out] at HPa
        refine (HPa.out).mono ?_
        rintro e w5 ⟨rfl, hst, hps⟩
        have C6 := hideP (C5.out.step hst hps)
        have C7 := hideP (C6.out.alloc (TOKO t))
        clear hst hps
        obtain ⟨⟨n0, n1, n2, n3, n4, n5, n6, n7⟩, _, hn1⟩ := box8 (x := x1) C6.out.b0
        go_wp2_with fail
        have hne0 : w5.heap.size ≠ w.heap.size := by have := C6.out.sz; omega
        have hne1 : w1.heap.size ≠ w.heap.size := by have := C1.out.sz; omega
        have hS0 : (((w5.alloc (TOKO t)).drew).cell? ⟨w5.heap.size, 0, none⟩ = some (.int .i64 t.kind) /\ ((w5.alloc (TOKO t)).drew).cell? ⟨w5.heap.size, 1, none⟩ = some (.string ⟨t.text.toArray⟩) /\ ((w5.alloc (TOKO t)).drew).cell? ⟨w5.heap.size, 2, none⟩ = some (.int .i64 t.line) /\ ((w5.alloc (TOKO t)).drew).cell? ⟨w5.heap.size, 3, none⟩ = some (.int .i64 t.col)) /\ (((w5.alloc (TOKO t)).drew).cell? ⟨w1.heap.size, 0, none⟩ = some (.int .i64 x1.k) /\ ((w5.alloc (TOKO t)).drew).cell? ⟨w1.heap.size, 1, none⟩ = some (.string x1.tx) /\ ((w5.alloc (TOKO t)).drew).cell? ⟨w1.heap.size, 2, none⟩ = some (.int .i64 x1.N) /\ ((w5.alloc (TOKO t)).drew).cell? ⟨w1.heap.size, 3, none⟩ = some (.int .i64 x1.li) /\ ((w5.alloc (TOKO t)).drew).cell? ⟨w1.heap.size, 4, none⟩ = some (.int .i64 x1.co) /\ ((w5.alloc (TOKO t)).drew).cell? ⟨w1.heap.size, 5, none⟩ = some (.slice x1.ta x1.tl x1.tc) /\ ((w5.alloc (TOKO t)).drew).cell? ⟨w1.heap.size, 6, none⟩ = some (.slice x1.na x1.nl x1.nc) /\ ((w5.alloc (TOKO t)).drew).cell? ⟨w1.heap.size, 7, none⟩ = some (.slice x1.ka x1.kl x1.kc)) := ⟨(tokB (((C7.out.drew).has (w5.heap.size, TOKO t) (by simp)).1)), (box8 (x := x1) (((C7.out.drew).has (w1.heap.size, x1.obj) (by simp)).1)).1⟩
        have HS00 : Hid (∀ o, ((((w5.alloc (TOKO t)).alloc o).drew).cell? ⟨w5.heap.size, 0, none⟩ = some (.int .i64 t.kind) /\ (((w5.alloc (TOKO t)).alloc o).drew).cell? ⟨w5.heap.size, 1, none⟩ = some (.string ⟨t.text.toArray⟩) /\ (((w5.alloc (TOKO t)).alloc o).drew).cell? ⟨w5.heap.size, 2, none⟩ = some (.int .i64 t.line) /\ (((w5.alloc (TOKO t)).alloc o).drew).cell? ⟨w5.heap.size, 3, none⟩ = some (.int .i64 t.col)) /\ ((((w5.alloc (TOKO t)).alloc o).drew).cell? ⟨w1.heap.size, 0, none⟩ = some (.int .i64 x1.k) /\ (((w5.alloc (TOKO t)).alloc o).drew).cell? ⟨w1.heap.size, 1, none⟩ = some (.string x1.tx) /\ (((w5.alloc (TOKO t)).alloc o).drew).cell? ⟨w1.heap.size, 2, none⟩ = some (.int .i64 x1.N) /\ (((w5.alloc (TOKO t)).alloc o).drew).cell? ⟨w1.heap.size, 3, none⟩ = some (.int .i64 x1.li) /\ (((w5.alloc (TOKO t)).alloc o).drew).cell? ⟨w1.heap.size, 4, none⟩ = some (.int .i64 x1.co) /\ (((w5.alloc (TOKO t)).alloc o).drew).cell? ⟨w1.heap.size, 5, none⟩ = some (.slice x1.ta x1.tl x1.tc) /\ (((w5.alloc (TOKO t)).alloc o).drew).cell? ⟨w1.heap.size, 6, none⟩ = some (.slice x1.na x1.nl x1.nc) /\ (((w5.alloc (TOKO t)).alloc o).drew).cell? ⟨w1.heap.size, 7, none⟩ = some (.slice x1.ka x1.kl x1.kc))) := (fun o => ⟨(tokB ((((C7.out.alloc o).drew).has (w5.heap.size, TOKO t) (by simp)).1)), (box8 (x := x1) ((((C7.out.alloc o).drew).has (w1.heap.size, x1.obj) (by simp)).1)).1⟩)
        have HC : Hid (∀ wa bx, Ctx pb tb cap d ts w wa (b1 + 1) bx [(x1, D1)] [] -> (w5.heap.size, TOKO t) ∈ bx -> (w1.heap.size, x1.obj) ∈ bx -> Calls prog 17 #[.pointer (some ⟨pb, 0, none⟩)] wa fun e w9 => (∃ chain, e = .panicked chain /\ PPost pb tb cap ts d w NdE R e w9) ∨ ∃ (DT : Ty) (b2 : Nat) (k4 : Int) (nm4 : ByteArray) (na4 : Option Addr) (nl4 : Nat) (nc4 : Nat) (ka4 : Option Addr) (kl4 : Nat) (kc4 : Nat), e = .returned (.agg #[.int .i64 k4, .string nm4, .slice na4 nl4 nc4, .slice ka4 kl4 kc4]) /\ ((w9.cell? ⟨w5.heap.size, 0, none⟩ = some (.int .i64 t.kind) /\ w9.cell? ⟨w5.heap.size, 1, none⟩ = some (.string ⟨t.text.toArray⟩) /\ w9.cell? ⟨w5.heap.size, 2, none⟩ = some (.int .i64 t.line) /\ w9.cell? ⟨w5.heap.size, 3, none⟩ = some (.int .i64 t.col)) /\ (w9.cell? ⟨w1.heap.size, 0, none⟩ = some (.int .i64 x1.k) /\ w9.cell? ⟨w1.heap.size, 1, none⟩ = some (.string x1.tx) /\ w9.cell? ⟨w1.heap.size, 2, none⟩ = some (.int .i64 x1.N) /\ w9.cell? ⟨w1.heap.size, 3, none⟩ = some (.int .i64 x1.li) /\ w9.cell? ⟨w1.heap.size, 4, none⟩ = some (.int .i64 x1.co) /\ w9.cell? ⟨w1.heap.size, 5, none⟩ = some (.slice x1.ta x1.tl x1.tc) /\ w9.cell? ⟨w1.heap.size, 6, none⟩ = some (.slice x1.na x1.nl x1.nc) /\ w9.cell? ⟨w1.heap.size, 7, none⟩ = some (.slice x1.ka x1.kl x1.kc))) /\ Hid (R = .inl (mkE 13 [] 0 t.line t.col [DT] [] [D1], b2) /\ Ctx pb tb cap d ts w w9 b2 bx [(x1, D1)] [(.agg #[.int .i64 k4, .string nm4, .slice na4 nl4 nc4, .slice ka4 kl4 kc4], DT)])) := by
          intro wa bx CA m0 m1
          refine (HK1.out.calls (b1 + 1) _ CA.ps).mono ?_
          intro e w9 hpost
          rcases ppost_or hpost with ⟨er, li, co, hr, rfl, hst⟩ | ⟨DT, b2, v, hr, rfl, hst, hps, hv⟩
          · exact .inl ⟨_, rfl, CA.st.trans hst, by rw [HR2.out, hr]; rfl⟩
          obtain ⟨k4, nm4, na4, nl4, nc4, ka4, kl4, kc4, rfl⟩ := hv.cells
          have CN := (CA.step hst hps).addT hv CA.sz
          exact .inr ⟨DT, b2, k4, nm4, na4, nl4, nc4, ka4, kl4, kc4, rfl, ⟨(tokB (((CN).has (w5.heap.size, TOKO t) m0).1)), (box8 (x := x1) (((CN).has (w1.heap.size, x1.obj) m1).1)).1⟩, by rw [HR2.out, hr]; rfl, CN⟩
        go_wp2_with fail
        go_region_held (fun W => (W.cell? ⟨w5.heap.size, 0, none⟩ = some (.int .i64 t.kind) /\ W.cell? ⟨w5.heap.size, 1, none⟩ = some (.string ⟨t.text.toArray⟩) /\ W.cell? ⟨w5.heap.size, 2, none⟩ = some (.int .i64 t.line) /\ W.cell? ⟨w5.heap.size, 3, none⟩ = some (.int .i64 t.col)) /\ (W.cell? ⟨w1.heap.size, 0, none⟩ = some (.int .i64 x1.k) /\ W.cell? ⟨w1.heap.size, 1, none⟩ = some (.string x1.tx) /\ W.cell? ⟨w1.heap.size, 2, none⟩ = some (.int .i64 x1.N) /\ W.cell? ⟨w1.heap.size, 3, none⟩ = some (.int .i64 x1.li) /\ W.cell? ⟨w1.heap.size, 4, none⟩ = some (.int .i64 x1.co) /\ W.cell? ⟨w1.heap.size, 5, none⟩ = some (.slice x1.ta x1.tl x1.tc) /\ W.cell? ⟨w1.heap.size, 6, none⟩ = some (.slice x1.na x1.nl x1.nc) /\ W.cell? ⟨w1.heap.size, 7, none⟩ = some (.slice x1.ka x1.kl x1.kc))) (first | with_reducible assumption | with_reducible exact HS00.out _ | with_reducible exact HS3.out _ | with_reducible exact HS33.out _ _ | with_reducible exact HS4.out _ _ _ _ _ _ _ _) (first
          | (go_at_call 17; refine (HC.out _ _ (by first | exact C7.out.drew | exact (C7.out.alloc _).drew) (by simp) (by simp)).mono ?_; rintro e w9 (⟨ch, rfl, hf⟩ | ⟨DT, b2, k4, nm4, na4, nl4, nc4, ka4, kl4, kc4, rfl, t5, HX⟩); exact ⟨rfl, hf⟩; have HS3 : Hid (∀ o, (((w9.alloc o)).cell? ⟨w5.heap.size, 0, none⟩ = some (.int .i64 t.kind) /\ ((w9.alloc o)).cell? ⟨w5.heap.size, 1, none⟩ = some (.string ⟨t.text.toArray⟩) /\ ((w9.alloc o)).cell? ⟨w5.heap.size, 2, none⟩ = some (.int .i64 t.line) /\ ((w9.alloc o)).cell? ⟨w5.heap.size, 3, none⟩ = some (.int .i64 t.col)) /\ (((w9.alloc o)).cell? ⟨w1.heap.size, 0, none⟩ = some (.int .i64 x1.k) /\ ((w9.alloc o)).cell? ⟨w1.heap.size, 1, none⟩ = some (.string x1.tx) /\ ((w9.alloc o)).cell? ⟨w1.heap.size, 2, none⟩ = some (.int .i64 x1.N) /\ ((w9.alloc o)).cell? ⟨w1.heap.size, 3, none⟩ = some (.int .i64 x1.li) /\ ((w9.alloc o)).cell? ⟨w1.heap.size, 4, none⟩ = some (.int .i64 x1.co) /\ ((w9.alloc o)).cell? ⟨w1.heap.size, 5, none⟩ = some (.slice x1.ta x1.tl x1.tc) /\ ((w9.alloc o)).cell? ⟨w1.heap.size, 6, none⟩ = some (.slice x1.na x1.nl x1.nc) /\ ((w9.alloc o)).cell? ⟨w1.heap.size, 7, none⟩ = some (.slice x1.ka x1.kl x1.kc))) := (fun o => ⟨(tokB (((HX.out.2.alloc o).has (w5.heap.size, TOKO t) (by simp)).1)), (box8 (x := x1) (((HX.out.2.alloc o).has (w1.heap.size, x1.obj) (by simp)).1)).1⟩); have HS33 : Hid (∀ o o2, ((((w9.alloc o).alloc o2)).cell? ⟨w5.heap.size, 0, none⟩ = some (.int .i64 t.kind) /\ (((w9.alloc o).alloc o2)).cell? ⟨w5.heap.size, 1, none⟩ = some (.string ⟨t.text.toArray⟩) /\ (((w9.alloc o).alloc o2)).cell? ⟨w5.heap.size, 2, none⟩ = some (.int .i64 t.line) /\ (((w9.alloc o).alloc o2)).cell? ⟨w5.heap.size, 3, none⟩ = some (.int .i64 t.col)) /\ ((((w9.alloc o).alloc o2)).cell? ⟨w1.heap.size, 0, none⟩ = some (.int .i64 x1.k) /\ (((w9.alloc o).alloc o2)).cell? ⟨w1.heap.size, 1, none⟩ = some (.string x1.tx) /\ (((w9.alloc o).alloc o2)).cell? ⟨w1.heap.size, 2, none⟩ = some (.int .i64 x1.N) /\ (((w9.alloc o).alloc o2)).cell? ⟨w1.heap.size, 3, none⟩ = some (.int .i64 x1.li) /\ (((w9.alloc o).alloc o2)).cell? ⟨w1.heap.size, 4, none⟩ = some (.int .i64 x1.co) /\ (((w9.alloc o).alloc o2)).cell? ⟨w1.heap.size, 5, none⟩ = some (.slice x1.ta x1.tl x1.tc) /\ (((w9.alloc o).alloc o2)).cell? ⟨w1.heap.size, 6, none⟩ = some (.slice x1.na x1.nl x1.nc) /\ (((w9.alloc o).alloc o2)).cell? ⟨w1.heap.size, 7, none⟩ = some (.slice x1.ka x1.kl x1.kc))) := (fun o o2 => ⟨(tokB ((((HX.out.2.alloc o).alloc o2).has (w5.heap.size, TOKO t) (by simp)).1)), (box8 (x := x1) ((((HX.out.2.alloc o).alloc o2).has (w1.heap.size, x1.obj) (by simp)).1)).1⟩))
          | (go_at_call 94; refine (placed_x t _ _ _ _ _ _ _ _ _ _ _ _ _).mono ?_; rintro e w10 ⟨z, rfl, HZ, hb⟩; (first | have HX2 := hideP (HX.out.2.below hb) | have HX2 := hideP ((HX.out.2.alloc _).below hb) | have HX2 := hideP (((HX.out.2.alloc _).alloc _).below hb)); have t6 : (w10.cell? ⟨w5.heap.size, 0, none⟩ = some (.int .i64 t.kind) /\ w10.cell? ⟨w5.heap.size, 1, none⟩ = some (.string ⟨t.text.toArray⟩) /\ w10.cell? ⟨w5.heap.size, 2, none⟩ = some (.int .i64 t.line) /\ w10.cell? ⟨w5.heap.size, 3, none⟩ = some (.int .i64 t.col)) /\ (w10.cell? ⟨w1.heap.size, 0, none⟩ = some (.int .i64 x1.k) /\ w10.cell? ⟨w1.heap.size, 1, none⟩ = some (.string x1.tx) /\ w10.cell? ⟨w1.heap.size, 2, none⟩ = some (.int .i64 x1.N) /\ w10.cell? ⟨w1.heap.size, 3, none⟩ = some (.int .i64 x1.li) /\ w10.cell? ⟨w1.heap.size, 4, none⟩ = some (.int .i64 x1.co) /\ w10.cell? ⟨w1.heap.size, 5, none⟩ = some (.slice x1.ta x1.tl x1.tc) /\ w10.cell? ⟨w1.heap.size, 6, none⟩ = some (.slice x1.na x1.nl x1.nc) /\ w10.cell? ⟨w1.heap.size, 7, none⟩ = some (.slice x1.ka x1.kl x1.kc)) := ⟨(tokB (((HX2.out).has (w5.heap.size, TOKO t) (by simp)).1)), (box8 (x := x1) (((HX2.out).has (w1.heap.size, x1.obj) (by simp)).1)).1⟩; have HB8 := hideP (box8 (x := zNV) (HX2.out.has (w.heap.size, zNV.obj) (by simp)).1); obtain ⟨⟨r0, r1, r2, r3, r4, r5, r6, r7⟩, ⟨f0, f1, f2, f3, f4, f5, f6, f7⟩, hr1⟩ := HB8.out; have HS4 : Hid (∀ v0 v1 v2 v3 v4 v5 v6 v7, (((set8 w10 w.heap.size v0 v1 v2 v3 v4 v5 v6 v7)).cell? ⟨w5.heap.size, 0, none⟩ = some (.int .i64 t.kind) /\ ((set8 w10 w.heap.size v0 v1 v2 v3 v4 v5 v6 v7)).cell? ⟨w5.heap.size, 1, none⟩ = some (.string ⟨t.text.toArray⟩) /\ ((set8 w10 w.heap.size v0 v1 v2 v3 v4 v5 v6 v7)).cell? ⟨w5.heap.size, 2, none⟩ = some (.int .i64 t.line) /\ ((set8 w10 w.heap.size v0 v1 v2 v3 v4 v5 v6 v7)).cell? ⟨w5.heap.size, 3, none⟩ = some (.int .i64 t.col)) /\ (((set8 w10 w.heap.size v0 v1 v2 v3 v4 v5 v6 v7)).cell? ⟨w1.heap.size, 0, none⟩ = some (.int .i64 x1.k) /\ ((set8 w10 w.heap.size v0 v1 v2 v3 v4 v5 v6 v7)).cell? ⟨w1.heap.size, 1, none⟩ = some (.string x1.tx) /\ ((set8 w10 w.heap.size v0 v1 v2 v3 v4 v5 v6 v7)).cell? ⟨w1.heap.size, 2, none⟩ = some (.int .i64 x1.N) /\ ((set8 w10 w.heap.size v0 v1 v2 v3 v4 v5 v6 v7)).cell? ⟨w1.heap.size, 3, none⟩ = some (.int .i64 x1.li) /\ ((set8 w10 w.heap.size v0 v1 v2 v3 v4 v5 v6 v7)).cell? ⟨w1.heap.size, 4, none⟩ = some (.int .i64 x1.co) /\ ((set8 w10 w.heap.size v0 v1 v2 v3 v4 v5 v6 v7)).cell? ⟨w1.heap.size, 5, none⟩ = some (.slice x1.ta x1.tl x1.tc) /\ ((set8 w10 w.heap.size v0 v1 v2 v3 v4 v5 v6 v7)).cell? ⟨w1.heap.size, 6, none⟩ = some (.slice x1.na x1.nl x1.nc) /\ ((set8 w10 w.heap.size v0 v1 v2 v3 v4 v5 v6 v7)).cell? ⟨w1.heap.size, 7, none⟩ = some (.slice x1.ka x1.kl x1.kc))) := (fun v0 v1 v2 v3 v4 v5 v6 v7 => ⟨(tokB ((set8_other hne0 v0 v1 v2 v3 v4 v5 v6 v7).trans (((HX2.out).has (w5.heap.size, TOKO t) (by simp)).1))), (box8 (x := x1) ((set8_other hne1 v0 v1 v2 v3 v4 v5 v6 v7).trans (((HX2.out).has (w1.heap.size, x1.obj) (by simp)).1))).1⟩); have HBL := hideP hb; clear hb))
        all_goals
          go_wp2_with fail
          rw [HX.out.1]
          have hnd : NdV (w.heap.size + 1) w10 (z) (mkE 13 [] 0 t.line t.col [DT] [] [D1]) := by
            rw [HZ.out]
            first
              | exact ndV_one HX2.out.n0 (HX2.out.has (w9.heap.size + 1, x1.obj) (by simp)).1 (by have := HX.out.2.sz; have := C6.out.sz; omega) (asNV t (w9.heap.size) (w9.heap.size + 1)) [DT] [] ⟨rfl, rfl⟩ ⟨rfl, by simp, ty_one HX2.out.t0 (HX2.out.has (w9.heap.size, tyO k4 nm4 na4 nl4 nc4 ka4 kl4 kc4) (by simp)).1 (by have := HX.out.2.sz; omega)⟩ ⟨rfl, Nat.zero_le _, .inl rfl⟩
              | exact ndV_one HX2.out.n0 (HX2.out.has (w9.heap.size, x1.obj) (by simp)).1 (by have := HX.out.2.sz; have := C6.out.sz; omega) (asNV t (w9.heap.size + 1) (w9.heap.size)) [DT] [] ⟨rfl, rfl⟩ ⟨rfl, by simp, ty_one HX2.out.t0 (HX2.out.has (w9.heap.size + 1, tyO k4 nm4 na4 nl4 nc4 ka4 kl4 kc4) (by simp)).1 (by have := HX.out.2.sz; omega)⟩ ⟨rfl, Nat.zero_le _, .inl rfl⟩
              | exact ndV_one HX2.out.n0 (HX2.out.has (w5.heap.size + 1, x1.obj) (by simp)).1 (by have := HX.out.2.sz; have := C6.out.sz; omega) (asNV t (w9.heap.size) (w5.heap.size + 1)) [DT] [] ⟨rfl, rfl⟩ ⟨rfl, by simp, ty_one HX2.out.t0 (HX2.out.has (w9.heap.size, tyO k4 nm4 na4 nl4 nc4 ka4 kl4 kc4) (by simp)).1 (by have := HX.out.2.sz; omega)⟩ ⟨rfl, Nat.zero_le _, .inl rfl⟩
          refine bodyPost_ret (results_cell_row rfl _ _ w.heap.size 27 _ (0, 0) _ rfl (put8_heap (x := z) (HX2.out.has (w.heap.size, zNV.obj) (by simp)).1) underlying27 rfl (by kernel_rfl)) rfl ⟨stay_put8 HX2.out.st hp (Nat.le_refl _) (z), ps_put8 HX2.out.ps hp (z), _, rfl, z, rfl, ?_⟩
          exact (hnd.put8 (Nat.lt_succ_self _) (z)).lower (Nat.le_succ _)
      | false =>
        refine (is_new pb tb cap b1 _ 1 ts [[97, 115]] _ _ C4.out.ps.rd (by simp) (by simp)).mono ?_
        rw [any_one, h5]
        rintro e w4 ⟨rfl, hb⟩
        have C5 := hideP (C4.out.below hb)
        clear hb
        have HR2 : Hid (R = .inl (D1, b1)) := by rw [HRe.out, if_neg (by simp [h5])]; exact rfl
        clear h5
        obtain ⟨⟨r0, r1, r2, r3, r4, r5, r6, r7⟩, ⟨f0, f1, f2, f3, f4, f5, f6, f7⟩, hr1⟩ := box8 (x := zNV) (C5.out.b1)
        obtain ⟨⟨n0, n1, n2, n3, n4, n5, n6, n7⟩, _, hn1⟩ := box8 (x := x1) C5.out.b0
        have hne : ¬ w1.heap.size = w.heap.size := by have := C1.out.sz; omega
        go_wp2_with fail
        rw [HR2.out]
        refine bodyPost_ret (results_cell_row rfl _ _ w.heap.size 27 _ (0, 0) _ rfl (put8_heap (x := x1) C5.out.b1) underlying27 rfl (by kernel_rfl)) rfl ⟨stay_put8 C5.out.st hp (Nat.le_refl _) (x1), ps_put8 C5.out.ps hp (x1), _, rfl, x1, rfl, ?_⟩
        exact ((C5.out.n0).put8 (Nat.lt_succ_self _) (x1)).lower (Nat.le_succ _)
end Go.Proofs.YtlhmofphpfdjlaaGreatDoor
