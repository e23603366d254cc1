/- Part. -/
import Derived.Test.YtbnjllkkhhkkaaaGreatDoorPart5
set_option maxRecDepth 100000
set_option maxHeartbeats 4000000
namespace Go.Proofs.YtbnjllkkhhkkaaaGreatDoor
open Tryz
open Go.RowKit
section
variable {w w' : World} {lo lo' n m : Nat} {x : NV} {D : Ty} {ka : Option Addr} {ks : List Ty} {a : Option Addr} {ns : List (List UInt8)}
theorem L7 (h : Uc w lo a ns) (hl : lo' ≤ lo) : Uc w lo' a ns := by
 rcases h with h | ⟨b, o, e, hb, r⟩
 ·exact .inl h
 ·exact .inr ⟨b, o, e, by omega, r⟩
theorem Ba (h : Xw w lo n ka ks) (hl : lo' ≤ lo) : Xw w lo' n ka ks := by
 rcases h with h | ⟨b, o, e, hb, hc, r⟩
 ·exact .inl h
 ·refine .inr ⟨b, o, e, by omega, hc, fun i hi => ?_⟩
  obtain ⟨c0, c1, c2, c3, e0, e1, e2, e3, ht⟩ := r i hi
  exact ⟨c0, c1, c2, c3, e0, e1, e2, e3, Hb ht hl⟩
theorem Jz (h : Xw w lo n ka ks) (hm : n ≤ m) : Xw w lo m ka ks := by
 rcases h with h | ⟨b, o, e, hb, hc, r⟩
 ·exact .inl h
 ·refine .inr ⟨b, o, e, hb, hc, fun i hi => ?_⟩
  obtain ⟨c0, c1, c2, c3, e0, e1, e2, e3, ht⟩ := r i hi
  exact ⟨c0, c1, c2, c3, e0, e1, e2, e3, Pw ht hm⟩
theorem zbb (h : Um w lo n x D) (hl : lo' ≤ lo) : Um w lo' n x D := by
 induction n generalizing x D with
 | zero => exact h.elim
 | succ n ih =>
  obtain ⟨tys, ns, ks, e, h1, h2, h3, h4, h5⟩ := h
  refine ⟨tys, ns, ks, e, h1, h2, Ba h3 hl, L7 h4 hl, ?_⟩
  rcases h5 with h5 | ⟨b, o, e, hb, hcl, hc⟩
  ·exact .inl h5
  ·refine .inr ⟨b, o, e, by omega, hcl, fun i hi => ?_⟩
   obtain ⟨y, hy, ht⟩ := hc i hi
   exact ⟨y, hy, ih ht⟩
theorem Qh (h : Um w lo n x D) (hm : n ≤ m) : Um w lo m x D := by
 induction n generalizing m x D with
 | zero => exact h.elim
 | succ n ih =>
  obtain ⟨m, rfl⟩ : ∃ p, m = p + 1 := ⟨m - 1, by omega⟩
  obtain ⟨tys, ns, ks, e, h1, h2, h3, h4, h5⟩ := h
  refine ⟨tys, ns, ks, e, h1, h2, Jz h3 (by omega), h4, ?_⟩
  rcases h5 with h5 | ⟨b, o, e, hb, hcl, hc⟩
  ·exact .inl h5
  ·refine .inr ⟨b, o, e, hb, hcl, fun i hi => ?_⟩
   obtain ⟨y, hy, ht⟩ := hc i hi
   exact ⟨y, hy, ih ht (by omega)⟩
end
def Zv (lo : Nat) (w : World) (x : NV) (D : Ty) : Prop := ∃ m, Um w lo m x D
def Zo (lo : Nat) (w : World) (v : Value) (D : Ty) : Prop := ∃ x : NV, v = x.val ∧ Zv lo w x D
abbrev put8 (w : World) (b : Nat) (x : NV) : World := (((((((w.setCell ⟨b, 0, none⟩ (.int .i64 x.k)).setCell ⟨b, 1, none⟩ (.string x.tx)).setCell ⟨b, 2, none⟩ (.int .i64 x.N)).setCell ⟨b, 3, none⟩ (.int .i64 x.li)).setCell ⟨b, 4, none⟩ (.int .i64 x.co)).setCell ⟨b, 5, none⟩ (.slice x.ta x.tl x.tc)).setCell ⟨b, 6, none⟩ (.slice x.na x.nl x.nc)).setCell ⟨b, 7, none⟩ (.slice x.ka x.kl x.kc)
abbrev Ze : NV := ⟨0, ⟨#[]⟩, 0, 0, 0, none, 0, 0, none, 0, 0, none, 0, 0⟩
section
variable {w w' : World} {lo lo' b pb : Nat} {x y : NV} {D : Ty}
theorem Yj (h : w.heap[b]? = some y.obj) : (put8 w b x).heap[b]? = some x.obj := by
 have h0 := Z9 (o := 0) (u := .int .i64 x.k) h
 simp only [List.setIfInBounds_toArray, List.set_cons_zero] at h0
 have h1 := Z9 (o := 1) (u := .string x.tx) h0
 simp only [List.setIfInBounds_toArray, List.set_cons_zero, List.set_cons_succ] at h1
 have h2 := Z9 (o := 2) (u := .int .i64 x.N) h1
 simp only [List.setIfInBounds_toArray, List.set_cons_zero, List.set_cons_succ] at h2
 have h3 := Z9 (o := 3) (u := .int .i64 x.li) h2
 simp only [List.setIfInBounds_toArray, List.set_cons_zero, List.set_cons_succ] at h3
 have h4 := Z9 (o := 4) (u := .int .i64 x.co) h3
 simp only [List.setIfInBounds_toArray, List.set_cons_zero, List.set_cons_succ] at h4
 have h5 := Z9 (o := 5) (u := .slice x.ta x.tl x.tc) h4
 simp only [List.setIfInBounds_toArray, List.set_cons_zero, List.set_cons_succ] at h5
 have h6 := Z9 (o := 6) (u := .slice x.na x.nl x.nc) h5
 simp only [List.setIfInBounds_toArray, List.set_cons_zero, List.set_cons_succ] at h6
 have h7 := Z9 (o := 7) (u := .slice x.ka x.kl x.kc) h6
 simp only [List.setIfInBounds_toArray, List.set_cons_zero, List.set_cons_succ] at h7
 exact h7
theorem Wr : (put8 w b x).heap.size = w.heap.size := by
 unfold put8
 rw [Zw, Zw, Zw, Zw, Zw, Zw, Zw, Zw]
theorem Xq {i : Nat} (hi : i ≠ b) : (put8 w b x).heap[i]? = w.heap[i]? := by
 unfold put8
 rw [xH hi, xH hi, xH hi, xH hi, xH hi, xH hi, xH hi, xH hi]
theorem Yr (h : Zj pb w w') (hp : pb < w.heap.size) (hb : w.heap.size ≤ b) (x : NV) : Zj pb w (put8 w' b x) :=
 (((((((h.own hp hb 0 _).own hp hb 1 _).own hp hb 2 _).own hp hb 3 _).own hp hb 4 _).own hp hb 5 _).own hp hb 6 _).own hp hb 7 _
theorem Yv {tb cap a d : Nat} {ts : List Tok} (h : Ps w pb tb cap ts a d) (hb : pb < b) (x : NV) : Ps (put8 w b x) pb tb cap ts a d :=
 (((((((h.other hb 0 _).other hb 1 _).other hb 2 _).other hb 3 _).other hb 4 _).other hb 5 _).other hb 6 _).other hb 7 _
theorem Ni {B : Nat} {u : World} (h : Below B u w) (hb : B ≤ b) (x : NV) : Below B u (put8 w b x) :=
 (((((((h.setCell hb _).setCell hb _).setCell hb _).setCell hb _).setCell hb _).setCell hb _).setCell hb _).setCell hb _
theorem Zv.keep (h : Zv lo w x D) (hs : w.heap.size ≤ w'.heap.size) (hk : ∀ b, lo ≤ b → b < w.heap.size → w'.heap[b]? = w.heap[b]?) : Zv lo w' x D := by
 obtain ⟨m, h⟩ := h
 exact ⟨m, Jo h hs hk⟩
theorem Zv.lower (h : Zv lo w x D) (hl : lo' ≤ lo) : Zv lo' w x D := by
 obtain ⟨m, h⟩ := h
 exact ⟨m, zbb h hl⟩
theorem Zv.stay (h : Zv lo w x D) (hs : Zj pb w w') (hp : pb < lo) : Zv lo w' x D := h.keep hs.size fun b hb hl => hs.keep b (by omega) hl
theorem Zv.below (h : Zv lo w x D) (hb : Below w.heap.size w w') : Zv lo w' x D := h.keep hb.size fun b _ hl => hb.block b hl
theorem Zv.put8 (h : Zv lo w x D) (hb : b < lo) (y : NV) : Zv lo (put8 w b y) x D := h.keep (by rw [Wr]; exact xR) fun i hi _ => Xq (by omega)
theorem Zv.alloc (h : Zv lo w x D) (o : Obj) : Zv lo (w.alloc o) x D := h.keep (by simp) fun i _ hl => xA hl
theorem Zv.set1 (h : Zv lo w x D) (hb : b < lo) (o : Nat) (u : Value) : Zv lo (w.setCell ⟨b, o, none⟩ u) x D :=
 h.keep (by rw [Zw]; exact xR) fun i hi _ => xH (by show i ≠ b; omega)
theorem Zv.place (h : Zv lo w x D) (li co : Nat) : ∃ k tx N l c tys ns ks, D = Zi k tx N l c tys ns ks ∧ Zv lo w { x with li := li, co := co } (Zi k tx N li co tys ns ks) := by
 obtain ⟨m, h⟩ := h
 cases m with
 | zero => exact h.elim
 | succ m =>
  obtain ⟨tys, ns, ks, e, h1, h2, h3, h4, h5⟩ := h
  exact ⟨_, _, _, _, _, _, _, _, e, m + 1, tys, ns, ks, rfl, h1, h2, h3, h4, h5⟩
end
theorem zcf (w : World) (o1 o2 o3 : Obj) : (((w.alloc o1).alloc o2).alloc o3).heap[w.heap.size + 1 + 1]? = some o3 := by
 have := xL ((w.alloc o1).alloc o2) o3
 simpa using this
theorem zai (w : World) (o1 o2 o3 o4 o5 : Obj) : (((((w.alloc o1).alloc o2).alloc o3).alloc o4).alloc o5).heap[w.heap.size + 1 + 1 + 1 + 1]? = some o5 := by
 have := xL ((((w.alloc o1).alloc o2).alloc o3).alloc o4) o5
 simpa using this
theorem I4 (w : World) (o1 o2 o3 o4 o5 : Obj) : (((((w.alloc o1).alloc o2).alloc o3).alloc o4).alloc o5).heap[w.heap.size + 1 + 1 + 1]? = some o4 := by
 refine (xA (by simp)).trans ?_
 have := xL (((w.alloc o1).alloc o2).alloc o3) o4
 simpa using this
def B4 (W : World) (b : Nat) (x : NV) : Prop :=
 (W.cell? ⟨b, 0, none⟩ = some (.int .i64 x.k) ∧ W.cell? ⟨b, 1, none⟩ = some (.string x.tx) ∧ W.cell? ⟨b, 2, none⟩ = some (.int .i64 x.N) ∧ W.cell? ⟨b, 3, none⟩ = some (.int .i64 x.li) ∧ W.cell? ⟨b, 4, none⟩ = some (.int .i64 x.co) ∧
 W.cell? ⟨b, 5, none⟩ = some (.slice x.ta x.tl x.tc) ∧ W.cell? ⟨b, 6, none⟩ = some (.slice x.na x.nl x.nc) ∧ W.cell? ⟨b, 7, none⟩ = some (.slice x.ka x.kl x.kc)) ∧
 (W.frozen? ⟨b, 0, none⟩ = false ∧ W.frozen? ⟨b, 1, none⟩ = false ∧ W.frozen? ⟨b, 2, none⟩ = false ∧ W.frozen? ⟨b, 3, none⟩ = false ∧ W.frozen? ⟨b, 4, none⟩ = false ∧ W.frozen? ⟨b, 5, none⟩ = false ∧ W.frozen? ⟨b, 6, none⟩ = false ∧ W.frozen? ⟨b, 7, none⟩ = false) ∧ b < W.heap.size
theorem Zh {W : World} {b : Nat} {x : NV} (h : W.heap[b]? = some x.obj) : B4 W b x := by
 refine ⟨⟨?_, ?_, ?_, ?_, ?_, ?_, ?_, ?_⟩, ⟨?_, ?_, ?_, ?_, ?_, ?_, ?_, ?_⟩, xB h⟩
 all_goals first | (rw [cell_of_row _ _ _ _ _ _ h]; rfl) | simp [World.frozen?, h]
theorem Vu (t : Tok) (x : NV) (w : World) : Calls prog 171 #[Pu t, x.val] w fun e w' => e = .returned (NV.val { x with li := t.line, co := t.col }) ∧ Below w.heap.size w w' := by
 obtain ⟨k, tx, li, co⟩ := t
 obtain ⟨xk, xt, xN, xl, xc, a1, a2, a3, b1, b2, b3, c1, c2, c3⟩ := x
 go_enter func171, ntmps171
 go_wp2_with fail
 go_region
 all_goals
  go_wp2_with fail
  refine bodyPost_ret (results_cell_row rfl _ _ (w.heap.size + 1 + 1) 27 _ (0, 0) _ rfl (zcf _ _ _ _) underlying27 rfl (by kernel_rfl)) rfl ⟨rfl, ?_⟩
  exact ((((Below.refl _ w).alloc (xR) _).alloc (by simp) _).alloc (by simp; omega) _).drew
abbrev Wp (t : Tok) (kb : Nat) : NV := ⟨14, ⟨t.text.toArray⟩, 0, t.line, t.col, none, 0, 0, none, 0, 0, some ⟨kb, 0, none⟩, 2, 2⟩
theorem A6 (t : Tok) (x y : NV) (w : World) : Calls prog 195 #[Pu t, x.val, y.val] w fun e w' => ∃ kb, e = .returned (Wp t kb).val ∧ Below w.heap.size w w' ∧ w.heap.size ≤ kb ∧ w'.heap[kb]? = some (.cells #[.int .i64 x.k, .string x.tx, .int .i64 x.N, .int .i64 x.li, .int .i64 x.co, .slice x.ta x.tl x.tc, .slice x.na x.nl x.nc, .slice x.ka x.kl x.kc, .int .i64 y.k, .string y.tx, .int .i64 y.N, .int .i64 y.li, .int .i64 y.co, .slice y.ta y.tl y.tc, .slice y.na y.nl y.nc, .slice y.ka y.kl y.kc] 27) := by
 obtain ⟨k, tx, li, co⟩ := t
 obtain ⟨xk, xt, xN, xl, xc, a1, a2, a3, b1, b2, b3, c1, c2, c3⟩ := x
 obtain ⟨yk, yt, yN, yl, yc, d1, d2, d3, e1, e2, e3, f1, f2, f3⟩ := y
 obtain ⟨o1, ho1⟩ : ∃ o : Obj, o = .cells #[.int .i64 k, .string ⟨tx.toArray⟩, .int .i64 li, .int .i64 co] 108 := ⟨_, rfl⟩
 have HC := Za (fun w5 => Vu ⟨k, tx, li, co⟩ ⟨14, ⟨tx.toArray⟩, 0, 0, 0, none, 0, 0, none, 0, 0, some ⟨w.heap.size + 1 + 1 + 1 + 1, 0, none⟩, 2, 2⟩ w5)
 clear ho1
 go_enter func195, ntmps195
 go_wp2_with fail
 refine (HC.o _).mono ?_
 rintro e w1 ⟨rfl, hb1⟩
 have HB : xQ (Below w.heap.size w w1) := Zn (Zn (Zn (Zn (Zn (Zl _ _) (Zl _ _)) (Zl _ _)) (Zl _ _)) (Zl _ _)) hb1
 have HK := Za ((hb1.block (w.heap.size + 1 + 1 + 1 + 1) (by simp)).trans (zai w _ _ _ _ _))
 have hr := (hb1.block (w.heap.size + 1 + 1 + 1) (by simp)).trans (I4 w _ _ _ _ _)
 have HR : xQ (w1.heap[w.heap.size + 1 + 1 + 1]? = some Ze.obj) := hr
 obtain ⟨⟨r0, r1, r2, r3, r4, r5, r6, r7⟩, ⟨f0, f1', f2', f3', f4, f5, f6, f7⟩, hr1⟩ := Zh HR.o
 clear hb1 hr
 go_wp2_with fail
 refine bodyPost_ret (results_cell_row rfl _ _ (w.heap.size + 1 + 1 + 1) 27 _ (0, 0) _ rfl (Yj (x := Wp ⟨k, tx, li, co⟩ (w.heap.size + 1 + 1 + 1 + 1)) HR.o) underlying27 rfl (by kernel_rfl)) rfl ⟨w.heap.size + 1 + 1 + 1 + 1, rfl, ?_, by omega, ?_⟩
 ·exact Ni (x := Wp ⟨k, tx, li, co⟩ (w.heap.size + 1 + 1 + 1 + 1)) HB.o (by omega)
 ·exact (Xq (x := Wp ⟨k, tx, li, co⟩ (w.heap.size + 1 + 1 + 1 + 1)) (by omega)).trans HK.o
theorem To {lo kb : Nat} {w : World} {x y : NV} {D1 D2 : Ty} (h1 : Zv lo w x D1) (h2 : Zv lo w y D2) (hk : w.heap[kb]? = some (.cells #[.int .i64 x.k, .string x.tx, .int .i64 x.N, .int .i64 x.li, .int .i64 x.co, .slice x.ta x.tl x.tc, .slice x.na x.nl x.nc, .slice x.ka x.kl x.kc, .int .i64 y.k, .string y.tx, .int .i64 y.N, .int .i64 y.li, .int .i64 y.co, .slice y.ta y.tl y.tc, .slice y.na y.nl y.nc, .slice y.ka y.kl y.kc] 27)) (hlo : lo ≤ kb)
  (z : NV) (tys : List Ty) (ns : List (List UInt8)) (hz : z.ka = some ⟨kb, 0, none⟩ ∧ z.kl = 2) (ht : z.tl = tys.length ∧ tys.length ≤ 100000 ∧ ∃ m, Xw w lo m z.ta tys) (hn : z.nl = ns.length ∧ ns.length ≤ 100000 ∧ Uc w lo z.na ns) :
  Zv lo w z (Zi z.k z.tx.data.toList z.N z.li z.co tys ns [D1, D2]) := by
 obtain ⟨m1, h1⟩ := h1
 obtain ⟨m2, h2⟩ := h2
 obtain ⟨t1, t2, m3, t3⟩ := ht
 refine ⟨max (max m1 m2) m3 + 1, tys, ns, [D1, D2], rfl, ⟨t1, hn.1, hz.2⟩, ⟨t2, hn.2.1, (by show 2 ≤ _; omega)⟩, Jz t3 (Nat.le_max_right _ _), hn.2.2, .inr ⟨kb, 0, hz.1, hlo, ⟨_, _, hk⟩, fun i hi => ?_⟩⟩
 match i, hi with
 | 0, _ => exact ⟨x, ⟨by rw [cell_of_row _ _ _ _ _ _ hk]; rfl, by rw [cell_of_row _ _ _ _ _ _ hk]; rfl, by rw [cell_of_row _ _ _ _ _ _ hk]; rfl, by rw [cell_of_row _ _ _ _ _ _ hk]; rfl, by rw [cell_of_row _ _ _ _ _ _ hk]; rfl, by rw [cell_of_row _ _ _ _ _ _ hk]; rfl, by rw [cell_of_row _ _ _ _ _ _ hk]; rfl, by rw [cell_of_row _ _ _ _ _ _ hk]; rfl⟩, Qh h1 (Nat.le_trans (Nat.le_max_left _ _) (Nat.le_max_left _ _))⟩
 | 1, _ => exact ⟨y, ⟨by rw [cell_of_row _ _ _ _ _ _ hk]; rfl, by rw [cell_of_row _ _ _ _ _ _ hk]; rfl, by rw [cell_of_row _ _ _ _ _ _ hk]; rfl, by rw [cell_of_row _ _ _ _ _ _ hk]; rfl, by rw [cell_of_row _ _ _ _ _ _ hk]; rfl, by rw [cell_of_row _ _ _ _ _ _ hk]; rfl, by rw [cell_of_row _ _ _ _ _ _ hk]; rfl, by rw [cell_of_row _ _ _ _ _ _ hk]; rfl⟩, Qh h2 (Nat.le_trans (Nat.le_max_right _ _) (Nat.le_max_left _ _))⟩
theorem zgh {lo kb : Nat} {w w' : World} {t : Tok} {x y : NV} {D1 D2 : Ty} (h1 : Zv lo w x D1) (h2 : Zv lo w y D2) (hb : Below w.heap.size w w') (hlo : lo ≤ kb) (hk : w'.heap[kb]? = some (.cells #[.int .i64 x.k, .string x.tx, .int .i64 x.N, .int .i64 x.li, .int .i64 x.co, .slice x.ta x.tl x.tc, .slice x.na x.nl x.nc, .slice x.ka x.kl x.kc, .int .i64 y.k, .string y.tx, .int .i64 y.N, .int .i64 y.li, .int .i64 y.co, .slice y.ta y.tl y.tc, .slice y.na y.nl y.nc, .slice y.ka y.kl y.kc] 27)) :
  Zv lo w' (Wp t kb) (Zi 14 t.text 0 t.line t.col [] [] [D1, D2]) :=
 To (h1.below hb) (h2.below hb) hk hlo (Wp t kb) [] [] ⟨rfl, rfl⟩ ⟨rfl, xZ _, 0, .inl rfl⟩ ⟨rfl, xZ _, .inl rfl⟩
end Go.Proofs.YtbnjllkkhhkkaaaGreatDoor
namespace Go.Proofs.YtbnjllkkhhkkaaaGreatDoor
open Tryz
open Go.RowKit
attribute [local go_sem ↓] Go.wp_at_zero Go.wp_at_succ
def M1 (w : World) (b : Nat) (o : Obj) : World := { w with heap := w.heap.setIfInBounds b o }
def Yi (lo nb : Nat) (w : World) (x : NV) (D : Ty) : Prop := ∀ o, Zv lo (M1 w nb o) x D
section
variable {w w' : World} {lo nb pb : Nat} {x y : NV} {D : Ty}
theorem Be (o : Obj) : (M1 w nb o).heap.size = w.heap.size := by simp [M1]
theorem Qd (o : Obj) {i : Nat} (hi : i ≠ nb) : (M1 w nb o).heap[i]? = w.heap[i]? := by
 unfold M1
 simp only [Array.getElem?_setIfInBounds]
 rw [if_neg (fun e => hi e.symm)]
theorem J1 (o : Obj) (h : nb < w.heap.size) : (M1 w nb o).heap[nb]? = some o := by
 unfold M1
 simp [h]
theorem Yi.keep (h : Yi lo nb w x D) (hn : nb < w.heap.size) (hs : w.heap.size ≤ w'.heap.size) (hk : ∀ b, lo ≤ b → b < w.heap.size → b ≠ nb → w'.heap[b]? = w.heap[b]?) : Yi lo nb w' x D := fun o =>
 (h o).keep (by rw [Be, Be]; exact hs) fun b hb hl => by
  rw [Be] at hl
  by_cases e : b = nb
  ·subst e
   rw [J1 o (by omega), J1 o hn]
  ·rw [Qd o e, Qd o e]
   exact hk b hb hl e
theorem Yi.now (h : Yi lo nb w x D) (hn : nb < w.heap.size) : Zv lo w x D := by
 obtain ⟨o, ho⟩ : ∃ o, w.heap[nb]? = some o := ⟨_, Array.getElem?_eq_getElem hn⟩
 refine (h o).keep (by rw [Be]; exact xR) fun b hb hl => ?_
 by_cases e : b = nb
 ·subst e
  rw [J1 o hn, ho]
 ·rw [Qd o e]
theorem Yi.stay (h : Yi lo nb w x D) (hn : nb < w.heap.size) (hs : Zj pb w w') (hp : pb < lo) : Yi lo nb w' x D := h.keep hn hs.size fun b hb hl _ => hs.keep b (by omega) hl
theorem Yi.below (h : Yi lo nb w x D) (hn : nb < w.heap.size) (hb : Below w.heap.size w w') : Yi lo nb w' x D := h.keep hn hb.size fun b _ hl _ => hb.block b hl
theorem Yi.alloc (h : Yi lo nb w x D) (hn : nb < w.heap.size) (o : Obj) : Yi lo nb (w.alloc o) x D := h.below hn (Zl _ _)
theorem Yi.put8 (h : Yi lo nb w x D) (hn : nb < w.heap.size) (y : NV) : Yi lo nb (put8 w nb y) x D := h.keep hn (by rw [Wr]; exact xR) fun b _ _ e => Xq e
theorem L6 (h : Zv lo w x D) (o : Obj) : Yi lo w.heap.size (w.alloc o) x D := fun o' =>
 h.keep (by rw [Be]; simp) fun b _ hl => (Qd o' (by omega)).trans (xA hl)
theorem Lu {lo' : Nat} (h : Zv lo' w x D) (hl : nb < lo') (hlo : lo ≤ lo') : Yi lo nb w x D := fun o =>
 (h.keep (by rw [Be]; exact xR) fun b hb _ => Qd o (by omega)).lower hlo
theorem zet {kb : Nat} {t : Tok} {D1 D2 : Ty} (h1 : Yi lo nb w x D1) (h2 : Yi lo nb w y D2) (hn : nb < w.heap.size) (hb : Below w.heap.size w w') (hlo : lo ≤ kb) (hnk : kb ≠ nb) (hk : w'.heap[kb]? = some (.cells #[.int .i64 x.k, .string x.tx, .int .i64 x.N, .int .i64 x.li, .int .i64 x.co, .slice x.ta x.tl x.tc, .slice x.na x.nl x.nc, .slice x.ka x.kl x.kc, .int .i64 y.k, .string y.tx, .int .i64 y.N, .int .i64 y.li, .int .i64 y.co, .slice y.ta y.tl y.tc, .slice y.na y.nl y.nc, .slice y.ka y.kl y.kc] 27)) :
  Yi lo nb w' (Wp t kb) (Zi 14 t.text 0 t.line t.col [] [] [D1, D2]) := fun o =>
 To (h1.below hn hb o) (h2.below hn hb o) ((Qd o hnk).trans hk) hlo (Wp t kb) [] [] ⟨rfl, rfl⟩ ⟨rfl, xZ _, 0, .inl rfl⟩ ⟨rfl, xZ _, .inl rfl⟩
end
theorem Uz.stay {w w1 : World} {xb pb : Nat} {L : List (List UInt8)} (h : Uz w xb L) (hs : Zj pb w w1) (hp : pb < xb) : Uz w1 xb L :=
 ⟨xT h.1 hs.size, fun i hi => (World.cell?_of_block (w := w) (a := ⟨xb, i, none⟩) (hs.keep xb hp h.1)).trans (h.2 i hi)⟩
def Dx (W : World) (b : Nat) (x : NV) : Prop := W.cell? ⟨b, 0, none⟩ = some (.int .i64 x.k) ∧ W.cell? ⟨b, 1, none⟩ = some (.string x.tx) ∧ W.cell? ⟨b, 2, none⟩ = some (.int .i64 x.N) ∧ W.cell? ⟨b, 3, none⟩ = some (.int .i64 x.li) ∧ W.cell? ⟨b, 4, none⟩ = some (.int .i64 x.co) ∧
 W.cell? ⟨b, 5, none⟩ = some (.slice x.ta x.tl x.tc) ∧ W.cell? ⟨b, 6, none⟩ = some (.slice x.na x.nl x.nc) ∧ W.cell? ⟨b, 7, none⟩ = some (.slice x.ka x.kl x.kc)
def Ym (W : World) (b : Nat) (t : Tok) : Prop := W.cell? ⟨b, 0, none⟩ = some (.int .i64 t.kind) ∧ W.cell? ⟨b, 1, none⟩ = some (.string ⟨t.text.toArray⟩) ∧ W.cell? ⟨b, 2, none⟩ = some (.int .i64 t.line) ∧ W.cell? ⟨b, 3, none⟩ = some (.int .i64 t.col)
theorem Z7 {W : World} {b : Nat} {t : Tok} (h : W.heap[b]? = some (.cells #[.int .i64 t.kind, .string ⟨t.text.toArray⟩, .int .i64 t.line, .int .i64 t.col] 108)) : Ym W b t := (Zr h).1
def Se (pb tb cap d nb xb : Nat) (ts : List Tok) (L : List (List UInt8)) (R : Pr Ty) (sub : Nat → Pr Ty) (m : Nat) (w : World) (x : NV) (D : Ty) (t : Tok) (w4 : World) (y : NV) (D2 : Ty) (b2 : Nat) : Prop :=
 R = Y9 ts L sub m (Zi 14 t.text 0 t.line t.col [] [] [D, D2]) b2 ∧ Zj pb w w4 ∧ Ps w4 pb tb cap ts b2 d ∧ w4.heap[nb]? = some x.obj ∧ Yi (w.heap.size + 1) nb w4 x D ∧ Yi (w.heap.size + 1) nb w4 y D2 ∧ w4.heap[w.heap.size]? = some Ze.obj ∧ Uz w4 xb L
theorem Dh {ts : List Tok} {L : List (List UInt8)} {sub : Nat → Pr Ty} {f a : Nat} {x : Ty} (h : (L.any fun s => Zc ts a s) = false) : Y9 ts L sub (f + 1) x a = .inl (x, a) := by
 rw [Y9]
 have : L.find? (Zc ts a) = none := List.find?_eq_none.2 fun s hs => by
  have := List.any_eq_false.1 h s hs
  simpa using this
 rw [this]
theorem Aq {ts : List Tok} {L : List (List UInt8)} {sub : Nat → Pr Ty} {f a : Nat} {x : Ty} (h : (L.any fun s => Zc ts a s) = true) : Y9 ts L sub (f + 1) x a = (sub (a + 1)).go fun y b => Y9 ts L sub f (Zi 14 (Zg ts a).text 0 (Zg ts a).line (Zg ts a).col [] [] [x, y]) b := by
 rw [Y9]
 obtain ⟨s, hs, h2⟩ := List.any_eq_true.1 h
 have : (L.find? (Zc ts a)).isSome = true := List.find?_isSome.2 ⟨s, hs, h2⟩
 obtain ⟨q, hq⟩ := Option.isSome_iff_exists.1 this
 have hsee := List.find?_some hq
 have hqt : q = (Zg ts a).text := by
  unfold Zc at hsee
  simp only [Bool.and_eq_true, beq_iff_eq] at hsee
  exact hsee.2.symm
 rw [hq, hqt]
 rfl
theorem B3 (pb tb cap d xb xc : Nat) (ts : List Tok) (L : List (List UInt8)) (hl : L.length ≤ 100) (g : Nat) (sub : Nat → Pr Ty) (hg : Yg pb tb cap d ts Zo g sub)
  (a : Nat) (w : World) (h : Ps w pb tb cap ts a d) (hL : Uz w xb L) (hpx : pb < xb) (ok : Z0 ts) :
  Calls prog 172 #[.pointer (some ⟨pb, 0, none⟩), .func (.func g) #[] #[], .slice (some ⟨xb, 0, none⟩) L.length xc] w (Zs pb tb cap ts d w Zo ((sub a).go fun x a => Y9 ts L sub ts.length x a)) := by
 have H := Za h
 have OK := Za ok
 have HG := Za hg
 have HL := Za hL
 have hen := hg.enters
 have hp := h.ltp
 obtain ⟨R, hR⟩ := xE (((sub a).go fun x a => Y9 ts L sub ts.length x a))
 rw [← hR]
 have HRr := Za hR
 clear h ok hg hL hR
 go_enter func172, ntmps172
 go_wp2_with fail
 refine (HG.o.calls a _ (H.o.alloc _)).mono ?_
 rintro e w1 ⟨hst, zhm⟩
 have HST := Za ((Zj.of hp (Zl _ _)).trans hst)
 have HST' := Za hst
 have HR := Za ((hst.keep _ hp (by simp)).trans (xL w Ze.obj))
 clear hst
 rcases hs : sub a with ⟨D, b⟩ | ⟨er, li, co⟩
 case inr =>
  rw [hs] at zhm
  have HE : xQ (R = .inr (er, li, co)) := by show _ = _; simp only [HRr.o, hs, Ao]
  subst zhm
  clear hs
  go_wp2_with fail
  exact ⟨rfl, HST.o, by rw [HE.o]⟩
 rw [hs] at zhm
 obtain ⟨hps, v, rfl, x, rfl, hv⟩ := zhm
 have HRA : xQ (R = Y9 ts L sub ts.length D b) := by show _ = _; simp only [HRr.o, hs, Tb]
 have HP := Za hps
 have HT := Za hv
 have HU := Za (HG.o.up _ _ _ hs)
 clear hps hv hs HRr
 obtain ⟨nb, hnb⟩ := xE w1.heap.size
 have HNb := Za hnb
 have hb0 : w.heap.size < nb := by rw [hnb]; exact xB HR.o
 have HX0 : xQ (Yi (w.heap.size + 1) nb (w1.alloc x.obj) x D) := by rw [hnb]; exact L6 (by simpa using HT.o) _
 have HN0 : xQ ((w1.alloc x.obj).heap[nb]? = some x.obj) := by rw [hnb]; exact xL _ _
 have HTx : xQ (Uz (w1.alloc x.obj) xb L) := by
  have h1 := (HL.o.below (Zl w Ze.obj)).stay HST'.o hpx
  exact h1.below (Zl _ _)
 go_wp2_with fail
 rw [← hnb]
 clear hnb
 go_loopg [8] (ts.length - b) (fun gk _ wr => ∃ (b m : Nat) (x : NV) (D : Ty), xQ (wr.heap[nb]? = some x.obj) ∧ xQ (Yi (w.heap.size + 1) nb wr x D) ∧ xQ (Zj pb w wr) ∧ xQ (Ps wr pb tb cap ts b d) ∧ xQ (wr.heap[w.heap.size]? = some Ze.obj) ∧ xQ (Uz wr xb L) ∧ xQ (R = Y9 ts L sub m D b) ∧ xQ (ts.length ≤ b + m) ∧ ts.length - b ≤ gk)
 case atStart => exact ⟨b, ts.length, x, D, HN0, HX0, HST.o.alloc hp _, HP.o.alloc _, (xA (xB HR.o)).trans HR.o, HTx, HRA, Nat.le_add_left _ _, xR⟩
 case round =>
  clear HX0 HN0 HTx HP HT HU HRA HST HR HST' HNb
  obtain ⟨b, m, x, D, HN, HX, HSt, HPs, HR, HTx, HRA, HLe, hgk⟩ := hrel
  have HI := Za (is_r pb tb cap b xb xc ts L wr HPs.o.rd HTx.o hl)
  obtain ⟨m, rfl⟩ : ∃ q, m = q + 1 := ⟨m - 1, by have := HLe.o; have := HPs.o.lt; omega⟩
  cases hs : L.any fun s => Zc ts b s with
  | false =>
   have HE := Za (HRA.o.trans (Dh hs))
   rw [hs] at HI
   clear hs
   go_wp2_with fail
   refine HI.o.mono ?_
   rintro e w2 ⟨rfl, hb2⟩
   have HST2 := Za (HSt.o.trans (Zj.of HPs.o.ltp hb2))
   have HPS2 := Za (HPs.o.below hb2)
   have HX2 := Za (HX.o.below (xB HN.o) hb2)
   have HR2 := Za ((hb2.block _ (xB HR.o)).trans HR.o)
   have HN2 := Za ((hb2.block _ (xB HN.o)).trans HN.o)
   obtain ⟨⟨r0, r1, r2, r3, r4, r5, r6, r7⟩, ⟨f0, f1, f2, f3, f4, f5, f6, f7⟩, hr1⟩ := Zh HR2.o
   obtain ⟨⟨n0, n1, n2, n3, n4, n5, n6, n7⟩, _, hn1⟩ := Zh HN2.o
   have hne : ¬ nb = w.heap.size := by omega
   clear hb2
   go_wp2_with fail
   rw [HE.o]
   refine bodyPost_ret (results_cell_row rfl _ _ w.heap.size 27 _ (0, 0) _ rfl (Yj (x := x) HR2.o) underlying27 rfl (by kernel_rfl)) rfl ⟨Yr HST2.o hp (xR) x, Yv HPS2.o hp x, _, rfl, x, rfl, ?_⟩
   exact ((HX2.o.now hn1).put8 (xU _) x).lower (Nat.le_succ _)
  | true =>
   have HRB := Za (HRA.o.trans (Aq hs))
   have hsee : ∃ s, Zc ts b s = true := by
    obtain ⟨s, _, h2⟩ := List.any_eq_true.1 hs
    exact ⟨s, h2⟩
   have HNx : xQ (b + 1 < ts.length) := by
    obtain ⟨s, h2⟩ := hsee
    exact Wz OK.o.ends HPs.o.lt h2
   rw [hs] at HI
   clear hs hsee
   obtain ⟨t, ht⟩ := xE (Zg ts b)
   rw [← ht] at HRB
   go_wp2_with fail
   refine HI.o.mono ?_
   rintro e w2 ⟨rfl, hb2⟩
   have HST2 := Za (HSt.o.trans (Zj.of HPs.o.ltp hb2))
   have HPS2 := Za (HPs.o.below hb2)
   have HX2 := Za (HX.o.below (xB HN.o) hb2)
   have HR2 := Za ((hb2.block _ (xB HR.o)).trans HR.o)
   have HN2 := Za ((hb2.block _ (xB HN.o)).trans HN.o)
   have HT2 := Za (HTx.o.below hb2)
   clear hb2
   go_wp2_with fail
   refine (V7 pb tb cap b d ts _ HPS2.o HNx.o OK.o.len).mono ?_
   rw [← ht]
   rintro e w3 ⟨rfl, hst, hps⟩
   have HPs3 : xQ (pb < w3.heap.size) := hps.ltp
   have HST3 := Za ((HST2.o.trans hst).alloc hp (.cells #[.int .i64 t.kind, .string ⟨t.text.toArray⟩, .int .i64 t.line, .int .i64 t.col] 108))
   have HPS3 := Za (hps.alloc (.cells #[.int .i64 t.kind, .string ⟨t.text.toArray⟩, .int .i64 t.line, .int .i64 t.col] 108))
   have HX3 := Za ((HX2.o.stay (xB HN2.o) hst (by omega)).alloc (xT (xB HN2.o) hst.size) (.cells #[.int .i64 t.kind, .string ⟨t.text.toArray⟩, .int .i64 t.line, .int .i64 t.col] 108))
   have HR3 := Za ((Below.heap_alloc w3 (.cells #[.int .i64 t.kind, .string ⟨t.text.toArray⟩, .int .i64 t.line, .int .i64 t.col] 108) _ (xT (xB HR2.o) hst.size)).trans ((hst.keep _ hp (xB HR2.o)).trans HR2.o))
   have HN3 := Za ((Below.heap_alloc w3 (.cells #[.int .i64 t.kind, .string ⟨t.text.toArray⟩, .int .i64 t.line, .int .i64 t.col] 108) _ (xT (xB HN2.o) hst.size)).trans ((hst.keep _ (by omega) (xB HN2.o)).trans HN2.o))
   have HT3 := Za ((HT2.o.stay hst hpx).below (Zl _ (.cells #[.int .i64 t.kind, .string ⟨t.text.toArray⟩, .int .i64 t.line, .int .i64 t.col] 108)))
   have HCw := Za (Zh ((hst.keep _ (by omega) (xB HN2.o)).trans HN2.o)).1
   have HLw := Za (xT (xB HN2.o) hst.size)
   have HTb := Za (xL w3 (.cells #[.int .i64 t.kind, .string ⟨t.text.toArray⟩, .int .i64 t.line, .int .i64 t.col] 108))
   clear hst hps ht
   have HC : xQ (Calls prog g #[.pointer (some ⟨pb, 0, none⟩)] (w3.alloc (.cells #[.int .i64 t.kind, .string ⟨t.text.toArray⟩, .int .i64 t.line, .int .i64 t.col] 108)).drew fun e w4 => (∃ chain, e = .panicked chain ∧ Zs pb tb cap ts d w Zo R e w4) ∨
     ∃ (y : NV) (D2 : Ty) (b2 : Nat), e = .returned y.val ∧ Dx w4 nb x ∧ Ym w4 w3.heap.size t ∧ xQ (Se pb tb cap d nb xb ts L R sub m w x D t w4 y D2 b2 ∧ b + 1 ≤ b2)) := by
    refine (HG.o.calls (b + 1) _ HPS3.o.drew).mono ?_
    rintro e w4 ⟨hst', zhm⟩
    have hst := hst'.undrew
    have hst4 := HST3.o.trans hst
    rcases hk : sub (b + 1) with ⟨D2, b2⟩ | ⟨er, li, co⟩
    ·rw [hk] at zhm
     obtain ⟨hps, v, rfl, y, rfl, hv⟩ := zhm
     have hn4 := (hst.keep nb (by omega) (xB HN3.o)).trans HN3.o
     refine .inr ⟨y, D2, b2, rfl, (Zh hn4).1, Z7 ((hst.keep w3.heap.size (by have := HPS2.o.ltp; have := HPs3.o; omega) (xB HTb.o)).trans HTb.o), ⟨by rw [HRB.o, hk]; rfl, hst4, hps, hn4, HX3.o.stay (xB HN3.o) hst (by omega), Lu hv (xB HN3.o) (xB HR3.o), (hst.keep _ hp (xB HR3.o)).trans HR3.o, HT3.o.stay hst hpx⟩, HG.o.up _ _ _ hk⟩
    ·rw [hk] at zhm
     subst zhm
     exact .inl ⟨_, rfl, hst4, by rw [HRB.o, hk]; rfl⟩
   have HC2 : xQ (∀ (w4 : World) (y : NV) (D2 : Ty) (b2 : Nat), xQ (Se pb tb cap d nb xb ts L R sub m w x D t w4 y D2 b2 ∧ b + 1 ≤ b2) → Calls prog 195 #[Pu t, x.val, y.val] w4 fun e w5 => ∃ kb, e = .returned (Wp t kb).val ∧ B4 w5 nb x ∧ xQ ((put8 w5 nb (Wp t kb)).heap[nb]? = some (Wp t kb).obj ∧ Yi (w.heap.size + 1) nb (put8 w5 nb (Wp t kb)) (Wp t kb) (Zi 14 t.text 0 t.line t.col [] [] [D, D2]) ∧ Zj pb w (put8 w5 nb (Wp t kb)) ∧ Ps (put8 w5 nb (Wp t kb)) pb tb cap ts b2 d ∧ (put8 w5 nb (Wp t kb)).heap[w.heap.size]? = some Ze.obj ∧ Uz (put8 w5 nb (Wp t kb)) xb L ∧ R = Y9 ts L sub m (Zi 14 t.text 0 t.line t.col [] [] [D, D2]) b2 ∧ b + 1 ≤ b2)) := by
    intro w4 y D2 b2 hh
    obtain ⟨⟨q1, q2, q3, q4, q5, q6, q7, q8⟩, q9⟩ := hh.o
    refine (A6 t x y w4).mono ?_
    rintro e w5 ⟨kb, rfl, hb, hkb, hk⟩
    have hn5 := (hb.block nb (xB q4)).trans q4
    have hnb4 := xB q4
    have hx5 := zet (t := t) q5 q6 hnb4 hb (by omega) (by omega) hk
    refine ⟨kb, rfl, Zh hn5, Yj hn5, hx5.put8 (xB hn5) _, Yr (q2.trans (Zj.of q3.ltp hb)) hp (by omega) _, Yv (q3.below hb) (by omega) _, ?_, ?_, q1, q9⟩
    ·exact (Xq (by omega)).trans ((hb.block _ (xB q7)).trans q7)
    ·have h8 := q8.below hb
     exact ⟨by rw [Wr]; exact h8.1, fun i hi => (World.cell?_of_block (w := w5) (a := ⟨xb, i, none⟩) (Xq (by have := HL.o.1; show xb ≠ nb; omega))).trans (h8.2 i hi)⟩
   obtain ⟨m0, m1, m2, m3, m4, m5, m6, m7⟩ := HCw.o
   have hlw3 := HLw.o
   go_wp2_with fail
   go_region_with (first
    | (go_at_call 195; refine (HC2.o _ _ _ _ HX4).mono ?_; rintro e w5 ⟨kb, rfl, t8, HX5⟩; obtain ⟨⟨p0, p1, p2, p3, p4, p5, p6, p7⟩, ⟨f0, f1, f2, f3, f4, f5, f6, f7⟩, hl5⟩ := t8)
    | (refine HC.o.mono ?_; rintro e w4 (⟨ch, rfl, hf⟩ | ⟨y, D2, b2, rfl, t5, t6, HX4⟩); exact ⟨rfl, hf⟩; unfold Dx at t5; unfold Ym at t6; obtain ⟨n0, n1, n2, n3, n4, n5, n6, n7⟩ := t5; obtain ⟨k0, k1, k2, k3⟩ := t6))
   all_goals
    go_wp2_with fail
    obtain ⟨g1, g2, g3, g4, g5, g6, g7, g8⟩ := HX5.o
    go_roundg (ts.length - b2)
    case measure => have := g4.lt; omega
    case rel => exact ⟨b2, m, Wp t kb, _, g1, g2, g3, g4, g5, g6, g7, (by have := HLe.o; show _ ≤ _; omega), xR⟩
end Go.Proofs.YtbnjllkkhhkkaaaGreatDoor
namespace Go.Proofs.YtbnjllkkhhkkaaaGreatDoor
open Tryz
open Go.RowKit
theorem Ar (pb tb cap a d g : Nat) (ts : List Tok) (r : Pr Ty) (hd : d < 100) (hg : ∀ w, Ps w pb tb cap ts a (d + 1) → Calls prog g #[.pointer (some ⟨pb, 0, none⟩)] w (Zs pb tb cap ts (d + 1) w Zo r)) (hen : V1 g pb)
  (w : World) (h : Ps w pb tb cap ts a d) :
  Calls prog 56 #[.pointer (some ⟨pb, 0, none⟩), .func (.func g) #[] #[]] w (Zs pb tb cap ts d w Zo r) := by
 have H := Za h
 have HG := Za hg
 have hp := h.ltp
 obtain ⟨c0, c1, c2⟩ := h.cells
 have z2 := h.fz 2
 have hd1 : ((d : Int) == 100) = false := by simp; omega
 clear h hg
 go_enter func56, ntmps56
 go_wp2_with fail
 rw [show ((d : Int) + 1) = ((d + 1 : Nat) : Int) by omega]
 refine (HG.o _ ((H.o.setDeep (d + 1)).alloc _)).mono ?_
 rintro e w1 ⟨hst, zhm⟩
 have HST : xQ (Zj pb w w1) := (((Zj.refl pb w).set 2 _).alloc hp _).trans hst
 have HR := Za ((hst.keep w.heap.size hp (by simp [World.setCell])).trans (G9 w _ _ Ze.obj))
 have HLo : xQ (∀ x, Zs pb tb cap ts (d + 1) ((w.setCell ⟨pb, 2, none⟩ (.int .i64 ((d + 1 : Nat) : Int))).alloc Ze.obj) Zo (.inl x) e w1 → Ps w1 pb tb cap ts x.2 (d + 1) ∧ ∃ v, e = .returned v ∧ Zo (w.heap.size + 1) w1 v x.1) := by
  rintro ⟨x, b⟩ ⟨_, h1, v, h2, h3⟩
  refine ⟨h1, v, h2, ?_⟩
  have : ((w.setCell ⟨pb, 2, none⟩ (.int .i64 ((d + 1 : Nat) : Int))).alloc Ze.obj).heap.size = w.heap.size + 1 := by simp [World.setCell]
  rw [this] at h3
  exact h3
 have HPo : xQ (Zs pb tb cap ts (d + 1) ((w.setCell ⟨pb, 2, none⟩ (.int .i64 ((d + 1 : Nat) : Int))).alloc Ze.obj) Zo r e w1) := ⟨hst, zhm⟩
 clear hst zhm
 rcases r with ⟨D, b⟩ | ⟨er, li, co⟩
 case inr =>
  obtain ⟨_, rfl⟩ := HPo.o
  go_wp2_with fail
  exact ⟨rfl, HST.o, rfl⟩
 obtain ⟨hps, v, rfl, x, rfl, hv⟩ := HLo.o _ HPo.o
 have HP := Za hps
 have HT := Za hv
 clear hps hv HPo HLo c0 c1 c2 z2
 obtain ⟨c0, c1, c2⟩ := HP.o.cells
 have z2 := HP.o.fz 2
 have hp1 := HP.o.ltp
 obtain ⟨⟨r0, r1, r2, r3, r4, r5, r6, r7⟩, ⟨f0, f1, f2, f3, f4, f5, f6, f7⟩, hr1⟩ := Zh HR.o
 have hpw : ¬ pb = w.heap.size := by omega
 have hpw' : ¬ w.heap.size = pb := by omega
 have hne : ¬ w1.heap.size = w.heap.size := by omega
 have hne' : ¬ w1.heap.size = pb := by omega
 go_wp2_with fail
 refine bodyPost_ret (results_cell_row rfl _ _ w.heap.size 27 _ (0, 0) _ rfl ((xA (by rw [Wr (x := x), Zw]; exact hr1)).trans (Yj (x := x) ((xH hpw').trans HR.o))) underlying27 rfl (by kernel_rfl)) rfl ⟨(Yr (HST.o.set 2 _) hp (xR) x).alloc hp _, (Yv (HP.o.setDeep d) hp x).alloc _, _, rfl, x, rfl, ?_⟩
 exact (((HT.o.set1 (by omega) _ _).put8 (xU _) x).alloc _).lower (Nat.le_succ _)
theorem Ap (pb tb cap a g : Nat) (ts : List Tok) (w : World) (h : Ps w pb tb cap ts a 100) :
  Calls prog 56 #[.pointer (some ⟨pb, 0, none⟩), .func (.func g) #[] #[]] w (Zs pb tb cap ts 100 w Zo (Ys ts 6 a)) := by
 have H := Za h
 have hp := h.ltp
 obtain ⟨c0, c1, c2⟩ := h.cells
 clear h
 go_enter func56, ntmps56
 go_wp2_with fail
 refine (M6 pb tb cap a 100 ts _ (H.o.alloc _) 6).mono ?_
 rintro e w2 ⟨rfl, hb2⟩
 have HB2 := Za (Zn (Zl _ _) hb2)
 clear hb2
 go_wp2_with fail
 exact ⟨rfl, Zj.of hp HB2.o, rfl⟩
theorem F8 (pb tb cap d : Nat) (ts : List Tok) (r : Pr Ty) (w : World) (hw : ∀ w1, Below w.heap.size w w1 → Calls prog 56 #[.pointer (some ⟨pb, 0, none⟩), .func (.func 57) #[] #[]] w1 (Zs pb tb cap ts d w1 Zo r)) (hp : pb < w.heap.size) :
  Calls prog 23 #[.pointer (some ⟨pb, 0, none⟩)] w (Zs pb tb cap ts d w Zo r) := by
 have HW := Za hw
 clear hw
 go_enter func23, ntmps23
 go_wp2_with fail
 refine (HW.o _ (Zl _ _)).mono ?_
 rintro e w1 ⟨hst, zhm⟩
 have HST := Za ((Zj.of hp (Zl _ _)).trans hst)
 have HR := Za ((hst.keep _ hp (by simp)).trans (xL w Ze.obj))
 have HSz : xQ (w.heap.size + 1 = (w.alloc Ze.obj).heap.size) := by show _ = _; simp
 clear hst
 rcases r with ⟨D, b⟩ | ⟨er, li, co⟩
 case inr =>
  subst zhm
  go_wp2_with fail
  exact ⟨rfl, HST.o, rfl⟩
 obtain ⟨hps, v, rfl, x, rfl, hv⟩ := zhm
 have HP := Za hps
 have HT := Za hv
 obtain ⟨⟨r0, r1, r2, r3, r4, r5, r6, r7⟩, ⟨f0, f1, f2, f3, f4, f5, f6, f7⟩, hr1⟩ := Zh HR.o
 clear hps hv
 go_wp2_with fail
 refine bodyPost_ret (results_cell_row rfl _ _ w.heap.size 27 _ (0, 0) _ rfl (Yj (x := x) HR.o) underlying27 rfl (by kernel_rfl)) rfl ⟨Yr HST.o hp (xR) x, Yv HP.o hp x, _, rfl, x, rfl, ?_⟩
 exact (HT.o.put8 (by simp) x).lower (by simp)
theorem Ai (pb tb cap d : Nat) (ts : List Tok) (r : Pr Ty) (w : World) (hw : ∀ w1, Below w.heap.size w w1 → Calls prog 56 #[.pointer (some ⟨pb, 0, none⟩), .func (.func 225) #[] #[]] w1 (Zs pb tb cap ts d w1 Zo r)) (hp : pb < w.heap.size) :
  Calls prog 224 #[.pointer (some ⟨pb, 0, none⟩)] w (Zs pb tb cap ts d w Zo r) := by
 have HW := Za hw
 clear hw
 go_enter func224, ntmps224
 go_wp2_with fail
 refine (HW.o _ (Zl _ _)).mono ?_
 rintro e w1 ⟨hst, zhm⟩
 have HST := Za ((Zj.of hp (Zl _ _)).trans hst)
 have HR := Za ((hst.keep _ hp (by simp)).trans (xL w Ze.obj))
 have HSz : xQ (w.heap.size + 1 = (w.alloc Ze.obj).heap.size) := by show _ = _; simp
 clear hst
 rcases r with ⟨D, b⟩ | ⟨er, li, co⟩
 case inr =>
  subst zhm
  go_wp2_with fail
  exact ⟨rfl, HST.o, rfl⟩
 obtain ⟨hps, v, rfl, x, rfl, hv⟩ := zhm
 have HP := Za hps
 have HT := Za hv
 obtain ⟨⟨r0, r1, r2, r3, r4, r5, r6, r7⟩, ⟨f0, f1, f2, f3, f4, f5, f6, f7⟩, hr1⟩ := Zh HR.o
 clear hps hv
 go_wp2_with fail
 refine bodyPost_ret (results_cell_row rfl _ _ w.heap.size 27 _ (0, 0) _ rfl (Yj (x := x) HR.o) underlying27 rfl (by kernel_rfl)) rfl ⟨Yr HST.o hp (xR) x, Yv HP.o hp x, _, rfl, x, rfl, ?_⟩
 exact (HT.o.put8 (by simp) x).lower (by simp)
theorem Ow (pb : Nat) : V1 221 pb := fun w => V8 func221 (by kernel_rfl) (by kernel_rfl) _ w
theorem I3 (pb tb cap d : Nat) (ts : List Tok) (sub : Nat → Pr Ty) (hg : Yg pb tb cap d ts Zo 224 sub) (ok : Z0 ts) (a : Nat) (w : World) (h : Ps w pb tb cap ts a d) :
  Calls prog 221 #[.pointer (some ⟨pb, 0, none⟩)] w (Zs pb tb cap ts d w Zo ((sub a).go fun x a => Y9 ts [[42], [47], [37], [38], [60, 60], [62, 62]] sub ts.length x a)) := by
 have hp := h.ltp
 have HW := Za (B3 pb tb cap d (w.heap.size + 1) 6 ts [[42], [47], [37], [38], [60, 60], [62, 62]] (by simp) _ sub hg a ((w.alloc Ze.obj).alloc (.cells (([[42], [47], [37], [38], [60, 60], [62, 62]] : List (List UInt8)).map fun s => Value.string ⟨s.toArray⟩).toArray 9)) ((h.alloc _).alloc _) (Mr (w.alloc Ze.obj) [[42], [47], [37], [38], [60, 60], [62, 62]] _ _ (by simp)) (by omega) ok)
 clear h hg ok
 obtain ⟨r, hr⟩ := xE (((sub a).go fun x a => Y9 ts [[42], [47], [37], [38], [60, 60], [62, 62]] sub ts.length x a))
 rw [← hr] at HW ⊢
 clear hr
 go_enter func221, ntmps221
 go_wp2_with fail
 refine HW.o.mono ?_
 rintro e w1 ⟨hst, zhm⟩
 have HST := Za ((Zj.of hp (Zn (Zl _ _) (Zl _ _))).trans hst)
 have HR := Za ((hst.keep w.heap.size hp (by rw [xS, xS]; omega)).trans ((xA (by simp)).trans (xL w Ze.obj)))
 clear hst
 rcases r with ⟨D, b⟩ | ⟨er, li, co⟩
 case inr =>
  subst zhm
  go_wp2_with fail
  exact ⟨rfl, HST.o, rfl⟩
 obtain ⟨hps, v, rfl, x, rfl, hv⟩ := zhm
 have HP := Za hps
 have HT := Za hv
 obtain ⟨⟨r0, r1, r2, r3, r4, r5, r6, r7⟩, ⟨f0, f1, f2, f3, f4, f5, f6, f7⟩, hr1⟩ := Zh HR.o
 clear hps hv
 go_wp2_with fail
 refine bodyPost_ret (results_cell_row rfl _ _ w.heap.size 27 _ (0, 0) _ rfl (Yj (x := x) HR.o) underlying27 rfl (by kernel_rfl)) rfl ⟨Yr HST.o hp (xR) x, Yv HP.o hp x, _, rfl, x, rfl, ?_⟩
 exact (HT.o.put8 (by rw [xS, xS]; omega) x).lower (by rw [xS, xS]; omega)
theorem zar (pb : Nat) : V1 213 pb := fun w => V8 func213 (by kernel_rfl) (by kernel_rfl) _ w
theorem psum_c (pb tb cap d : Nat) (ts : List Tok) (sub : Nat → Pr Ty) (hg : Yg pb tb cap d ts Zo 221 sub) (ok : Z0 ts) (a : Nat) (w : World) (h : Ps w pb tb cap ts a d) :
  Calls prog 213 #[.pointer (some ⟨pb, 0, none⟩)] w (Zs pb tb cap ts d w Zo ((sub a).go fun x a => Y9 ts [[43], [45], [94]] sub ts.length x a)) := by
 have hp := h.ltp
 have HW := Za (B3 pb tb cap d (w.heap.size + 1) 3 ts [[43], [45], [94]] (by simp) _ sub hg a ((w.alloc Ze.obj).alloc (.cells (([[43], [45], [94]] : List (List UInt8)).map fun s => Value.string ⟨s.toArray⟩).toArray 9)) ((h.alloc _).alloc _) (Mr (w.alloc Ze.obj) [[43], [45], [94]] _ _ (by simp)) (by omega) ok)
 clear h hg ok
 obtain ⟨r, hr⟩ := xE (((sub a).go fun x a => Y9 ts [[43], [45], [94]] sub ts.length x a))
 rw [← hr] at HW ⊢
 clear hr
 go_enter func213, ntmps213
 go_wp2_with fail
 refine HW.o.mono ?_
 rintro e w1 ⟨hst, zhm⟩
 have HST := Za ((Zj.of hp (Zn (Zl _ _) (Zl _ _))).trans hst)
 have HR := Za ((hst.keep w.heap.size hp (by rw [xS, xS]; omega)).trans ((xA (by simp)).trans (xL w Ze.obj)))
 clear hst
 rcases r with ⟨D, b⟩ | ⟨er, li, co⟩
 case inr =>
  subst zhm
  go_wp2_with fail
  exact ⟨rfl, HST.o, rfl⟩
 obtain ⟨hps, v, rfl, x, rfl, hv⟩ := zhm
 have HP := Za hps
 have HT := Za hv
 obtain ⟨⟨r0, r1, r2, r3, r4, r5, r6, r7⟩, ⟨f0, f1, f2, f3, f4, f5, f6, f7⟩, hr1⟩ := Zh HR.o
 clear hps hv
 go_wp2_with fail
 refine bodyPost_ret (results_cell_row rfl _ _ w.heap.size 27 _ (0, 0) _ rfl (Yj (x := x) HR.o) underlying27 rfl (by kernel_rfl)) rfl ⟨Yr HST.o hp (xR) x, Yv HP.o hp x, _, rfl, x, rfl, ?_⟩
 exact (HT.o.put8 (by rw [xS, xS]; omega) x).lower (by rw [xS, xS]; omega)
theorem zcq (pb : Nat) : V1 205 pb := fun w => V8 func205 (by kernel_rfl) (by kernel_rfl) _ w
theorem pcat_c (pb tb cap d : Nat) (ts : List Tok) (sub : Nat → Pr Ty) (hg : Yg pb tb cap d ts Zo 213 sub) (ok : Z0 ts) (a : Nat) (w : World) (h : Ps w pb tb cap ts a d) :
  Calls prog 205 #[.pointer (some ⟨pb, 0, none⟩)] w (Zs pb tb cap ts d w Zo ((sub a).go fun x a => Y9 ts [[43, 43]] sub ts.length x a)) := by
 have hp := h.ltp
 have HW := Za (B3 pb tb cap d (w.heap.size + 1) 1 ts [[43, 43]] (by simp) _ sub hg a ((w.alloc Ze.obj).alloc (.cells (([[43, 43]] : List (List UInt8)).map fun s => Value.string ⟨s.toArray⟩).toArray 9)) ((h.alloc _).alloc _) (Mr (w.alloc Ze.obj) [[43, 43]] _ _ (by simp)) (by omega) ok)
 clear h hg ok
 obtain ⟨r, hr⟩ := xE (((sub a).go fun x a => Y9 ts [[43, 43]] sub ts.length x a))
 rw [← hr] at HW ⊢
 clear hr
 go_enter func205, ntmps205
 go_wp2_with fail
 refine HW.o.mono ?_
 rintro e w1 ⟨hst, zhm⟩
 have HST := Za ((Zj.of hp (Zn (Zl _ _) (Zl _ _))).trans hst)
 have HR := Za ((hst.keep w.heap.size hp (by rw [xS, xS]; omega)).trans ((xA (by simp)).trans (xL w Ze.obj)))
 clear hst
 rcases r with ⟨D, b⟩ | ⟨er, li, co⟩
 case inr =>
  subst zhm
  go_wp2_with fail
  exact ⟨rfl, HST.o, rfl⟩
 obtain ⟨hps, v, rfl, x, rfl, hv⟩ := zhm
 have HP := Za hps
 have HT := Za hv
 obtain ⟨⟨r0, r1, r2, r3, r4, r5, r6, r7⟩, ⟨f0, f1, f2, f3, f4, f5, f6, f7⟩, hr1⟩ := Zh HR.o
 clear hps hv
 go_wp2_with fail
 refine bodyPost_ret (results_cell_row rfl _ _ w.heap.size 27 _ (0, 0) _ rfl (Yj (x := x) HR.o) underlying27 rfl (by kernel_rfl)) rfl ⟨Yr HST.o hp (xR) x, Yv HP.o hp x, _, rfl, x, rfl, ?_⟩
 exact (HT.o.put8 (by rw [xS, xS]; omega) x).lower (by rw [xS, xS]; omega)
theorem zdr (pb : Nat) : V1 173 pb := fun w => V8 func173 (by kernel_rfl) (by kernel_rfl) _ w
theorem pand_c (pb tb cap d : Nat) (ts : List Tok) (sub : Nat → Pr Ty) (hg : Yg pb tb cap d ts Zo 196 sub) (ok : Z0 ts) (a : Nat) (w : World) (h : Ps w pb tb cap ts a d) :
  Calls prog 173 #[.pointer (some ⟨pb, 0, none⟩)] w (Zs pb tb cap ts d w Zo ((sub a).go fun x a => Y9 ts [[97, 110, 100]] sub ts.length x a)) := by
 have hp := h.ltp
 have HW := Za (B3 pb tb cap d (w.heap.size + 1) 1 ts [[97, 110, 100]] (by simp) _ sub hg a ((w.alloc Ze.obj).alloc (.cells (([[97, 110, 100]] : List (List UInt8)).map fun s => Value.string ⟨s.toArray⟩).toArray 9)) ((h.alloc _).alloc _) (Mr (w.alloc Ze.obj) [[97, 110, 100]] _ _ (by simp)) (by omega) ok)
 clear h hg ok
 obtain ⟨r, hr⟩ := xE (((sub a).go fun x a => Y9 ts [[97, 110, 100]] sub ts.length x a))
 rw [← hr] at HW ⊢
 clear hr
 go_enter func173, ntmps173
 go_wp2_with fail
 refine HW.o.mono ?_
 rintro e w1 ⟨hst, zhm⟩
 have HST := Za ((Zj.of hp (Zn (Zl _ _) (Zl _ _))).trans hst)
 have HR := Za ((hst.keep w.heap.size hp (by rw [xS, xS]; omega)).trans ((xA (by simp)).trans (xL w Ze.obj)))
 clear hst
 rcases r with ⟨D, b⟩ | ⟨er, li, co⟩
 case inr =>
  subst zhm
  go_wp2_with fail
  exact ⟨rfl, HST.o, rfl⟩
 obtain ⟨hps, v, rfl, x, rfl, hv⟩ := zhm
 have HP := Za hps
 have HT := Za hv
 obtain ⟨⟨r0, r1, r2, r3, r4, r5, r6, r7⟩, ⟨f0, f1, f2, f3, f4, f5, f6, f7⟩, hr1⟩ := Zh HR.o
 clear hps hv
 go_wp2_with fail
 refine bodyPost_ret (results_cell_row rfl _ _ w.heap.size 27 _ (0, 0) _ rfl (Yj (x := x) HR.o) underlying27 rfl (by kernel_rfl)) rfl ⟨Yr HST.o hp (xR) x, Yv HP.o hp x, _, rfl, x, rfl, ?_⟩
 exact (HT.o.put8 (by rw [xS, xS]; omega) x).lower (by rw [xS, xS]; omega)
theorem Cf (pb : Nat) : V1 112 pb := fun w => V8 func112 (by kernel_rfl) (by kernel_rfl) _ w
theorem por_c (pb tb cap d : Nat) (ts : List Tok) (sub : Nat → Pr Ty) (hg : Yg pb tb cap d ts Zo 173 sub) (ok : Z0 ts) (a : Nat) (w : World) (h : Ps w pb tb cap ts a d) :
  Calls prog 112 #[.pointer (some ⟨pb, 0, none⟩)] w (Zs pb tb cap ts d w Zo ((sub a).go fun x a => Y9 ts [[111, 114]] sub ts.length x a)) := by
 have hp := h.ltp
 have HW := Za (B3 pb tb cap d (w.heap.size + 1) 1 ts [[111, 114]] (by simp) _ sub hg a ((w.alloc Ze.obj).alloc (.cells (([[111, 114]] : List (List UInt8)).map fun s => Value.string ⟨s.toArray⟩).toArray 9)) ((h.alloc _).alloc _) (Mr (w.alloc Ze.obj) [[111, 114]] _ _ (by simp)) (by omega) ok)
 clear h hg ok
 obtain ⟨r, hr⟩ := xE (((sub a).go fun x a => Y9 ts [[111, 114]] sub ts.length x a))
 rw [← hr] at HW ⊢
 clear hr
 go_enter func112, ntmps112
 go_wp2_with fail
 refine HW.o.mono ?_
 rintro e w1 ⟨hst, zhm⟩
 have HST := Za ((Zj.of hp (Zn (Zl _ _) (Zl _ _))).trans hst)
 have HR := Za ((hst.keep w.heap.size hp (by rw [xS, xS]; omega)).trans ((xA (by simp)).trans (xL w Ze.obj)))
 clear hst
 rcases r with ⟨D, b⟩ | ⟨er, li, co⟩
 case inr =>
  subst zhm
  go_wp2_with fail
  exact ⟨rfl, HST.o, rfl⟩
 obtain ⟨hps, v, rfl, x, rfl, hv⟩ := zhm
 have HP := Za hps
 have HT := Za hv
 obtain ⟨⟨r0, r1, r2, r3, r4, r5, r6, r7⟩, ⟨f0, f1, f2, f3, f4, f5, f6, f7⟩, hr1⟩ := Zh HR.o
 clear hps hv
 go_wp2_with fail
 refine bodyPost_ret (results_cell_row rfl _ _ w.heap.size 27 _ (0, 0) _ rfl (Yj (x := x) HR.o) underlying27 rfl (by kernel_rfl)) rfl ⟨Yr HST.o hp (xR) x, Yv HP.o hp x, _, rfl, x, rfl, ?_⟩
 exact (HT.o.put8 (by rw [xS, xS]; omega) x).lower (by rw [xS, xS]; omega)
structure Z5 (pb tb cap d : Nat) (ts : List Tok) (w0 w : World) (b : Nat) (bx : List (Nat × Obj)) (ns : List (NV × Ty)) (tys : List (Value × Ty)) : Prop where
 st : Zj pb w0 w
 ps : Ps w pb tb cap ts b d
 hp : pb < w0.heap.size
 sz : w0.heap.size + 1 ≤ w.heap.size
 has : ∀ p ∈ bx, w.heap[p.1]? = some p.2 ∧ pb < p.1
 nds : ∀ p ∈ ns, Zv (w0.heap.size + 1) w p.1 p.2
 tys : ∀ p ∈ tys, Zt (w0.heap.size + 1) w p.1 p.2
section
variable {pb tb cap d b b' lo : Nat} {ts : List Tok} {w0 w w' : World} {bx : List (Nat × Obj)} {ns : List (NV × Ty)} {tys : List (Value × Ty)} {x : NV} {D : Ty} {v : Value}
theorem Xa (h : Ps w0 pb tb cap ts b d) (o : Obj) : Z5 pb tb cap d ts w0 (w0.alloc o) b [(w0.heap.size, o)] [] [] where
 st := Zj.of h.ltp (Zl _ _)
 ps := h.alloc _
 hp := h.ltp
 sz := by simp
 has := fun p hp => by rw [List.mem_singleton.1 hp]; exact ⟨xL _ _, h.ltp⟩
 nds := (fun _ h => nomatch h)
 tys := (fun _ h => nomatch h)
theorem Z5.step (h : Z5 pb tb cap d ts w0 w b bx ns tys) (hst : Zj pb w w') (hps : Ps w' pb tb cap ts b' d) : Z5 pb tb cap d ts w0 w' b' bx ns tys where
 st := h.st.trans hst
 ps := hps
 hp := h.hp
 sz := Nat.le_trans h.sz hst.size
 has := fun p hp => ⟨(hst.keep _ (h.has p hp).2 (xB (h.has p hp).1)).trans (h.has p hp).1, (h.has p hp).2⟩
 nds := fun p hp => (h.nds p hp).stay hst (by have := h.hp; omega)
 tys := fun p hp => (h.tys p hp).stay hst (by have := h.hp; omega)
theorem Z5.below (h : Z5 pb tb cap d ts w0 w b bx ns tys) (hb : Below w.heap.size w w') : Z5 pb tb cap d ts w0 w' b bx ns tys := h.step (Zj.of h.ps.ltp hb) (h.ps.below hb)
theorem Z5.alloc (h : Z5 pb tb cap d ts w0 w b bx ns tys) (o : Obj) : Z5 pb tb cap d ts w0 (w.alloc o) b ((w.heap.size, o) :: bx) ns tys where
 st := (h.below (Zl _ o)).st
 ps := h.ps.alloc _
 hp := h.hp
 sz := (h.below (Zl _ o)).sz
 has := fun p hp => by
  rcases List.mem_cons.1 hp with rfl | hp
  ·exact ⟨xL _ _, h.ps.ltp⟩
  ·exact (h.below (Zl _ o)).has p hp
 nds := (h.below (Zl _ o)).nds
 tys := (h.below (Zl _ o)).tys
theorem Z5.addN (h : Z5 pb tb cap d ts w0 w b bx ns tys) (hv : Zv lo w x D) (hl : w0.heap.size + 1 ≤ lo) : Z5 pb tb cap d ts w0 w b bx ((x, D) :: ns) tys where
 st := h.st
 ps := h.ps
 hp := h.hp
 sz := h.sz
 has := h.has
 nds := fun p hp => by
  rcases List.mem_cons.1 hp with rfl | hp
  ·exact hv.lower hl
  ·exact h.nds p hp
 tys := h.tys
theorem Z5.addT (h : Z5 pb tb cap d ts w0 w b bx ns tys) (hv : Zt lo w v D) (hl : w0.heap.size + 1 ≤ lo) : Z5 pb tb cap d ts w0 w b bx ns ((v, D) :: tys) where
 st := h.st
 ps := h.ps
 hp := h.hp
 sz := h.sz
 has := h.has
 nds := h.nds
 tys := fun p hp => by
  rcases List.mem_cons.1 hp with rfl | hp
  ·exact hv.lower hl
  ·exact h.tys p hp
theorem Z5.drew (h : Z5 pb tb cap d ts w0 w b bx ns tys) : Z5 pb tb cap d ts w0 w.drew b bx ns tys := ⟨h.st.drew, h.ps.drew, h.hp, h.sz, h.has, fun p hp => (h.nds p hp).keep (xR) (fun _ _ _ => rfl), fun p hp => (h.tys p hp).keep (xR) (fun _ _ _ => rfl)⟩
theorem Z5.b0 {p : Nat × Obj} (h : Z5 pb tb cap d ts w0 w b (p :: bx) ns tys) : w.heap[p.1]? = some p.2 := (h.has p (xM ..)).1
theorem Z5.b1 {p q : Nat × Obj} (h : Z5 pb tb cap d ts w0 w b (q :: p :: bx) ns tys) : w.heap[p.1]? = some p.2 := (h.has p (xW _ (xM ..))).1
theorem Z5.b2 {p q r : Nat × Obj} (h : Z5 pb tb cap d ts w0 w b (r :: q :: p :: bx) ns tys) : w.heap[p.1]? = some p.2 := (h.has p (xW _ (xW _ (xM ..)))).1
theorem Z5.b3 {p q r s : Nat × Obj} (h : Z5 pb tb cap d ts w0 w b (s :: r :: q :: p :: bx) ns tys) : w.heap[p.1]? = some p.2 := (h.has p (xW _ (xW _ (xW _ (xM ..))))).1
theorem Z5.b4 {p q0 q1 q2 q3 : Nat × Obj} (h : Z5 pb tb cap d ts w0 w b (q0 :: q1 :: q2 :: q3 :: p :: bx) ns tys) : w.heap[p.1]? = some p.2 := (h.has p (xW _ (xW _ (xW _ (xW _ (xM ..)))))).1
theorem Z5.b5 {p q0 q1 q2 q3 q4 : Nat × Obj} (h : Z5 pb tb cap d ts w0 w b (q0 :: q1 :: q2 :: q3 :: q4 :: p :: bx) ns tys) : w.heap[p.1]? = some p.2 := (h.has p (xW _ (xW _ (xW _ (xW _ (xW _ (xM ..))))))).1
theorem Z5.n0 {p : NV × Ty} (h : Z5 pb tb cap d ts w0 w b bx (p :: ns) tys) : Zv (w0.heap.size + 1) w p.1 p.2 := h.nds p (xM ..)
theorem Z5.n1 {p q : NV × Ty} (h : Z5 pb tb cap d ts w0 w b bx (q :: p :: ns) tys) : Zv (w0.heap.size + 1) w p.1 p.2 := h.nds p (xW _ (xM ..))
theorem Z5.n2 {p q r : NV × Ty} (h : Z5 pb tb cap d ts w0 w b bx (r :: q :: p :: ns) tys) : Zv (w0.heap.size + 1) w p.1 p.2 := h.nds p (xW _ (xW _ (xM ..)))
theorem Z5.t0 {p : Value × Ty} (h : Z5 pb tb cap d ts w0 w b bx ns (p :: tys)) : Zt (w0.heap.size + 1) w p.1 p.2 := h.tys p (xM ..)
theorem Zy {α : Type} {rep : Nat → World → Value → α → Prop} {r : Pr α} {e : Ending} (h : Zs pb tb cap ts d w rep r e w') :
  (∃ er li co, r = .inr (er, li, co) ∧ e = F7 er li co ∧ Zj pb w w') ∨ ∃ x b v, r = .inl (x, b) ∧ e = .returned v ∧ Zj pb w w' ∧ Ps w' pb tb cap ts b d ∧ rep w.heap.size w' v x := by
 obtain ⟨hst, h⟩ := h
 rcases r with ⟨x, b⟩ | ⟨er, li, co⟩
 ·obtain ⟨hps, v, rfl, hv⟩ := h
  exact .inr ⟨x, b, v, rfl, rfl, hst, hps, hv⟩
 ·exact .inl ⟨er, li, co, rfl, h, hst⟩
end
end Go.Proofs.YtbnjllkkhhkkaaaGreatDoor
namespace Go.Proofs.YtbnjllkkhhkkaaaGreatDoor
open Tryz
open Go.RowKit
attribute [local go_sem ↓] Go.wp_at_zero Go.wp_at_succ
theorem Hy (pb tb cap d : Nat) (ts : List Tok) (E : Nat → Pr Ty) (hE : Yg pb tb cap d ts Zo 23 E) (ok : Z0 ts) (a : Nat) (w : World) (h : Ps w pb tb cap ts a d) :
  Calls prog 228 #[.pointer (some ⟨pb, 0, none⟩)] w (Zs pb tb cap ts d w Zo ((Zb ts a [40]).go fun _ b => (E b).go fun x b => (Zb ts b [41]).go fun _ b => .inl (x, b))) := by
 have H := Za h
 have OK := Za ok
 have hp := h.ltp
 have HE1 := Za hE
 have C0 := Za (Xa h Ze.obj)
 obtain ⟨R, hR⟩ : ∃ R : Pr Ty, R = ((Zb ts a [40]).go fun _ b => (E b).go fun x b => (Zb ts b [41]).go fun _ b => .inl (x, b)) := ⟨_, rfl⟩
 rw [← hR]
 have HR0 := Za hR
 clear h ok hR hE
 go_enter func228, ntmps228
 go_wp2_with fail
 refine (Y6 pb tb cap a d ts [40] _ C0.o.ps OK.o).mono ?_
 intro e w1 zhm
 rcases Zy zhm with ⟨er, li, co, hr, rfl, hst⟩ | ⟨u, b1, v, hr, rfl, hst, hps, hv⟩
 ·have HE : xQ (R = .inr (er, li, co)) := by rw [HR0.o, hr]; exact rfl
  have HF := Za (C0.o.st.trans hst)
  clear hr hst zhm
  go_wp2_with fail
  exact ⟨rfl, HF.o, by rw [HE.o]⟩
 have HR1 : xQ (R = (E b1).go fun x b => (Zb ts b [41]).go fun _ b => .inl (x, b)) := by rw [HR0.o, hr]; exact rfl
 have C1 := Za ((C0.o.step hst hps))
 clear hr hst hps zhm hv
 go_wp2_with fail
 refine (HE1.o.calls b1 _ C1.o.ps).mono ?_
 intro e w2 zhm
 rcases Zy zhm with ⟨er, li, co, hr, rfl, hst⟩ | ⟨D, b2, v, hr, rfl, hst, hps, hv⟩
 ·have HE : xQ (R = .inr (er, li, co)) := by rw [HR1.o, hr]; exact rfl
  have HF := Za (C1.o.st.trans hst)
  clear hr hst zhm
  go_wp2_with fail
  exact ⟨rfl, HF.o, by rw [HE.o]⟩
 have HR2 : xQ (R = (Zb ts b2 [41]).go fun _ b => .inl (D, b)) := by rw [HR1.o, hr]; exact rfl
 obtain ⟨x, rfl, hv⟩ := hv
 have C2 := Za ((C1.o.step hst hps).addN hv C1.o.sz)
 have C3 := Za (C2.o.alloc (x.obj))
 clear hr hst hps zhm hv
 go_wp2_with fail
 refine (Y6 pb tb cap b2 d ts [41] _ C3.o.ps OK.o).mono ?_
 intro e w3 zhm
 rcases Zy zhm with ⟨er, li, co, hr, rfl, hst⟩ | ⟨u2, b3, v2, hr, rfl, hst, hps, hv⟩
 ·have HE : xQ (R = .inr (er, li, co)) := by rw [HR2.o, hr]; exact rfl
  have HF := Za (C3.o.st.trans hst)
  clear hr hst zhm
  go_wp2_with fail
  exact ⟨rfl, HF.o, by rw [HE.o]⟩
 have HR3 : xQ (R = .inl (D, b3)) := by rw [HR2.o, hr]; exact rfl
 have C4 := Za ((C3.o.step hst hps))
 clear hr hst hps zhm hv
 obtain ⟨⟨r0, r1, r2, r3, r4, r5, r6, r7⟩, ⟨f0, f1, f2, f3, f4, f5, f6, f7⟩, hr1⟩ := Zh (x := Ze) (C4.o.b1)
 obtain ⟨⟨n0, n1, n2, n3, n4, n5, n6, n7⟩, _, hn1⟩ := Zh (x := x) C4.o.b0
 have hne : ¬ w2.heap.size = w.heap.size := by have := C2.o.sz; omega
 go_wp2_with fail
 rw [HR3.o]
 refine bodyPost_ret (results_cell_row rfl _ _ w.heap.size 27 _ (0, 0) _ rfl (Yj (x := x) C4.o.b1) underlying27 rfl (by kernel_rfl)) rfl ⟨Yr C4.o.st hp (xR) (x), Yv C4.o.ps hp (x), _, rfl, x, rfl, ?_⟩
 exact ((C4.o.n0).put8 (xU _) (x)).lower (Nat.le_succ _)
end Go.Proofs.YtbnjllkkhhkkaaaGreatDoor
