/- Part. -/
import Derived.Test.YtfoejkhfdiodhaaGreatDoorPart5
set_option maxRecDepth 100000
set_option maxHeartbeats 4000000
namespace Go.Proofs.YtfoejkhfdiodhaaGreatDoor
open Go.Proofs.Tryz
open Go.RowKit
section
variable {w w' : World} {lo lo' n m : Nat} {x : NV} {D : Ty} {ka : Option Addr} {ks : List Ty} {a : Option Addr} {ns : List (List UInt8)}
theorem Iz (h : Ba w lo a ns) (hl : lo' <= lo) : Ba w lo' a ns := by
 rcases h with h | ⟨b, o, e, hb, r⟩
 ·exact .inl h
 ·exact .inr ⟨b, o, e, by omega, r⟩
theorem Ae (h : Ut w lo n ka ks) (hl : lo' <= lo) : Ut w lo' n ka ks := by
 rcases h with h | ⟨b, o, e, hb, hc, r⟩
 ·exact .inl h
 ·refine .inr ⟨b, o, e, by omega, hc, fun i hi => ?_⟩
  obtain ⟨c0, c1, c2, c3, e0, e1, e2, e3, ht⟩ := r i hi;exact ⟨c0, c1, c2, c3, e0, e1, e2, e3, yP ht hl⟩
theorem E1 (h : Ut w lo n ka ks) (hm : n <= m) : Ut w lo m ka ks := by
 rcases h with h | ⟨b, o, e, hb, hc, r⟩
 ·exact .inl h
 ·refine .inr ⟨b, o, e, hb, hc, fun i hi => ?_⟩
  obtain ⟨c0, c1, c2, c3, e0, e1, e2, e3, ht⟩ := r i hi;exact ⟨c0, c1, c2, c3, e0, e1, e2, e3, Gg ht hm⟩
theorem gC (h : Bx w lo n x D) (hl : lo' <= lo) : Bx w lo' n x D := by
 induction n generalizing x D with
 | zero => exact h.elim
 | succ n ih =>
  obtain ⟨tys, ns, ks, e, h1, h2, h3, h4, h5⟩ := h;refine ⟨tys, ns, ks, e, h1, h2, Ae h3 hl, Iz h4 hl, ?_⟩;rcases h5 with h5 | ⟨b, o, e, hb, Yz, hc⟩
  ·exact .inl h5
  ·refine .inr ⟨b, o, e, by omega, Yz, fun i hi => ?_⟩
   obtain ⟨y, hy, ht⟩ := hc i hi;exact ⟨y, hy, ih ht⟩
theorem Ga (h : Bx w lo n x D) (hm : n <= m) : Bx w lo m x D := by
 induction n generalizing m x D with
 | zero => exact h.elim
 | succ n ih =>
  obtain ⟨m, rfl⟩ : ∃ p, m = p + 1 := ⟨m - 1, by omega⟩
  obtain ⟨tys, ns, ks, e, h1, h2, h3, h4, h5⟩ := h;refine ⟨tys, ns, ks, e, h1, h2, E1 h3 (by omega), h4, ?_⟩;rcases h5 with h5 | ⟨b, o, e, hb, Yz, hc⟩
  ·exact .inl h5
  ·refine .inr ⟨b, o, e, hb, Yz, fun i hi => ?_⟩
   obtain ⟨y, hy, ht⟩ := hc i hi;exact ⟨y, hy, ih ht (by omega)⟩
end
def Yi (lo : Nat) (w : World) (x : NV) (D : Ty) : Prop := ∃ m, Bx w lo m x D
def Z4 (lo : Nat) (w : World) (v : Value) (D : Ty) : Prop := ∃ x : NV, v = x.val /\ Yi lo w x D
abbrev put8 (w : World) (b : Nat) (x : NV) : World := (((((((w.setCell ⟨b, 0, none⟩ (.int .i64 x.k)).setCell ⟨b, 1, none⟩ (.string x.tx)).setCell ⟨b, 2, none⟩ (.int .i64 x.N)).setCell ⟨b, 3, none⟩ (.int .i64 x.li)).setCell ⟨b, 4, none⟩ (.int .i64 x.co)).setCell ⟨b, 5, none⟩ (.slice x.ta x.tl x.tc)).setCell ⟨b, 6, none⟩ (.slice x.na x.nl x.nc)).setCell ⟨b, 7, none⟩ (.slice x.ka x.kl x.kc)
abbrev Zi : NV := ⟨0, ⟨#[]⟩, 0, 0, 0, none, 0, 0, none, 0, 0, none, 0, 0⟩
section
variable {w w' : World} {lo lo' b pb : Nat} {x y : NV} {D : Ty}
theorem Xn (h : w.heap[b]? = some y.obj) : (put8 w b x).heap[b]? = some x.obj := by
 have h0 := Xe (o := 0) (u := .int .i64 x.k) h
 simp only [List.setIfInBounds_toArray, List.set_cons_zero] at h0
 have h1 := Xe (o := 1) (u := .string x.tx) h0
 simp only [List.setIfInBounds_toArray, List.set_cons_zero, List.set_cons_succ] at h1
 have h2 := Xe (o := 2) (u := .int .i64 x.N) h1
 simp only [List.setIfInBounds_toArray, List.set_cons_zero, List.set_cons_succ] at h2
 have h3 := Xe (o := 3) (u := .int .i64 x.li) h2
 simp only [List.setIfInBounds_toArray, List.set_cons_zero, List.set_cons_succ] at h3
 have h4 := Xe (o := 4) (u := .int .i64 x.co) h3
 simp only [List.setIfInBounds_toArray, List.set_cons_zero, List.set_cons_succ] at h4
 have h5 := Xe (o := 5) (u := .slice x.ta x.tl x.tc) h4
 simp only [List.setIfInBounds_toArray, List.set_cons_zero, List.set_cons_succ] at h5
 have h6 := Xe (o := 6) (u := .slice x.na x.nl x.nc) h5
 simp only [List.setIfInBounds_toArray, List.set_cons_zero, List.set_cons_succ] at h6
 have h7 := Xe (o := 7) (u := .slice x.ka x.kl x.kc) h6
 simp only [List.setIfInBounds_toArray, List.set_cons_zero, List.set_cons_succ] at h7
 exact h7
theorem Q3 : (put8 w b x).heap.size = w.heap.size := by
 unfold put8
 rw [Ye, Ye, Ye, Ye, Ye, Ye, Ye, Ye]
theorem U0 {i : Nat} (hi : i ≠ b) : (put8 w b x).heap[i]? = w.heap[i]? := by
 unfold put8
 rw [xH hi, xH hi, xH hi, xH hi, xH hi, xH hi, xH hi, xH hi]
theorem Wg (h : Zl pb w w') (hp : pb < w.heap.size) (hb : w.heap.size <= b) (x : NV) : Zl pb w (put8 w' b x) :=
 (((((((h.own hp hb 0 _).own hp hb 1 _).own hp hb 2 _).own hp hb 3 _).own hp hb 4 _).own hp hb 5 _).own hp hb 6 _).own hp hb 7 _
theorem Wn {tb cap a d : Nat} {ts : List Tok} (h : Ps w pb tb cap ts a d) (hb : pb < b) (x : NV) : Ps (put8 w b x) pb tb cap ts a d :=
 (((((((h.other hb 0 _).other hb 1 _).other hb 2 _).other hb 3 _).other hb 4 _).other hb 5 _).other hb 6 _).other hb 7 _
theorem Sx {B : Nat} {u : World} (h : Below B u w) (hb : B <= b) (x : NV) : Below B u (put8 w b x) :=
 (((((((h.setCell hb _).setCell hb _).setCell hb _).setCell hb _).setCell hb _).setCell hb _).setCell hb _).setCell hb _
theorem Yi.keep (h : Yi lo w x D) (hs : w.heap.size <= w'.heap.size) (hk : ∀ b, lo <= b -> b < w.heap.size -> w'.heap[b]? = w.heap[b]?) : Yi lo w' x D := by
 obtain ⟨m, h⟩ := h
 exact ⟨m, zS h hs hk⟩
theorem Yi.lower (h : Yi lo w x D) (hl : lo' <= lo) : Yi lo' w x D := by
 obtain ⟨m, h⟩ := h
 exact ⟨m, gC h hl⟩
theorem Yi.stay (h : Yi lo w x D) (hs : Zl pb w w') (hp : pb < lo) : Yi lo w' x D := h.keep hs.size fun b hb hl => hs.keep b (by omega) hl
theorem Yi.below (h : Yi lo w x D) (hb : Below w.heap.size w w') : Yi lo w' x D := h.keep hb.size fun b _ hl => hb.block b hl
theorem Yi.put8 (h : Yi lo w x D) (hb : b < lo) (y : NV) : Yi lo (put8 w b y) x D := h.keep (by rw [Q3]; exact xR) fun i hi _ => U0 (by omega)
theorem Yi.alloc (h : Yi lo w x D) (o : Obj) : Yi lo (w.alloc o) x D := h.keep (by simp) fun i _ hl => xA hl
theorem Yi.set1 (h : Yi lo w x D) (hb : b < lo) (o : Nat) (u : Value) : Yi lo (w.setCell ⟨b, o, none⟩ u) x D :=
 h.keep (by rw [Ye]; exact xR) fun i hi _ => xH (by show i ≠ b; omega)
theorem Yi.place (h : Yi lo w x D) (li co : Nat) : ∃ k tx N l c tys ns ks, D = Zn k tx N l c tys ns ks /\ Yi lo w { x with li := li, co := co } (Zn k tx N li co tys ns ks) := by
 obtain ⟨m, h⟩ := h
 cases m with
 | zero => exact h.elim
 | succ m =>
  obtain ⟨tys, ns, ks, e, h1, h2, h3, h4, h5⟩ := h;exact ⟨_, _, _, _, _, _, _, _, e, m + 1, tys, ns, ks, rfl, h1, h2, h3, h4, h5⟩
end
theorem lV (w : World) (o1 o2 o3 : Obj) : (((w.alloc o1).alloc o2).alloc o3).heap[w.heap.size + 1 + 1]? = some o3 := by
 have := xL ((w.alloc o1).alloc o2) o3
 simpa using this
theorem lX (w : World) (o1 o2 o3 o4 o5 : Obj) : (((((w.alloc o1).alloc o2).alloc o3).alloc o4).alloc o5).heap[w.heap.size + 1 + 1 + 1 + 1]? = some o5 := by
 have := xL ((((w.alloc o1).alloc o2).alloc o3).alloc o4) o5
 simpa using this
theorem lW (w : World) (o1 o2 o3 o4 o5 : Obj) : (((((w.alloc o1).alloc o2).alloc o3).alloc o4).alloc o5).heap[w.heap.size + 1 + 1 + 1]? = some o4 := by
 refine (xA (by simp)).trans ?_
 have := xL (((w.alloc o1).alloc o2).alloc o3) o4
 simpa using this
def Eh (W : World) (b : Nat) (x : NV) : Prop :=
 (W.cell? ⟨b, 0, none⟩ = some (.int .i64 x.k) /\ W.cell? ⟨b, 1, none⟩ = some (.string x.tx) /\ W.cell? ⟨b, 2, none⟩ = some (.int .i64 x.N) /\ W.cell? ⟨b, 3, none⟩ = some (.int .i64 x.li) /\ W.cell? ⟨b, 4, none⟩ = some (.int .i64 x.co) /\
 W.cell? ⟨b, 5, none⟩ = some (.slice x.ta x.tl x.tc) /\ W.cell? ⟨b, 6, none⟩ = some (.slice x.na x.nl x.nc) /\ W.cell? ⟨b, 7, none⟩ = some (.slice x.ka x.kl x.kc)) /\
 (W.frozen? ⟨b, 0, none⟩ = false /\ W.frozen? ⟨b, 1, none⟩ = false /\ W.frozen? ⟨b, 2, none⟩ = false /\ W.frozen? ⟨b, 3, none⟩ = false /\ W.frozen? ⟨b, 4, none⟩ = false /\ W.frozen? ⟨b, 5, none⟩ = false /\ W.frozen? ⟨b, 6, none⟩ = false /\ W.frozen? ⟨b, 7, none⟩ = false) /\ b < W.heap.size
theorem Zm {W : World} {b : Nat} {x : NV} (h : W.heap[b]? = some x.obj) : Eh W b x := by
 refine ⟨⟨?_, ?_, ?_, ?_, ?_, ?_, ?_, ?_⟩, ⟨?_, ?_, ?_, ?_, ?_, ?_, ?_, ?_⟩, xB h⟩
 all_goals first | (rw [cell_of_row _ _ _ _ _ _ h]; rfl) | simp [World.frozen?, h]
theorem Nl (t : Tok) (x : NV) (w : World) : Calls prog 123 #[F3 t, x.val] w fun e w' => e = .returned (NV.val { x with li := t.line, co := t.col }) /\ Below w.heap.size w w' := by
 obtain ⟨k, tx, li, co⟩ := t
 obtain ⟨xk, xt, xN, xl, xc, a1, a2, a3, b1, b2, b3, c1, c2, c3⟩ := x
 go_enter func123, ntmps123
 go_wp2_with fail
 go_region
 all_goals
  go_wp2_with fail;refine bodyPost_ret (results_cell_row rfl _ _ (w.heap.size + 1 + 1) 38 _ (0, 0) _ rfl (lV _ _ _ _) underlying38 rfl (by kernel_rfl)) rfl ⟨rfl, ?_⟩;exact ((((Below.refl _ w).alloc (xR) _).alloc (by simp) _).alloc (by simp; omega) _).drew
abbrev Q2 (t : Tok) (kb : Nat) : NV := ⟨14, ⟨t.text.toArray⟩, 0, t.line, t.col, none, 0, 0, none, 0, 0, some ⟨kb, 0, none⟩, 2, 2⟩
theorem tK (t : Tok) (x y : NV) (w : World) : Calls prog 146 #[F3 t, x.val, y.val] w fun e w' => ∃ kb, e = .returned (Q2 t kb).val /\ Below w.heap.size w w' /\ w.heap.size <= kb /\ w'.heap[kb]? = some (.cells #[.int .i64 x.k, .string x.tx, .int .i64 x.N, .int .i64 x.li, .int .i64 x.co, .slice x.ta x.tl x.tc, .slice x.na x.nl x.nc, .slice x.ka x.kl x.kc, .int .i64 y.k, .string y.tx, .int .i64 y.N, .int .i64 y.li, .int .i64 y.co, .slice y.ta y.tl y.tc, .slice y.na y.nl y.nc, .slice y.ka y.kl y.kc] 38) := by
 obtain ⟨k, tx, li, co⟩ := t
 obtain ⟨xk, xt, xN, xl, xc, a1, a2, a3, b1, b2, b3, c1, c2, c3⟩ := x
 obtain ⟨yk, yt, yN, yl, yc, d1, d2, d3, e1, e2, e3, f1, f2, f3⟩ := y
 obtain ⟨o1, ho1⟩ : ∃ o : Obj, o = .cells #[.int .i64 k, .string ⟨tx.toArray⟩, .int .i64 li, .int .i64 co] 81 := ⟨_, rfl⟩
 have HC := Za (fun w5 => Nl ⟨k, tx, li, co⟩ ⟨14, ⟨tx.toArray⟩, 0, 0, 0, none, 0, 0, none, 0, 0, some ⟨w.heap.size + 1 + 1 + 1 + 1, 0, none⟩, 2, 2⟩ w5)
 clear ho1
 go_enter func146, ntmps146
 go_wp2_with fail
 refine (HC.o _).mono ?_
 rintro e w1 ⟨rfl, Zt⟩
 have HB : xQ (Below w.heap.size w w1) := Zx (Zx (Zx (Zx (Zx (Zq _ _) (Zq _ _)) (Zq _ _)) (Zq _ _)) (Zq _ _)) Zt
 have HK := Za ((Zt.block (w.heap.size + 1 + 1 + 1 + 1) (by simp)).trans (lX w _ _ _ _ _))
 have hr := (Zt.block (w.heap.size + 1 + 1 + 1) (by simp)).trans (lW w _ _ _ _ _)
 have HR : xQ (w1.heap[w.heap.size + 1 + 1 + 1]? = some Zi.obj) := hr
 obtain ⟨⟨r0, r1, r2, r3, r4, r5, r6, r7⟩, ⟨f0, f1', f2', f3', f4, f5, f6, f7⟩, Yn⟩ := Zm HR.o
 clear Zt hr
 go_wp2_with fail
 refine bodyPost_ret (results_cell_row rfl _ _ (w.heap.size + 1 + 1 + 1) 38 _ (0, 0) _ rfl (Xn (x := Q2 ⟨k, tx, li, co⟩ (w.heap.size + 1 + 1 + 1 + 1)) HR.o) underlying38 rfl (by kernel_rfl)) rfl ⟨w.heap.size + 1 + 1 + 1 + 1, rfl, ?_, by omega, ?_⟩
 ·exact Sx (x := Q2 ⟨k, tx, li, co⟩ (w.heap.size + 1 + 1 + 1 + 1)) HB.o (by omega)
 ·exact (U0 (x := Q2 ⟨k, tx, li, co⟩ (w.heap.size + 1 + 1 + 1 + 1)) (by omega)).trans HK.o
theorem Jn {lo kb : Nat} {w : World} {x y : NV} {D1 D2 : Ty} (h1 : Yi lo w x D1) (h2 : Yi lo w y D2) (hk : w.heap[kb]? = some (.cells #[.int .i64 x.k, .string x.tx, .int .i64 x.N, .int .i64 x.li, .int .i64 x.co, .slice x.ta x.tl x.tc, .slice x.na x.nl x.nc, .slice x.ka x.kl x.kc, .int .i64 y.k, .string y.tx, .int .i64 y.N, .int .i64 y.li, .int .i64 y.co, .slice y.ta y.tl y.tc, .slice y.na y.nl y.nc, .slice y.ka y.kl y.kc] 38)) (Tj : lo <= kb)
  (z : NV) (tys : List Ty) (ns : List (List UInt8)) (hz : z.ka = some ⟨kb, 0, none⟩ /\ z.kl = 2) (ht : z.tl = tys.length /\ tys.length <= 100000 /\ ∃ m, Ut w lo m z.ta tys) (hn : z.nl = ns.length /\ ns.length <= 100000 /\ Ba w lo z.na ns) :
  Yi lo w z (Zn z.k z.tx.data.toList z.N z.li z.co tys ns [D1, D2]) := by
 obtain ⟨m1, h1⟩ := h1
 obtain ⟨m2, h2⟩ := h2
 obtain ⟨t1, t2, m3, t3⟩ := ht
 refine ⟨max (max m1 m2) m3 + 1, tys, ns, [D1, D2], rfl, ⟨t1, hn.1, hz.2⟩, ⟨t2, hn.2.1, (by show 2 <= _; omega)⟩, E1 t3 (Nat.le_max_right _ _), hn.2.2, .inr ⟨kb, 0, hz.1, Tj, ⟨_, _, hk⟩, fun i hi => ?_⟩⟩
 match i, hi with
 | 0, _ => exact ⟨x, ⟨by rw [cell_of_row _ _ _ _ _ _ hk]; rfl, by rw [cell_of_row _ _ _ _ _ _ hk]; rfl, by rw [cell_of_row _ _ _ _ _ _ hk]; rfl, by rw [cell_of_row _ _ _ _ _ _ hk]; rfl, by rw [cell_of_row _ _ _ _ _ _ hk]; rfl, by rw [cell_of_row _ _ _ _ _ _ hk]; rfl, by rw [cell_of_row _ _ _ _ _ _ hk]; rfl, by rw [cell_of_row _ _ _ _ _ _ hk]; rfl⟩, Ga h1 (Nat.le_trans (Nat.le_max_left _ _) (Nat.le_max_left _ _))⟩
 | 1, _ => exact ⟨y, ⟨by rw [cell_of_row _ _ _ _ _ _ hk]; rfl, by rw [cell_of_row _ _ _ _ _ _ hk]; rfl, by rw [cell_of_row _ _ _ _ _ _ hk]; rfl, by rw [cell_of_row _ _ _ _ _ _ hk]; rfl, by rw [cell_of_row _ _ _ _ _ _ hk]; rfl, by rw [cell_of_row _ _ _ _ _ _ hk]; rfl, by rw [cell_of_row _ _ _ _ _ _ hk]; rfl, by rw [cell_of_row _ _ _ _ _ _ hk]; rfl⟩, Ga h2 (Nat.le_trans (Nat.le_max_right _ _) (Nat.le_max_left _ _))⟩
theorem gK {lo kb : Nat} {w w' : World} {t : Tok} {x y : NV} {D1 D2 : Ty} (h1 : Yi lo w x D1) (h2 : Yi lo w y D2) (hb : Below w.heap.size w w') (Tj : lo <= kb) (hk : w'.heap[kb]? = some (.cells #[.int .i64 x.k, .string x.tx, .int .i64 x.N, .int .i64 x.li, .int .i64 x.co, .slice x.ta x.tl x.tc, .slice x.na x.nl x.nc, .slice x.ka x.kl x.kc, .int .i64 y.k, .string y.tx, .int .i64 y.N, .int .i64 y.li, .int .i64 y.co, .slice y.ta y.tl y.tc, .slice y.na y.nl y.nc, .slice y.ka y.kl y.kc] 38)) :
  Yi lo w' (Q2 t kb) (Zn 14 t.text 0 t.line t.col [] [] [D1, D2]) :=
 Jn (h1.below hb) (h2.below hb) hk Tj (Q2 t kb) [] [] ⟨rfl, rfl⟩ ⟨rfl, xZ _, 0, .inl rfl⟩ ⟨rfl, xZ _, .inl rfl⟩
end Go.Proofs.YtfoejkhfdiodhaaGreatDoor
namespace Go.Proofs.YtfoejkhfdiodhaaGreatDoor
open Go.Proofs.Tryz
open Go.RowKit
attribute [local go_sem ↓] Go.wp_at_zero Go.wp_at_succ
def Ax (w : World) (b : Nat) (o : Obj) : World := { w with heap := w.heap.setIfInBounds b o }
def Xj (lo nb : Nat) (w : World) (x : NV) (D : Ty) : Prop := ∀ o, Yi lo (Ax w nb o) x D
section
variable {w w' : World} {lo nb pb : Nat} {x y : NV} {D : Ty}
theorem Ef (o : Obj) : (Ax w nb o).heap.size = w.heap.size := by simp [Ax]
theorem Gh (o : Obj) {i : Nat} (hi : i ≠ nb) : (Ax w nb o).heap[i]? = w.heap[i]? := by
 unfold Ax
 simp only [Array.getElem?_setIfInBounds]
 rw [if_neg (fun e => hi e.symm)]
theorem yT (o : Obj) (h : nb < w.heap.size) : (Ax w nb o).heap[nb]? = some o := by
 unfold Ax
 simp [h]
theorem Xj.keep (h : Xj lo nb w x D) (hn : nb < w.heap.size) (hs : w.heap.size <= w'.heap.size) (hk : ∀ b, lo <= b -> b < w.heap.size -> b ≠ nb -> w'.heap[b]? = w.heap[b]?) : Xj lo nb w' x D := fun o =>
 (h o).keep (by rw [Ef, Ef]; exact hs) fun b hb hl => by
  rw [Ef] at hl;by_cases e : b = nb
  ·subst e
   rw [yT o (by omega), yT o hn]
  ·rw [Gh o e, Gh o e]
   exact hk b hb hl e
theorem Xj.now (h : Xj lo nb w x D) (hn : nb < w.heap.size) : Yi lo w x D := by
 obtain ⟨o, ho⟩ : ∃ o, w.heap[nb]? = some o := ⟨_, Array.getElem?_eq_getElem hn⟩
 refine (h o).keep (by rw [Ef]; exact xR) fun b hb hl => ?_
 by_cases e : b = nb
 ·subst e
  rw [yT o hn, ho]
 ·rw [Gh o e]
theorem Xj.stay (h : Xj lo nb w x D) (hn : nb < w.heap.size) (hs : Zl pb w w') (hp : pb < lo) : Xj lo nb w' x D := h.keep hn hs.size fun b hb hl _ => hs.keep b (by omega) hl
theorem Xj.below (h : Xj lo nb w x D) (hn : nb < w.heap.size) (hb : Below w.heap.size w w') : Xj lo nb w' x D := h.keep hn hb.size fun b _ hl _ => hb.block b hl
theorem Xj.alloc (h : Xj lo nb w x D) (hn : nb < w.heap.size) (o : Obj) : Xj lo nb (w.alloc o) x D := h.below hn (Zq _ _)
theorem Xj.put8 (h : Xj lo nb w x D) (hn : nb < w.heap.size) (y : NV) : Xj lo nb (put8 w nb y) x D := h.keep hn (by rw [Q3]; exact xR) fun b _ _ e => U0 e
theorem I2 (h : Yi lo w x D) (o : Obj) : Xj lo w.heap.size (w.alloc o) x D := fun o' =>
 h.keep (by rw [Ef]; simp) fun b _ hl => (Gh o' (by omega)).trans (xA hl)
theorem I1 {lo' : Nat} (h : Yi lo' w x D) (hl : nb < lo') (Tj : lo <= lo') : Xj lo nb w x D := fun o =>
 (h.keep (by rw [Ef]; exact xR) fun b hb _ => Gh o (by omega)).lower Tj
theorem gL {kb : Nat} {t : Tok} {D1 D2 : Ty} (h1 : Xj lo nb w x D1) (h2 : Xj lo nb w y D2) (hn : nb < w.heap.size) (hb : Below w.heap.size w w') (Tj : lo <= kb) (hnk : kb ≠ nb) (hk : w'.heap[kb]? = some (.cells #[.int .i64 x.k, .string x.tx, .int .i64 x.N, .int .i64 x.li, .int .i64 x.co, .slice x.ta x.tl x.tc, .slice x.na x.nl x.nc, .slice x.ka x.kl x.kc, .int .i64 y.k, .string y.tx, .int .i64 y.N, .int .i64 y.li, .int .i64 y.co, .slice y.ta y.tl y.tc, .slice y.na y.nl y.nc, .slice y.ka y.kl y.kc] 38)) :
  Xj lo nb w' (Q2 t kb) (Zn 14 t.text 0 t.line t.col [] [] [D1, D2]) := fun o =>
 Jn (h1.below hn hb o) (h2.below hn hb o) ((Gh o hnk).trans hk) Tj (Q2 t kb) [] [] ⟨rfl, rfl⟩ ⟨rfl, xZ _, 0, .inl rfl⟩ ⟨rfl, xZ _, .inl rfl⟩
end
theorem Lp.stay {w w1 : World} {xb pb : Nat} {L : List (List UInt8)} (h : Lp w xb L) (hs : Zl pb w w1) (hp : pb < xb) : Lp w1 xb L :=
 ⟨xT h.1 hs.size, fun i hi => (World.cell?_of_block (w := w) (a := ⟨xb, i, none⟩) (hs.keep xb hp h.1)).trans (h.2 i hi)⟩
def yX (W : World) (b : Nat) (x : NV) : Prop := W.cell? ⟨b, 0, none⟩ = some (.int .i64 x.k) /\ W.cell? ⟨b, 1, none⟩ = some (.string x.tx) /\ W.cell? ⟨b, 2, none⟩ = some (.int .i64 x.N) /\ W.cell? ⟨b, 3, none⟩ = some (.int .i64 x.li) /\ W.cell? ⟨b, 4, none⟩ = some (.int .i64 x.co) /\
 W.cell? ⟨b, 5, none⟩ = some (.slice x.ta x.tl x.tc) /\ W.cell? ⟨b, 6, none⟩ = some (.slice x.na x.nl x.nc) /\ W.cell? ⟨b, 7, none⟩ = some (.slice x.ka x.kl x.kc)
def Xr (W : World) (b : Nat) (t : Tok) : Prop := W.cell? ⟨b, 0, none⟩ = some (.int .i64 t.kind) /\ W.cell? ⟨b, 1, none⟩ = some (.string ⟨t.text.toArray⟩) /\ W.cell? ⟨b, 2, none⟩ = some (.int .i64 t.line) /\ W.cell? ⟨b, 3, none⟩ = some (.int .i64 t.col)
theorem Y1 {W : World} {b : Nat} {t : Tok} (h : W.heap[b]? = some (.cells #[.int .i64 t.kind, .string ⟨t.text.toArray⟩, .int .i64 t.line, .int .i64 t.col] 81)) : Xr W b t := (Z6 h).1
def xK (pb tb cap d nb xb : Nat) (ts : List Tok) (L : List (List UInt8)) (R : Pr Ty) (sub : Nat -> Pr Ty) (m : Nat) (w : World) (x : NV) (D : Ty) (t : Tok) (w4 : World) (y : NV) (D2 : Ty) (b2 : Nat) : Prop :=
 R = V3 ts L sub m (Zn 14 t.text 0 t.line t.col [] [] [D, D2]) b2 /\ Zl pb w w4 /\ Ps w4 pb tb cap ts b2 d /\ w4.heap[nb]? = some x.obj /\ Xj (w.heap.size + 1) nb w4 x D /\ Xj (w.heap.size + 1) nb w4 y D2 /\ w4.heap[w.heap.size]? = some Zi.obj /\ Lp w4 xb L
theorem uD {ts : List Tok} {L : List (List UInt8)} {sub : Nat -> Pr Ty} {f a : Nat} {x : Ty} (h : (L.any fun s => Zh ts a s) = false) : V3 ts L sub (f + 1) x a = .inl (x, a) := by
 rw [V3]
 have : L.find? (Zh ts a) = none := List.find?_eq_none.2 fun s hs => by
  have := List.any_eq_false.1 h s hs
  simpa using this
 rw [this]
theorem uE {ts : List Tok} {L : List (List UInt8)} {sub : Nat -> Pr Ty} {f a : Nat} {x : Ty} (h : (L.any fun s => Zh ts a s) = true) : V3 ts L sub (f + 1) x a = (sub (a + 1)).go fun y b => V3 ts L sub f (Zn 14 (Zk ts a).text 0 (Zk ts a).line (Zk ts a).col [] [] [x, y]) b := by
 rw [V3]
 obtain ⟨s, hs, h2⟩ := List.any_eq_true.1 h
 have : (L.find? (Zh ts a)).isSome = true := List.find?_isSome.2 ⟨s, hs, h2⟩
 obtain ⟨q, hq⟩ := Option.isSome_iff_exists.1 this
 have Ji := List.find?_some hq
 have hqt : q = (Zk ts a).text := by
  unfold Zh at Ji;simp only [Bool.and_eq_true, beq_iff_eq] at Ji;exact Ji.2.symm
 rw [hq, hqt]
 rfl
theorem E9 (pb tb cap d xb xc : Nat) (ts : List Tok) (L : List (List UInt8)) (hl : L.length <= 100) (g : Nat) (sub : Nat -> Pr Ty) (hg : Xg pb tb cap d ts Z4 g sub)
  (a : Nat) (w : World) (h : Ps w pb tb cap ts a d) (hL : Lp w xb L) (Uj : pb < xb) (ok : Yh ts) :
  Calls prog 124 #[pP pb, .func (.func g) #[] #[], .slice (some ⟨xb, 0, none⟩) L.length xc] w (Z7 pb tb cap ts d w Z4 ((sub a).go fun x a => V3 ts L sub ts.length x a)) := by
 have H := Za h
 have OK := Za ok
 have HG := Za hg
 have HL := Za hL
 have Vv := hg.enters
 have hp := h.ltp
 obtain ⟨R, hR⟩ := xE (((sub a).go fun x a => V3 ts L sub ts.length x a))
 rw [<- hR]
 have Qn := Za hR
 clear h ok hg hL hR
 go_enter func124, ntmps124
 go_wp2_with fail
 refine (HG.o.calls a _ (H.o.alloc _)).mono ?_
 rintro e w1 ⟨Zb, Zg⟩
 have Zu := Za ((Zl.of hp (Zq _ _)).trans Zb)
 have HST' := Za Zb
 have HR := Za ((Zb.keep _ hp (by simp)).trans (xL w Zi.obj))
 clear Zb
 rcases hs : sub a with ⟨D, b⟩ | ⟨er, li, co⟩
 case inr =>
  rw [hs] at Zg
  have HE : xQ (R = .inr (er, li, co)) := by show _ = _; simp only [Qn.o, hs, tZ]
  subst Zg;clear hs;go_wp2_with fail;exact ⟨rfl, Zu.o, by rw [HE.o]⟩
 rw [hs] at Zg
 obtain ⟨Zc, v, rfl, x, rfl, hv⟩ := Zg
 have HRA : xQ (R = V3 ts L sub ts.length D b) := by show _ = _; simp only [Qn.o, hs, Km]
 have HP := Za Zc
 have HT := Za hv
 have HU := Za (HG.o.up _ _ _ hs)
 clear Zc hv hs Qn
 obtain ⟨nb, Wb⟩ := xE w1.heap.size
 have HNb := Za Wb
 have Wk : w.heap.size < nb := by rw [Wb]; exact xB HR.o
 have Mn : xQ (Xj (w.heap.size + 1) nb (w1.alloc x.obj) x D) := by rw [Wb]; exact I2 (by simpa using HT.o) _
 have HN0 : xQ ((w1.alloc x.obj).heap[nb]? = some x.obj) := by rw [Wb]; exact xL _ _
 have Kd : xQ (Lp (w1.alloc x.obj) xb L) := by
  have h1 := (HL.o.below (Zq w Zi.obj)).stay HST'.o Uj;exact h1.below (Zq _ _)
 go_wp2_with fail
 rw [<- Wb]
 clear Wb
 go_loopg [8] (ts.length - b) (fun gk _ wr => ∃ (b m : Nat) (x : NV) (D : Ty), xQ (wr.heap[nb]? = some x.obj) /\ xQ (Xj (w.heap.size + 1) nb wr x D) /\ xQ (Zl pb w wr) /\ xQ (Ps wr pb tb cap ts b d) /\ xQ (wr.heap[w.heap.size]? = some Zi.obj) /\ xQ (Lp wr xb L) /\ xQ (R = V3 ts L sub m D b) /\ xQ (ts.length <= b + m) /\ ts.length - b <= gk)
 case atStart => exact ⟨b, ts.length, x, D, HN0, Mn, Zu.o.alloc hp _, HP.o.alloc _, (xA (xB HR.o)).trans HR.o, Kd, HRA, Nat.le_add_left _ _, xR⟩
 case round =>
  clear Mn HN0 Kd HP HT HU HRA Zu HR HST' HNb;obtain ⟨b, m, x, D, HN, HX, Wy, Vy, HR, Kd, HRA, U1, Ts⟩ := hrel;have HI := Za (is_r pb tb cap b xb xc ts L wr Vy.o.rd Kd.o hl)
  obtain ⟨m, rfl⟩ : ∃ q, m = q + 1 := ⟨m - 1, by have := U1.o; have := Vy.o.lt; omega⟩
  cases hs : L.any fun s => Zh ts b s with
  | false =>
   have HE := Za (HRA.o.trans (uD hs));rw [hs] at HI;clear hs;go_wp2_with fail;refine HI.o.mono ?_;rintro e w2 ⟨rfl, Z0⟩;have Gi := Za (Wy.o.trans (Zl.of Vy.o.ltp Z0));have HPS2 := Za (Vy.o.below Z0);have Zv := Za (HX.o.below (xB HN.o) Z0);have Zz := Za ((Z0.block _ (xB HR.o)).trans HR.o);have Xz := Za ((Z0.block _ (xB HN.o)).trans HN.o);obtain ⟨⟨r0, r1, r2, r3, r4, r5, r6, r7⟩, ⟨f0, f1, f2, f3, f4, f5, f6, f7⟩, Yn⟩ := Zm Zz.o
   obtain ⟨⟨n0, n1, n2, n3, n4, n5, n6, n7⟩, _, Kj⟩ := Zm Xz.o
   have Z3 : ¬ nb = w.heap.size := by omega
   clear Z0;go_wp2_with fail;rw [HE.o];refine r38 rfl rfl (Xn (x := x) Zz.o) rfl ⟨Wg Gi.o hp (xR) x, Wn HPS2.o hp x, _, rfl, x, rfl, ?_⟩;exact ((Zv.o.now Kj).put8 (xU _) x).lower (Nat.le_succ _)
  | true =>
   have HRB := Za (HRA.o.trans (uE hs))
   have Ji : ∃ s, Zh ts b s = true := by
    obtain ⟨s, _, h2⟩ := List.any_eq_true.1 hs;exact ⟨s, h2⟩
   have HNx : xQ (b + 1 < ts.length) := by
    obtain ⟨s, h2⟩ := Ji;exact Q4 OK.o.ends Vy.o.lt h2
   rw [hs] at HI;clear hs Ji;obtain ⟨t, ht⟩ := xE (Zk ts b);rw [<- ht] at HRB;go_wp2_with fail;refine HI.o.mono ?_;rintro e w2 ⟨rfl, Z0⟩;have Gi := Za (Wy.o.trans (Zl.of Vy.o.ltp Z0));have HPS2 := Za (Vy.o.below Z0);have Zv := Za (HX.o.below (xB HN.o) Z0);have Zz := Za ((Z0.block _ (xB HR.o)).trans HR.o);have Xz := Za ((Z0.block _ (xB HN.o)).trans HN.o);have Jz := Za (Kd.o.below Z0);clear Z0;go_wp2_with fail
   refine (Bq pb tb cap b d ts _ HPS2.o HNx.o OK.o.len).mono ?_;rw [<- ht];rintro e w3 ⟨rfl, Zb, Zc⟩;have HPs3 : xQ (pb < w3.heap.size) := Zc.ltp;have V8 := Za ((Gi.o.trans Zb).alloc hp (.cells #[.int .i64 t.kind, .string ⟨t.text.toArray⟩, .int .i64 t.line, .int .i64 t.col] 81));have Kz := Za (Zc.alloc (.cells #[.int .i64 t.kind, .string ⟨t.text.toArray⟩, .int .i64 t.line, .int .i64 t.col] 81));have Tq := Za ((Zv.o.stay (xB Xz.o) Zb (by omega)).alloc (xT (xB Xz.o) Zb.size) (.cells #[.int .i64 t.kind, .string ⟨t.text.toArray⟩, .int .i64 t.line, .int .i64 t.col] 81))
   have Yt := Za ((Below.heap_alloc w3 (.cells #[.int .i64 t.kind, .string ⟨t.text.toArray⟩, .int .i64 t.line, .int .i64 t.col] 81) _ (xT (xB Zz.o) Zb.size)).trans ((Zb.keep _ hp (xB Zz.o)).trans Zz.o));have Pp := Za ((Below.heap_alloc w3 (.cells #[.int .i64 t.kind, .string ⟨t.text.toArray⟩, .int .i64 t.line, .int .i64 t.col] 81) _ (xT (xB Xz.o) Zb.size)).trans ((Zb.keep _ (by omega) (xB Xz.o)).trans Xz.o))
   have Kc := Za ((Jz.o.stay Zb Uj).below (Zq _ (.cells #[.int .i64 t.kind, .string ⟨t.text.toArray⟩, .int .i64 t.line, .int .i64 t.col] 81)));have HCw := Za (Zm ((Zb.keep _ (by omega) (xB Xz.o)).trans Xz.o)).1;have HLw := Za (xT (xB Xz.o) Zb.size);have HTb := Za (xL w3 (.cells #[.int .i64 t.kind, .string ⟨t.text.toArray⟩, .int .i64 t.line, .int .i64 t.col] 81));clear Zb Zc ht
   have HC : xQ (Calls prog g #[pP pb] (w3.alloc (.cells #[.int .i64 t.kind, .string ⟨t.text.toArray⟩, .int .i64 t.line, .int .i64 t.col] 81)).drew fun e w4 => (∃ chain, e = .panicked chain /\ Z7 pb tb cap ts d w Z4 R e w4) ∨
     ∃ (y : NV) (D2 : Ty) (b2 : Nat), e = .returned y.val /\ yX w4 nb x /\ Xr w4 w3.heap.size t /\ xQ (xK pb tb cap d nb xb ts L R sub m w x D t w4 y D2 b2 /\ b + 1 <= b2)) := by
    refine (HG.o.calls (b + 1) _ Kz.o.drew).mono ?_;rintro e w4 ⟨hst', Zg⟩;have Zb := hst'.undrew;have hst4 := V8.o.trans Zb;rcases hk : sub (b + 1) with ⟨D2, b2⟩ | ⟨er, li, co⟩
    ·rw [hk] at Zg
     obtain ⟨Zc, v, rfl, y, rfl, hv⟩ := Zg;have hn4 := (Zb.keep nb (by omega) (xB Pp.o)).trans Pp.o;refine .inr ⟨y, D2, b2, rfl, (Zm hn4).1, Y1 ((Zb.keep w3.heap.size (by have := HPS2.o.ltp; have := HPs3.o; omega) (xB HTb.o)).trans HTb.o), ⟨by rw [HRB.o, hk]; rfl, hst4, Zc, hn4, Tq.o.stay (xB Pp.o) Zb (by omega), I1 hv (xB Pp.o) (xB Yt.o), (Zb.keep _ hp (xB Yt.o)).trans Yt.o, Kc.o.stay Zb Uj⟩, HG.o.up _ _ _ hk⟩
    ·rw [hk] at Zg
     subst Zg;exact .inl ⟨_, rfl, hst4, by rw [HRB.o, hk]; rfl⟩
   have Q6 : xQ (∀ (w4 : World) (y : NV) (D2 : Ty) (b2 : Nat), xQ (xK pb tb cap d nb xb ts L R sub m w x D t w4 y D2 b2 /\ b + 1 <= b2) -> Calls prog 146 #[F3 t, x.val, y.val] w4 fun e w5 => ∃ kb, e = .returned (Q2 t kb).val /\ Eh w5 nb x /\ xQ ((put8 w5 nb (Q2 t kb)).heap[nb]? = some (Q2 t kb).obj /\ Xj (w.heap.size + 1) nb (put8 w5 nb (Q2 t kb)) (Q2 t kb) (Zn 14 t.text 0 t.line t.col [] [] [D, D2]) /\ Zl pb w (put8 w5 nb (Q2 t kb)) /\ Ps (put8 w5 nb (Q2 t kb)) pb tb cap ts b2 d /\ (put8 w5 nb (Q2 t kb)).heap[w.heap.size]? = some Zi.obj /\ Lp (put8 w5 nb (Q2 t kb)) xb L /\ R = V3 ts L sub m (Zn 14 t.text 0 t.line t.col [] [] [D, D2]) b2 /\ b + 1 <= b2)) := by
    intro w4 y D2 b2 hh;obtain ⟨⟨q1, q2, q3, q4, q5, q6, q7, q8⟩, q9⟩ := hh.o;refine (tK t x y w4).mono ?_;rintro e w5 ⟨kb, rfl, hb, Wv, hk⟩;have hn5 := (hb.block nb (xB q4)).trans q4;have hnb4 := xB q4;have hx5 := gL (t := t) q5 q6 hnb4 hb (by omega) (by omega) hk;refine ⟨kb, rfl, Zm hn5, Xn hn5, hx5.put8 (xB hn5) _, Wg (q2.trans (Zl.of q3.ltp hb)) hp (by omega) _, Wn (q3.below hb) (by omega) _, ?_, ?_, q1, q9⟩
    ·exact (U0 (by omega)).trans ((hb.block _ (xB q7)).trans q7)
    ·have h8 := q8.below hb
     exact ⟨by rw [Q3]; exact h8.1, fun i hi => (World.cell?_of_block (w := w5) (a := ⟨xb, i, none⟩) (U0 (by have := HL.o.1; show xb ≠ nb; omega))).trans (h8.2 i hi)⟩
   obtain ⟨m0, m1, m2, m3, m4, m5, m6, m7⟩ := HCw.o;have hlw3 := HLw.o;go_wp2_with fail
   go_region_with (first
    | (go_at_call 146; refine (Q6.o _ _ _ _ Q9).mono ?_; rintro e w5 ⟨kb, rfl, t8, HX5⟩; obtain ⟨⟨p0, p1, p2, p3, p4, p5, p6, p7⟩, ⟨f0, f1, f2, f3, f4, f5, f6, f7⟩, hl5⟩ := t8)
    | (refine HC.o.mono ?_; rintro e w4 (⟨ch, rfl, hf⟩ | ⟨y, D2, b2, rfl, t5, t6, Q9⟩); exact ⟨rfl, hf⟩; unfold yX at t5; unfold Xr at t6; obtain ⟨n0, n1, n2, n3, n4, n5, n6, n7⟩ := t5; obtain ⟨k0, k1, k2, k3⟩ := t6))
   all_goals
    go_wp2_with fail;obtain ⟨g1, g2, g3, g4, g5, g6, g7, g8⟩ := HX5.o
    go_roundg (ts.length - b2)
    case measure => have := g4.lt; omega
    case rel => exact ⟨b2, m, Q2 t kb, _, g1, g2, g3, g4, g5, g6, g7, (by have := U1.o; show _ <= _; omega), xR⟩
end Go.Proofs.YtfoejkhfdiodhaaGreatDoor
namespace Go.Proofs.YtfoejkhfdiodhaaGreatDoor
open Go.Proofs.Tryz
open Go.RowKit
theorem mL (pb tb cap a d g : Nat) (ts : List Tok) (r : Pr Ty) (hd : d < 100) (hg : ∀ w, Ps w pb tb cap ts a (d + 1) -> Calls prog g #[pP pb] w (Z7 pb tb cap ts (d + 1) w Z4 r)) (Vv : Mx g pb)
  (w : World) (h : Ps w pb tb cap ts a d) :
  Calls prog 43 #[pP pb, .func (.func g) #[] #[]] w (Z7 pb tb cap ts d w Z4 r) := by
 have H := Za h
 have HG := Za hg
 have hp := h.ltp
 obtain ⟨c0, c1, c2⟩ := h.cells
 have z2 := h.fz 2
 have Tr : ((d : Int) == 100) = false := by simp; omega
 clear h hg
 go_enter func43, ntmps43
 go_wp2_with fail
 rw [show ((d : Int) + 1) = ((d + 1 : Nat) : Int) by omega]
 refine (HG.o _ ((H.o.setDeep (d + 1)).alloc _)).mono ?_
 rintro e w1 ⟨Zb, Zg⟩
 have Zu : xQ (Zl pb w w1) := (((Zl.refl pb w).set 2 _).alloc hp _).trans Zb
 have HR := Za ((Zb.keep w.heap.size hp (by simp [World.setCell])).trans (vL w _ _ Zi.obj))
 have HLo : xQ (∀ x, Z7 pb tb cap ts (d + 1) ((w.setCell ⟨pb, 2, none⟩ (.int .i64 ((d + 1 : Nat) : Int))).alloc Zi.obj) Z4 (.inl x) e w1 -> Ps w1 pb tb cap ts x.2 (d + 1) /\ ∃ v, e = .returned v /\ Z4 (w.heap.size + 1) w1 v x.1) := by
  rintro ⟨x, b⟩ ⟨_, h1, v, h2, h3⟩;refine ⟨h1, v, h2, ?_⟩
  have : ((w.setCell ⟨pb, 2, none⟩ (.int .i64 ((d + 1 : Nat) : Int))).alloc Zi.obj).heap.size = w.heap.size + 1 := by simp [World.setCell]
  rw [this] at h3;exact h3
 have K0 : xQ (Z7 pb tb cap ts (d + 1) ((w.setCell ⟨pb, 2, none⟩ (.int .i64 ((d + 1 : Nat) : Int))).alloc Zi.obj) Z4 r e w1) := ⟨Zb, Zg⟩
 clear Zb Zg
 rcases r with ⟨D, b⟩ | ⟨er, li, co⟩
 case inr =>
  obtain ⟨_, rfl⟩ := K0.o;go_wp2_with fail;exact ⟨rfl, Zu.o, rfl⟩
 obtain ⟨Zc, v, rfl, x, rfl, hv⟩ := HLo.o _ K0.o
 have HP := Za Zc
 have HT := Za hv
 clear Zc hv K0 HLo c0 c1 c2 z2
 obtain ⟨c0, c1, c2⟩ := HP.o.cells
 have z2 := HP.o.fz 2
 have Qi := HP.o.ltp
 obtain ⟨⟨r0, r1, r2, r3, r4, r5, r6, r7⟩, ⟨f0, f1, f2, f3, f4, f5, f6, f7⟩, Yn⟩ := Zm HR.o
 have hpw : ¬ pb = w.heap.size := by omega
 have hpw' : ¬ w.heap.size = pb := by omega
 have Z3 : ¬ w1.heap.size = w.heap.size := by omega
 have hne' : ¬ w1.heap.size = pb := by omega
 go_wp2_with fail
 refine r38 rfl rfl ((xA (by rw [Q3 (x := x), Ye]; exact Yn)).trans (Xn (x := x) ((xH hpw').trans HR.o))) rfl ⟨(Wg (Zu.o.set 2 _) hp (xR) x).alloc hp _, (Wn (HP.o.setDeep d) hp x).alloc _, _, rfl, x, rfl, ?_⟩
 exact (((HT.o.set1 (by omega) _ _).put8 (xU _) x).alloc _).lower (Nat.le_succ _)
theorem mM (pb tb cap a g : Nat) (ts : List Tok) (w : World) (h : Ps w pb tb cap ts a 100) :
  Calls prog 43 #[pP pb, .func (.func g) #[] #[]] w (Z7 pb tb cap ts 100 w Z4 (Wa ts 6 a)) := by
 have H := Za h
 have hp := h.ltp
 obtain ⟨c0, c1, c2⟩ := h.cells
 clear h
 go_enter func43, ntmps43
 go_wp2_with fail
 refine (Az pb tb cap a 100 ts _ (H.o.alloc _) 6).mono ?_
 rintro e w2 ⟨rfl, Z0⟩
 have Yx := Za (Zx (Zq _ _) Z0)
 clear Z0
 go_wp2_with fail
 exact ⟨rfl, Zl.of hp Yx.o, rfl⟩
theorem wM (pb tb cap d : Nat) (ts : List Tok) (r : Pr Ty) (w : World) (hw : ∀ w1, Below w.heap.size w w1 -> Calls prog 43 #[pP pb, .func (.func 44) #[] #[]] w1 (Z7 pb tb cap ts d w1 Z4 r)) (hp : pb < w.heap.size) :
  Calls prog 19 #[pP pb] w (Z7 pb tb cap ts d w Z4 r) := by
 have HW := Za hw
 clear hw
 go_enter func19, ntmps19
 go_wp2_with fail
 refine (HW.o _ (Zq _ _)).mono ?_
 rintro e w1 ⟨Zb, Zg⟩
 have Zu := Za ((Zl.of hp (Zq _ _)).trans Zb)
 have HR := Za ((Zb.keep _ hp (by simp)).trans (xL w Zi.obj))
 have HSz : xQ (w.heap.size + 1 = (w.alloc Zi.obj).heap.size) := by show _ = _; simp
 clear Zb
 rcases r with ⟨D, b⟩ | ⟨er, li, co⟩
 case inr =>
  subst Zg;go_wp2_with fail;exact ⟨rfl, Zu.o, rfl⟩
 obtain ⟨Zc, v, rfl, x, rfl, hv⟩ := Zg
 have HP := Za Zc
 have HT := Za hv
 obtain ⟨⟨r0, r1, r2, r3, r4, r5, r6, r7⟩, ⟨f0, f1, f2, f3, f4, f5, f6, f7⟩, Yn⟩ := Zm HR.o
 clear Zc hv
 go_wp2_with fail
 refine r38 rfl rfl (Xn (x := x) HR.o) rfl ⟨Wg Zu.o hp (xR) x, Wn HP.o hp x, _, rfl, x, rfl, ?_⟩
 exact (HT.o.put8 (by simp) x).lower (by simp)
theorem pY (pb tb cap d : Nat) (ts : List Tok) (r : Pr Ty) (w : World) (hw : ∀ w1, Below w.heap.size w w1 -> Calls prog 43 #[pP pb, .func (.func 179) #[] #[]] w1 (Z7 pb tb cap ts d w1 Z4 r)) (hp : pb < w.heap.size) :
  Calls prog 178 #[pP pb] w (Z7 pb tb cap ts d w Z4 r) := by
 have HW := Za hw
 clear hw
 go_enter func178, ntmps178
 go_wp2_with fail
 refine (HW.o _ (Zq _ _)).mono ?_
 rintro e w1 ⟨Zb, Zg⟩
 have Zu := Za ((Zl.of hp (Zq _ _)).trans Zb)
 have HR := Za ((Zb.keep _ hp (by simp)).trans (xL w Zi.obj))
 have HSz : xQ (w.heap.size + 1 = (w.alloc Zi.obj).heap.size) := by show _ = _; simp
 clear Zb
 rcases r with ⟨D, b⟩ | ⟨er, li, co⟩
 case inr =>
  subst Zg;go_wp2_with fail;exact ⟨rfl, Zu.o, rfl⟩
 obtain ⟨Zc, v, rfl, x, rfl, hv⟩ := Zg
 have HP := Za Zc
 have HT := Za hv
 obtain ⟨⟨r0, r1, r2, r3, r4, r5, r6, r7⟩, ⟨f0, f1, f2, f3, f4, f5, f6, f7⟩, Yn⟩ := Zm HR.o
 clear Zc hv
 go_wp2_with fail
 refine r38 rfl rfl (Xn (x := x) HR.o) rfl ⟨Wg Zu.o hp (xR) x, Wn HP.o hp x, _, rfl, x, rfl, ?_⟩
 exact (HT.o.put8 (by simp) x).lower (by simp)
theorem aS (pb : Nat) : Mx 175 pb := fun w => Bi func175 (by kernel_rfl) (by kernel_rfl) _ w
theorem fT (pb tb cap d : Nat) (ts : List Tok) (sub : Nat -> Pr Ty) (hg : Xg pb tb cap d ts Z4 178 sub) (ok : Yh ts) (a : Nat) (w : World) (h : Ps w pb tb cap ts a d) :
  Calls prog 175 #[pP pb] w (Z7 pb tb cap ts d w Z4 ((sub a).go fun x a => V3 ts [[42], [47], [37], [38], [60, 60], [62, 62]] sub ts.length x a)) := by
 have hp := h.ltp
 have HW := Za (E9 pb tb cap d (w.heap.size + 1) 6 ts [[42], [47], [37], [38], [60, 60], [62, 62]] (by simp) _ sub hg a ((w.alloc Zi.obj).alloc (.cells (([[42], [47], [37], [38], [60, 60], [62, 62]] : List (List UInt8)).map fun s => Value.string ⟨s.toArray⟩).toArray 9)) ((h.alloc _).alloc _) (At (w.alloc Zi.obj) [[42], [47], [37], [38], [60, 60], [62, 62]] _ _ (by simp)) (by omega) ok)
 clear h hg ok
 obtain ⟨r, hr⟩ := xE (((sub a).go fun x a => V3 ts [[42], [47], [37], [38], [60, 60], [62, 62]] sub ts.length x a))
 rw [<- hr] at HW ⊢
 clear hr
 go_enter func175, ntmps175
 go_wp2_with fail
 refine HW.o.mono ?_
 rintro e w1 ⟨Zb, Zg⟩
 have Zu := Za ((Zl.of hp (Zx (Zq _ _) (Zq _ _))).trans Zb)
 have HR := Za ((Zb.keep w.heap.size hp (by rw [xS, xS]; omega)).trans ((xA (by simp)).trans (xL w Zi.obj)))
 clear Zb
 rcases r with ⟨D, b⟩ | ⟨er, li, co⟩
 case inr =>
  subst Zg;go_wp2_with fail;exact ⟨rfl, Zu.o, rfl⟩
 obtain ⟨Zc, v, rfl, x, rfl, hv⟩ := Zg
 have HP := Za Zc
 have HT := Za hv
 obtain ⟨⟨r0, r1, r2, r3, r4, r5, r6, r7⟩, ⟨f0, f1, f2, f3, f4, f5, f6, f7⟩, Yn⟩ := Zm HR.o
 clear Zc hv
 go_wp2_with fail
 refine r38 rfl rfl (Xn (x := x) HR.o) rfl ⟨Wg Zu.o hp (xR) x, Wn HP.o hp x, _, rfl, x, rfl, ?_⟩
 exact (HT.o.put8 (by rw [xS, xS]; omega) x).lower (by rw [xS, xS]; omega)
theorem aP (pb : Nat) : Mx 167 pb := fun w => Bi func167 (by kernel_rfl) (by kernel_rfl) _ w
theorem psum_c (pb tb cap d : Nat) (ts : List Tok) (sub : Nat -> Pr Ty) (hg : Xg pb tb cap d ts Z4 175 sub) (ok : Yh ts) (a : Nat) (w : World) (h : Ps w pb tb cap ts a d) :
  Calls prog 167 #[pP pb] w (Z7 pb tb cap ts d w Z4 ((sub a).go fun x a => V3 ts [[43], [45], [94]] sub ts.length x a)) := by
 have hp := h.ltp
 have HW := Za (E9 pb tb cap d (w.heap.size + 1) 3 ts [[43], [45], [94]] (by simp) _ sub hg a ((w.alloc Zi.obj).alloc (.cells (([[43], [45], [94]] : List (List UInt8)).map fun s => Value.string ⟨s.toArray⟩).toArray 9)) ((h.alloc _).alloc _) (At (w.alloc Zi.obj) [[43], [45], [94]] _ _ (by simp)) (by omega) ok)
 clear h hg ok
 obtain ⟨r, hr⟩ := xE (((sub a).go fun x a => V3 ts [[43], [45], [94]] sub ts.length x a))
 rw [<- hr] at HW ⊢
 clear hr
 go_enter func167, ntmps167
 go_wp2_with fail
 refine HW.o.mono ?_
 rintro e w1 ⟨Zb, Zg⟩
 have Zu := Za ((Zl.of hp (Zx (Zq _ _) (Zq _ _))).trans Zb)
 have HR := Za ((Zb.keep w.heap.size hp (by rw [xS, xS]; omega)).trans ((xA (by simp)).trans (xL w Zi.obj)))
 clear Zb
 rcases r with ⟨D, b⟩ | ⟨er, li, co⟩
 case inr =>
  subst Zg;go_wp2_with fail;exact ⟨rfl, Zu.o, rfl⟩
 obtain ⟨Zc, v, rfl, x, rfl, hv⟩ := Zg
 have HP := Za Zc
 have HT := Za hv
 obtain ⟨⟨r0, r1, r2, r3, r4, r5, r6, r7⟩, ⟨f0, f1, f2, f3, f4, f5, f6, f7⟩, Yn⟩ := Zm HR.o
 clear Zc hv
 go_wp2_with fail
 refine r38 rfl rfl (Xn (x := x) HR.o) rfl ⟨Wg Zu.o hp (xR) x, Wn HP.o hp x, _, rfl, x, rfl, ?_⟩
 exact (HT.o.put8 (by rw [xS, xS]; omega) x).lower (by rw [xS, xS]; omega)
theorem bL (pb : Nat) : Mx 157 pb := fun w => Bi func157 (by kernel_rfl) (by kernel_rfl) _ w
theorem pcat_c (pb tb cap d : Nat) (ts : List Tok) (sub : Nat -> Pr Ty) (hg : Xg pb tb cap d ts Z4 167 sub) (ok : Yh ts) (a : Nat) (w : World) (h : Ps w pb tb cap ts a d) :
  Calls prog 157 #[pP pb] w (Z7 pb tb cap ts d w Z4 ((sub a).go fun x a => V3 ts [[43, 43]] sub ts.length x a)) := by
 have hp := h.ltp
 have HW := Za (E9 pb tb cap d (w.heap.size + 1) 1 ts [[43, 43]] (by simp) _ sub hg a ((w.alloc Zi.obj).alloc (.cells (([[43, 43]] : List (List UInt8)).map fun s => Value.string ⟨s.toArray⟩).toArray 9)) ((h.alloc _).alloc _) (At (w.alloc Zi.obj) [[43, 43]] _ _ (by simp)) (by omega) ok)
 clear h hg ok
 obtain ⟨r, hr⟩ := xE (((sub a).go fun x a => V3 ts [[43, 43]] sub ts.length x a))
 rw [<- hr] at HW ⊢
 clear hr
 go_enter func157, ntmps157
 go_wp2_with fail
 refine HW.o.mono ?_
 rintro e w1 ⟨Zb, Zg⟩
 have Zu := Za ((Zl.of hp (Zx (Zq _ _) (Zq _ _))).trans Zb)
 have HR := Za ((Zb.keep w.heap.size hp (by rw [xS, xS]; omega)).trans ((xA (by simp)).trans (xL w Zi.obj)))
 clear Zb
 rcases r with ⟨D, b⟩ | ⟨er, li, co⟩
 case inr =>
  subst Zg;go_wp2_with fail;exact ⟨rfl, Zu.o, rfl⟩
 obtain ⟨Zc, v, rfl, x, rfl, hv⟩ := Zg
 have HP := Za Zc
 have HT := Za hv
 obtain ⟨⟨r0, r1, r2, r3, r4, r5, r6, r7⟩, ⟨f0, f1, f2, f3, f4, f5, f6, f7⟩, Yn⟩ := Zm HR.o
 clear Zc hv
 go_wp2_with fail
 refine r38 rfl rfl (Xn (x := x) HR.o) rfl ⟨Wg Zu.o hp (xR) x, Wn HP.o hp x, _, rfl, x, rfl, ?_⟩
 exact (HT.o.put8 (by rw [xS, xS]; omega) x).lower (by rw [xS, xS]; omega)
theorem nB (pb : Nat) : Mx 125 pb := fun w => Bi func125 (by kernel_rfl) (by kernel_rfl) _ w
theorem pand_c (pb tb cap d : Nat) (ts : List Tok) (sub : Nat -> Pr Ty) (hg : Xg pb tb cap d ts Z4 147 sub) (ok : Yh ts) (a : Nat) (w : World) (h : Ps w pb tb cap ts a d) :
  Calls prog 125 #[pP pb] w (Z7 pb tb cap ts d w Z4 ((sub a).go fun x a => V3 ts [[97, 110, 100]] sub ts.length x a)) := by
 have hp := h.ltp
 have HW := Za (E9 pb tb cap d (w.heap.size + 1) 1 ts [[97, 110, 100]] (by simp) _ sub hg a ((w.alloc Zi.obj).alloc (.cells (([[97, 110, 100]] : List (List UInt8)).map fun s => Value.string ⟨s.toArray⟩).toArray 9)) ((h.alloc _).alloc _) (At (w.alloc Zi.obj) [[97, 110, 100]] _ _ (by simp)) (by omega) ok)
 clear h hg ok
 obtain ⟨r, hr⟩ := xE (((sub a).go fun x a => V3 ts [[97, 110, 100]] sub ts.length x a))
 rw [<- hr] at HW ⊢
 clear hr
 go_enter func125, ntmps125
 go_wp2_with fail
 refine HW.o.mono ?_
 rintro e w1 ⟨Zb, Zg⟩
 have Zu := Za ((Zl.of hp (Zx (Zq _ _) (Zq _ _))).trans Zb)
 have HR := Za ((Zb.keep w.heap.size hp (by rw [xS, xS]; omega)).trans ((xA (by simp)).trans (xL w Zi.obj)))
 clear Zb
 rcases r with ⟨D, b⟩ | ⟨er, li, co⟩
 case inr =>
  subst Zg;go_wp2_with fail;exact ⟨rfl, Zu.o, rfl⟩
 obtain ⟨Zc, v, rfl, x, rfl, hv⟩ := Zg
 have HP := Za Zc
 have HT := Za hv
 obtain ⟨⟨r0, r1, r2, r3, r4, r5, r6, r7⟩, ⟨f0, f1, f2, f3, f4, f5, f6, f7⟩, Yn⟩ := Zm HR.o
 clear Zc hv
 go_wp2_with fail
 refine r38 rfl rfl (Xn (x := x) HR.o) rfl ⟨Wg Zu.o hp (xR) x, Wn HP.o hp x, _, rfl, x, rfl, ?_⟩
 exact (HT.o.put8 (by rw [xS, xS]; omega) x).lower (by rw [xS, xS]; omega)
theorem gQ (pb : Nat) : Mx 84 pb := fun w => Bi func84 (by kernel_rfl) (by kernel_rfl) _ w
theorem por_c (pb tb cap d : Nat) (ts : List Tok) (sub : Nat -> Pr Ty) (hg : Xg pb tb cap d ts Z4 125 sub) (ok : Yh ts) (a : Nat) (w : World) (h : Ps w pb tb cap ts a d) :
  Calls prog 84 #[pP pb] w (Z7 pb tb cap ts d w Z4 ((sub a).go fun x a => V3 ts [[111, 114]] sub ts.length x a)) := by
 have hp := h.ltp
 have HW := Za (E9 pb tb cap d (w.heap.size + 1) 1 ts [[111, 114]] (by simp) _ sub hg a ((w.alloc Zi.obj).alloc (.cells (([[111, 114]] : List (List UInt8)).map fun s => Value.string ⟨s.toArray⟩).toArray 9)) ((h.alloc _).alloc _) (At (w.alloc Zi.obj) [[111, 114]] _ _ (by simp)) (by omega) ok)
 clear h hg ok
 obtain ⟨r, hr⟩ := xE (((sub a).go fun x a => V3 ts [[111, 114]] sub ts.length x a))
 rw [<- hr] at HW ⊢
 clear hr
 go_enter func84, ntmps84
 go_wp2_with fail
 refine HW.o.mono ?_
 rintro e w1 ⟨Zb, Zg⟩
 have Zu := Za ((Zl.of hp (Zx (Zq _ _) (Zq _ _))).trans Zb)
 have HR := Za ((Zb.keep w.heap.size hp (by rw [xS, xS]; omega)).trans ((xA (by simp)).trans (xL w Zi.obj)))
 clear Zb
 rcases r with ⟨D, b⟩ | ⟨er, li, co⟩
 case inr =>
  subst Zg;go_wp2_with fail;exact ⟨rfl, Zu.o, rfl⟩
 obtain ⟨Zc, v, rfl, x, rfl, hv⟩ := Zg
 have HP := Za Zc
 have HT := Za hv
 obtain ⟨⟨r0, r1, r2, r3, r4, r5, r6, r7⟩, ⟨f0, f1, f2, f3, f4, f5, f6, f7⟩, Yn⟩ := Zm HR.o
 clear Zc hv
 go_wp2_with fail
 refine r38 rfl rfl (Xn (x := x) HR.o) rfl ⟨Wg Zu.o hp (xR) x, Wn HP.o hp x, _, rfl, x, rfl, ?_⟩
 exact (HT.o.put8 (by rw [xS, xS]; omega) x).lower (by rw [xS, xS]; omega)
structure Yy (pb tb cap d : Nat) (ts : List Tok) (w0 w : World) (b : Nat) (bx : List (Nat × Obj)) (ns : List (NV × Ty)) (tys : List (Value × Ty)) : Prop where
 st : Zl pb w0 w
 ps : Ps w pb tb cap ts b d
 hp : pb < w0.heap.size
 sz : w0.heap.size + 1 <= w.heap.size
 has : ∀ p ∈ bx, w.heap[p.1]? = some p.2 /\ pb < p.1
 nds : ∀ p ∈ ns, Yi (w0.heap.size + 1) w p.1 p.2
 tys : ∀ p ∈ tys, Yb (w0.heap.size + 1) w p.1 p.2
section
variable {pb tb cap d b b' lo : Nat} {ts : List Tok} {w0 w w' : World} {bx : List (Nat × Obj)} {ns : List (NV × Ty)} {tys : List (Value × Ty)} {x : NV} {D : Ty} {v : Value}
theorem Vz (h : Ps w0 pb tb cap ts b d) (o : Obj) : Yy pb tb cap d ts w0 (w0.alloc o) b [(w0.heap.size, o)] [] [] where
 st := Zl.of h.ltp (Zq _ _)
 ps := h.alloc _
 hp := h.ltp
 sz := by simp
 has := fun p hp => by rw [List.mem_singleton.1 hp]; exact ⟨xL _ _, h.ltp⟩
 nds := (fun _ h => nomatch h)
 tys := (fun _ h => nomatch h)
theorem Yy.step (h : Yy pb tb cap d ts w0 w b bx ns tys) (Zb : Zl pb w w') (Zc : Ps w' pb tb cap ts b' d) : Yy pb tb cap d ts w0 w' b' bx ns tys where
 st := h.st.trans Zb
 ps := Zc
 hp := h.hp
 sz := Nat.le_trans h.sz Zb.size
 has := fun p hp => ⟨(Zb.keep _ (h.has p hp).2 (xB (h.has p hp).1)).trans (h.has p hp).1, (h.has p hp).2⟩
 nds := fun p hp => (h.nds p hp).stay Zb (by have := h.hp; omega)
 tys := fun p hp => (h.tys p hp).stay Zb (by have := h.hp; omega)
theorem Yy.below (h : Yy pb tb cap d ts w0 w b bx ns tys) (hb : Below w.heap.size w w') : Yy pb tb cap d ts w0 w' b bx ns tys := h.step (Zl.of h.ps.ltp hb) (h.ps.below hb)
theorem Yy.alloc (h : Yy pb tb cap d ts w0 w b bx ns tys) (o : Obj) : Yy pb tb cap d ts w0 (w.alloc o) b ((w.heap.size, o) :: bx) ns tys where
 st := (h.below (Zq _ o)).st
 ps := h.ps.alloc _
 hp := h.hp
 sz := (h.below (Zq _ o)).sz
 has := fun p hp => by
  rcases List.mem_cons.1 hp with rfl | hp
  ·exact ⟨xL _ _, h.ps.ltp⟩
  ·exact (h.below (Zq _ o)).has p hp
 nds := (h.below (Zq _ o)).nds
 tys := (h.below (Zq _ o)).tys
theorem Yy.addN (h : Yy pb tb cap d ts w0 w b bx ns tys) (hv : Yi lo w x D) (hl : w0.heap.size + 1 <= lo) : Yy pb tb cap d ts w0 w b bx ((x, D) :: ns) tys where
 st := h.st
 ps := h.ps
 hp := h.hp
 sz := h.sz
 has := h.has
 nds := fun p hp => by
  rcases List.mem_cons.1 hp with rfl | hp
  ·exact hv.lower hl
  ·exact h.nds p hp
 tys := h.tys
theorem Yy.addT (h : Yy pb tb cap d ts w0 w b bx ns tys) (hv : Yb lo w v D) (hl : w0.heap.size + 1 <= lo) : Yy pb tb cap d ts w0 w b bx ns ((v, D) :: tys) where
 st := h.st
 ps := h.ps
 hp := h.hp
 sz := h.sz
 has := h.has
 nds := h.nds
 tys := fun p hp => by
  rcases List.mem_cons.1 hp with rfl | hp
  ·exact hv.lower hl
  ·exact h.tys p hp
theorem Yy.drew (h : Yy pb tb cap d ts w0 w b bx ns tys) : Yy pb tb cap d ts w0 w.drew b bx ns tys := ⟨h.st.drew, h.ps.drew, h.hp, h.sz, h.has, fun p hp => (h.nds p hp).keep (xR) (fun _ _ _ => rfl), fun p hp => (h.tys p hp).keep (xR) (fun _ _ _ => rfl)⟩
theorem Yy.b0 {p : Nat × Obj} (h : Yy pb tb cap d ts w0 w b (p :: bx) ns tys) : w.heap[p.1]? = some p.2 := (h.has p (xM ..)).1
theorem Yy.b1 {p q : Nat × Obj} (h : Yy pb tb cap d ts w0 w b (q :: p :: bx) ns tys) : w.heap[p.1]? = some p.2 := (h.has p (xW _ (xM ..))).1
theorem Yy.b2 {p q r : Nat × Obj} (h : Yy pb tb cap d ts w0 w b (r :: q :: p :: bx) ns tys) : w.heap[p.1]? = some p.2 := (h.has p (xW _ (xW _ (xM ..)))).1
theorem Yy.b3 {p q r s : Nat × Obj} (h : Yy pb tb cap d ts w0 w b (s :: r :: q :: p :: bx) ns tys) : w.heap[p.1]? = some p.2 := (h.has p (xW _ (xW _ (xW _ (xM ..))))).1
theorem Yy.b4 {p q0 q1 q2 q3 : Nat × Obj} (h : Yy pb tb cap d ts w0 w b (q0 :: q1 :: q2 :: q3 :: p :: bx) ns tys) : w.heap[p.1]? = some p.2 := (h.has p (xW _ (xW _ (xW _ (xW _ (xM ..)))))).1
theorem Yy.b5 {p q0 q1 q2 q3 q4 : Nat × Obj} (h : Yy pb tb cap d ts w0 w b (q0 :: q1 :: q2 :: q3 :: q4 :: p :: bx) ns tys) : w.heap[p.1]? = some p.2 := (h.has p (xW _ (xW _ (xW _ (xW _ (xW _ (xM ..))))))).1
theorem Yy.n0 {p : NV × Ty} (h : Yy pb tb cap d ts w0 w b bx (p :: ns) tys) : Yi (w0.heap.size + 1) w p.1 p.2 := h.nds p (xM ..)
theorem Yy.n1 {p q : NV × Ty} (h : Yy pb tb cap d ts w0 w b bx (q :: p :: ns) tys) : Yi (w0.heap.size + 1) w p.1 p.2 := h.nds p (xW _ (xM ..))
theorem Yy.n2 {p q r : NV × Ty} (h : Yy pb tb cap d ts w0 w b bx (r :: q :: p :: ns) tys) : Yi (w0.heap.size + 1) w p.1 p.2 := h.nds p (xW _ (xW _ (xM ..)))
theorem Yy.t0 {p : Value × Ty} (h : Yy pb tb cap d ts w0 w b bx ns (p :: tys)) : Yb (w0.heap.size + 1) w p.1 p.2 := h.tys p (xM ..)
theorem Yj {α : Type} {rep : Nat -> World -> Value -> α -> Prop} {r : Pr α} {e : Ending} (h : Z7 pb tb cap ts d w rep r e w') :
  (∃ er li co, r = .inr (er, li, co) /\ e = vG er li co /\ Zl pb w w') ∨ ∃ x b v, r = .inl (x, b) /\ e = .returned v /\ Zl pb w w' /\ Ps w' pb tb cap ts b d /\ rep w.heap.size w' v x := by
 obtain ⟨Zb, h⟩ := h
 rcases r with ⟨x, b⟩ | ⟨er, li, co⟩
 ·obtain ⟨Zc, v, rfl, hv⟩ := h
  exact .inr ⟨x, b, v, rfl, rfl, Zb, Zc, hv⟩
 ·exact .inl ⟨er, li, co, rfl, h, Zb⟩
end
end Go.Proofs.YtfoejkhfdiodhaaGreatDoor
namespace Go.Proofs.YtfoejkhfdiodhaaGreatDoor
open Go.Proofs.Tryz
open Go.RowKit
attribute [local go_sem ↓] Go.wp_at_zero Go.wp_at_succ
theorem zA (pb tb cap d : Nat) (ts : List Tok) (E : Nat -> Pr Ty) (hE : Xg pb tb cap d ts Z4 19 E) (ok : Yh ts) (a : Nat) (w : World) (h : Ps w pb tb cap ts a d) :
  Calls prog 182 #[pP pb] w (Z7 pb tb cap ts d w Z4 ((Ze ts a [40]).go fun _ b => (E b).go fun x b => (Ze ts b [41]).go fun _ b => .inl (x, b))) := by
 have H := Za h
 have OK := Za ok
 have hp := h.ltp
 have Tn := Za hE
 have C0 := Za (Vz h Zi.obj)
 obtain ⟨R, hR⟩ : ∃ R : Pr Ty, R = ((Ze ts a [40]).go fun _ b => (E b).go fun x b => (Ze ts b [41]).go fun _ b => .inl (x, b)) := ⟨_, rfl⟩
 rw [<- hR]
 have Z9 := Za hR
 clear h ok hR hE
 go_enter func182, ntmps182
 go_wp2_with fail
 refine (Vw pb tb cap a d ts [40] _ C0.o.ps OK.o).mono ?_
 intro e w1 Zg
 rcases Yj Zg with ⟨er, li, co, hr, rfl, Zb⟩ | ⟨u, b1, v, hr, rfl, Zb, Zc, hv⟩
 ·have HE : xQ (R = .inr (er, li, co)) := by rw [Z9.o, hr]; exact rfl
  have HF := Za (C0.o.st.trans Zb);clear hr Zb Zg;go_wp2_with fail;exact ⟨rfl, HF.o, by rw [HE.o]⟩
 have Yk : xQ (R = (E b1).go fun x b => (Ze ts b [41]).go fun _ b => .inl (x, b)) := by rw [Z9.o, hr]; exact rfl
 have C1 := Za ((C0.o.step Zb Zc))
 clear hr Zb Zc Zg hv
 go_wp2_with fail
 refine (Tn.o.calls b1 _ C1.o.ps).mono ?_
 intro e w2 Zg
 rcases Yj Zg with ⟨er, li, co, hr, rfl, Zb⟩ | ⟨D, b2, v, hr, rfl, Zb, Zc, hv⟩
 ·have HE : xQ (R = .inr (er, li, co)) := by rw [Yk.o, hr]; exact rfl
  have HF := Za (C1.o.st.trans Zb);clear hr Zb Zg;go_wp2_with fail;exact ⟨rfl, HF.o, by rw [HE.o]⟩
 have Zz : xQ (R = (Ze ts b2 [41]).go fun _ b => .inl (D, b)) := by rw [Yk.o, hr]; exact rfl
 obtain ⟨x, rfl, hv⟩ := hv
 have C2 := Za ((C1.o.step Zb Zc).addN hv C1.o.sz)
 have C3 := Za (C2.o.alloc (x.obj))
 clear hr Zb Zc Zg hv
 go_wp2_with fail
 refine (Vw pb tb cap b2 d ts [41] _ C3.o.ps OK.o).mono ?_
 intro e w3 Zg
 rcases Yj Zg with ⟨er, li, co, hr, rfl, Zb⟩ | ⟨u2, b3, v2, hr, rfl, Zb, Zc, hv⟩
 ·have HE : xQ (R = .inr (er, li, co)) := by rw [Zz.o, hr]; exact rfl
  have HF := Za (C3.o.st.trans Zb);clear hr Zb Zg;go_wp2_with fail;exact ⟨rfl, HF.o, by rw [HE.o]⟩
 have Yt : xQ (R = .inl (D, b3)) := by rw [Zz.o, hr]; exact rfl
 have C4 := Za ((C3.o.step Zb Zc))
 clear hr Zb Zc Zg hv
 obtain ⟨⟨r0, r1, r2, r3, r4, r5, r6, r7⟩, ⟨f0, f1, f2, f3, f4, f5, f6, f7⟩, Yn⟩ := Zm (x := Zi) (C4.o.b1)
 obtain ⟨⟨n0, n1, n2, n3, n4, n5, n6, n7⟩, _, Kj⟩ := Zm (x := x) C4.o.b0
 have Z3 : ¬ w2.heap.size = w.heap.size := by have := C2.o.sz; omega
 go_wp2_with fail
 rw [Yt.o]
 refine r38 rfl rfl (Xn (x := x) C4.o.b1) rfl ⟨Wg C4.o.st hp (xR) (x), Wn C4.o.ps hp (x), _, rfl, x, rfl, ?_⟩
 exact ((C4.o.n0).put8 (xU _) (x)).lower (Nat.le_succ _)
abbrev Zp (t : Tok) : Obj := .cells #[.int .i64 t.kind, .string ⟨t.text.toArray⟩, .int .i64 t.line, .int .i64 t.col] 81
theorem Og {ts : List Tok} {a : Nat} {s : List UInt8} (h : Zh ts a s = true) : (Zk ts a).text = s := by
 unfold Zh at h
 simp only [Bool.and_eq_true, beq_iff_eq] at h
 exact h.2
abbrev Wi (k : Int) (tx : List UInt8) (N : Int) (t : Tok) : NV := ⟨k, ⟨tx.toArray⟩, N, t.line, t.col, none, 0, 0, none, 0, 0, none, 0, 0⟩
theorem Dr (lo : Nat) (w : World) (k : Int) (tx : List UInt8) (N : Int) (t : Tok) : Yi lo w (Wi k tx N t) (Zn k tx N t.line t.col [] [] []) :=
 ⟨1, [], [], [], rfl, ⟨rfl, rfl, rfl⟩, ⟨xZ _, xZ _, xZ _⟩, .inl rfl, .inl rfl, .inl rfl⟩
theorem bV (pb tb cap d : Nat) (ts : List Tok) (ok : Yh ts) (a : Nat) (hs : Zh ts a [116, 114, 117, 101] = true) (w : World) (h : Ps w pb tb cap ts a d) :
  Calls prog 183 #[pP pb] w (Z7 pb tb cap ts d w Z4 (.inl (Zn 2 [] 1 (Zk ts a).line (Zk ts a).col [] [] [], a + 1))) := by
 have H := Za h
 have OK := Za ok
 have hp := h.ltp
 have C0 := Za (Vz h Zi.obj)
 have HN := Za (Q4 ok.ends h.lt hs)
 have Jk : (Zk ts a).text = [116, 114, 117, 101] := Og hs
 have HC := Za (Bq pb tb cap a d ts _ C0.o.ps HN.o ok.len)
 obtain ⟨t, ht⟩ := xE (Zk ts a)
 rw [<- ht] at HC Jk ⊢
 obtain ⟨kd, tx, tl, tc⟩ := t
 obtain rfl : tx = [116, 114, 117, 101] := Jk
 clear hs ht
 obtain ⟨R, hR⟩ : ∃ R : Pr Ty, R = (.inl (Zn 2 [] 1 tl tc [] [] [], a + 1)) := ⟨_, rfl⟩
 rw [<- hR]
 have Z9 := Za hR
 clear h ok hR
 go_enter func183, ntmps183
 go_wp2_with fail
 refine (HC.o).mono ?_
 rintro e w1 ⟨rfl, Zb, Zc⟩
 have C1 := Za (C0.o.step Zb Zc)
 have C2 := Za (C1.o.alloc (Zp ⟨kd, [116, 114, 117, 101], tl, tc⟩))
 clear Zb Zc
 go_wp2_with fail
 refine (Nl ⟨kd, [116, 114, 117, 101], tl, tc⟩ ⟨2, ⟨#[]⟩, 1, 0, 0, none, 0, 0, none, 0, 0, none, 0, 0⟩ _).mono ?_
 rintro e w2 ⟨rfl, hb⟩
 have C3 := Za (C2.o.below hb)
 clear hb
 obtain ⟨⟨r0, r1, r2, r3, r4, r5, r6, r7⟩, ⟨f0, f1, f2, f3, f4, f5, f6, f7⟩, Yn⟩ := Zm (x := Zi) (C3.o.b1)
 go_wp2_with fail
 rw [Z9.o]
 refine r38 rfl rfl (Xn (x := Wi 2 [] 1 ⟨kd, [116, 114, 117, 101], tl, tc⟩) C3.o.b1) rfl ⟨Wg C3.o.st hp (xR) (Wi 2 [] 1 ⟨kd, [116, 114, 117, 101], tl, tc⟩), Wn C3.o.ps hp (Wi 2 [] 1 ⟨kd, [116, 114, 117, 101], tl, tc⟩), _, rfl, Wi 2 [] 1 ⟨kd, [116, 114, 117, 101], tl, tc⟩, rfl, ?_⟩
 exact ((Dr _ _ 2 [] 1 ⟨kd, [116, 114, 117, 101], tl, tc⟩).put8 (xU _) (Wi 2 [] 1 ⟨kd, [116, 114, 117, 101], tl, tc⟩)).lower (Nat.le_succ _)
theorem bT (pb tb cap d : Nat) (ts : List Tok) (ok : Yh ts) (a : Nat) (hs : Zh ts a [102, 97, 108, 115, 101] = true) (w : World) (h : Ps w pb tb cap ts a d) :
  Calls prog 183 #[pP pb] w (Z7 pb tb cap ts d w Z4 (.inl (Zn 2 [] 0 (Zk ts a).line (Zk ts a).col [] [] [], a + 1))) := by
 have H := Za h
 have OK := Za ok
 have hp := h.ltp
 have C0 := Za (Vz h Zi.obj)
 have HN := Za (Q4 ok.ends h.lt hs)
 have Jk : (Zk ts a).text = [102, 97, 108, 115, 101] := Og hs
 have HC := Za (Bq pb tb cap a d ts _ C0.o.ps HN.o ok.len)
 obtain ⟨t, ht⟩ := xE (Zk ts a)
 rw [<- ht] at HC Jk ⊢
 obtain ⟨kd, tx, tl, tc⟩ := t
 obtain rfl : tx = [102, 97, 108, 115, 101] := Jk
 clear hs ht
 obtain ⟨R, hR⟩ : ∃ R : Pr Ty, R = (.inl (Zn 2 [] 0 tl tc [] [] [], a + 1)) := ⟨_, rfl⟩
 rw [<- hR]
 have Z9 := Za hR
 clear h ok hR
 go_enter func183, ntmps183
 go_wp2_with fail
 refine (HC.o).mono ?_
 rintro e w1 ⟨rfl, Zb, Zc⟩
 have C1 := Za (C0.o.step Zb Zc)
 have C2 := Za (C1.o.alloc (Zp ⟨kd, [102, 97, 108, 115, 101], tl, tc⟩))
 clear Zb Zc
 go_wp2_with fail
 refine (Nl ⟨kd, [102, 97, 108, 115, 101], tl, tc⟩ ⟨2, ⟨#[]⟩, 0, 0, 0, none, 0, 0, none, 0, 0, none, 0, 0⟩ _).mono ?_
 rintro e w2 ⟨rfl, hb⟩
 have C3 := Za (C2.o.below hb)
 clear hb
 obtain ⟨⟨r0, r1, r2, r3, r4, r5, r6, r7⟩, ⟨f0, f1, f2, f3, f4, f5, f6, f7⟩, Yn⟩ := Zm (x := Zi) (C3.o.b1)
 go_wp2_with fail
 rw [Z9.o]
 refine r38 rfl rfl (Xn (x := Wi 2 [] 0 ⟨kd, [102, 97, 108, 115, 101], tl, tc⟩) C3.o.b1) rfl ⟨Wg C3.o.st hp (xR) (Wi 2 [] 0 ⟨kd, [102, 97, 108, 115, 101], tl, tc⟩), Wn C3.o.ps hp (Wi 2 [] 0 ⟨kd, [102, 97, 108, 115, 101], tl, tc⟩), _, rfl, Wi 2 [] 0 ⟨kd, [102, 97, 108, 115, 101], tl, tc⟩, rfl, ?_⟩
 exact ((Dr _ _ 2 [] 0 ⟨kd, [102, 97, 108, 115, 101], tl, tc⟩).put8 (xU _) (Wi 2 [] 0 ⟨kd, [102, 97, 108, 115, 101], tl, tc⟩)).lower (Nat.le_succ _)
theorem bU (pb tb cap d : Nat) (ts : List Tok) (ok : Yh ts) (a : Nat) (hs : Zh ts a [110, 117, 108, 108] = true) (w : World) (h : Ps w pb tb cap ts a d) :
  Calls prog 183 #[pP pb] w (Z7 pb tb cap ts d w Z4 (.inl (Zn 3 [] 0 (Zk ts a).line (Zk ts a).col [] [] [], a + 1))) := by
 have H := Za h
 have OK := Za ok
 have hp := h.ltp
 have C0 := Za (Vz h Zi.obj)
 have HN := Za (Q4 ok.ends h.lt hs)
 have Jk : (Zk ts a).text = [110, 117, 108, 108] := Og hs
 have HC := Za (Bq pb tb cap a d ts _ C0.o.ps HN.o ok.len)
 obtain ⟨t, ht⟩ := xE (Zk ts a)
 rw [<- ht] at HC Jk ⊢
 obtain ⟨kd, tx, tl, tc⟩ := t
 obtain rfl : tx = [110, 117, 108, 108] := Jk
 clear hs ht
 obtain ⟨R, hR⟩ : ∃ R : Pr Ty, R = (.inl (Zn 3 [] 0 tl tc [] [] [], a + 1)) := ⟨_, rfl⟩
 rw [<- hR]
 have Z9 := Za hR
 clear h ok hR
 go_enter func183, ntmps183
 go_wp2_with fail
 refine (HC.o).mono ?_
 rintro e w1 ⟨rfl, Zb, Zc⟩
 have C1 := Za (C0.o.step Zb Zc)
 have C2 := Za (C1.o.alloc (Zp ⟨kd, [110, 117, 108, 108], tl, tc⟩))
 clear Zb Zc
 go_wp2_with fail
 refine (Nl ⟨kd, [110, 117, 108, 108], tl, tc⟩ ⟨3, ⟨#[]⟩, 0, 0, 0, none, 0, 0, none, 0, 0, none, 0, 0⟩ _).mono ?_
 rintro e w2 ⟨rfl, hb⟩
 have C3 := Za (C2.o.below hb)
 clear hb
 obtain ⟨⟨r0, r1, r2, r3, r4, r5, r6, r7⟩, ⟨f0, f1, f2, f3, f4, f5, f6, f7⟩, Yn⟩ := Zm (x := Zi) (C3.o.b1)
 go_wp2_with fail
 rw [Z9.o]
 refine r38 rfl rfl (Xn (x := Wi 3 [] 0 ⟨kd, [110, 117, 108, 108], tl, tc⟩) C3.o.b1) rfl ⟨Wg C3.o.st hp (xR) (Wi 3 [] 0 ⟨kd, [110, 117, 108, 108], tl, tc⟩), Wn C3.o.ps hp (Wi 3 [] 0 ⟨kd, [110, 117, 108, 108], tl, tc⟩), _, rfl, Wi 3 [] 0 ⟨kd, [110, 117, 108, 108], tl, tc⟩, rfl, ?_⟩
 exact ((Dr _ _ 3 [] 0 ⟨kd, [110, 117, 108, 108], tl, tc⟩).put8 (xU _) (Wi 3 [] 0 ⟨kd, [110, 117, 108, 108], tl, tc⟩)).lower (Nat.le_succ _)
end Go.Proofs.YtfoejkhfdiodhaaGreatDoor
