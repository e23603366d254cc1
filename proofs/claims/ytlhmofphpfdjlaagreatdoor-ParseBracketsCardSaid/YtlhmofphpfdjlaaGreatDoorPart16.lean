/- Part. -/
import Derived.Test.YtlhmofphpfdjlaaGreatDoorPart15
set_option maxRecDepth 100000
set_option maxHeartbeats 4000000
/- Expressions that the parser makes. -/
namespace Go.Proofs.YtlhmofphpfdjlaaGreatDoor
open Go.Proofs.Tryz
open Go.RowKit
section
variable {w w' : World} {lo lo' n m : Nat} {x : NV} {D : Ty} {ka : Option Addr} {ks : List Ty} {a : Option Addr} {ns : List (List UInt8)}
theorem namesF_lower (h : NamesF w lo a ns) (hl : lo' <= lo) : NamesF w lo' a ns := by
  rcases h with h | ⟨b, o, e, hb, r⟩
  · exact .inl h
  · exact .inr ⟨b, o, e, by omega, r⟩
theorem kidsF_lower (h : KidsF w lo n ka ks) (hl : lo' <= lo) : KidsF w lo' n ka ks := by
  rcases h with h | ⟨b, o, e, hb, hc, r⟩
  · exact .inl h
  · refine .inr ⟨b, o, e, by omega, hc, fun i hi => ?_⟩
    obtain ⟨c0, c1, c2, c3, e0, e1, e2, e3, ht⟩ := r i hi
    exact ⟨c0, c1, c2, c3, e0, e1, e2, e3, tyF_lower ht hl⟩
theorem kidsF_mono (h : KidsF w lo n ka ks) (hm : n <= m) : KidsF w lo m ka ks := by
  rcases h with h | ⟨b, o, e, hb, hc, r⟩
  · exact .inl h
  · refine .inr ⟨b, o, e, hb, hc, fun i hi => ?_⟩
    obtain ⟨c0, c1, c2, c3, e0, e1, e2, e3, ht⟩ := r i hi
    exact ⟨c0, c1, c2, c3, e0, e1, e2, e3, tyF_mono ht hm⟩
theorem nodeF_lower (h : NodeF w lo n x D) (hl : lo' <= lo) : NodeF w lo' n x D := by
  induction n generalizing x D with
  | zero => exact h.elim
  | succ n ih =>
    obtain ⟨tys, ns, ks, e, h1, h2, h3, h4, h5⟩ := h
    refine ⟨tys, ns, ks, e, h1, h2, kidsF_lower h3 hl, namesF_lower h4 hl, ?_⟩
    rcases h5 with h5 | ⟨b, o, e, hb, hcl, hc⟩
    · exact .inl h5
    · refine .inr ⟨b, o, e, by omega, hcl, fun i hi => ?_⟩
      obtain ⟨y, hy, ht⟩ := hc i hi
      exact ⟨y, hy, ih ht⟩
theorem nodeF_mono (h : NodeF w lo n x D) (hm : n <= m) : NodeF w lo m x D := by
  induction n generalizing m x D with
  | zero => exact h.elim
  | succ n ih =>
    obtain ⟨m, rfl⟩ : ∃ p, m = p + 1 := ⟨m - 1, by omega⟩
    obtain ⟨tys, ns, ks, e, h1, h2, h3, h4, h5⟩ := h
    refine ⟨tys, ns, ks, e, h1, h2, kidsF_mono h3 (by omega), h4, ?_⟩
    rcases h5 with h5 | ⟨b, o, e, hb, hcl, hc⟩
    · exact .inl h5
    · refine .inr ⟨b, o, e, hb, hcl, fun i hi => ?_⟩
      obtain ⟨y, hy, ht⟩ := hc i hi
      exact ⟨y, hy, ih ht (by omega)⟩
end
/-- An expression that was made: it lies from block lo on. -/
def NdV (lo : Nat) (w : World) (x : NV) (D : Ty) : Prop := ∃ m, NodeF w lo m x D
def NdE (lo : Nat) (w : World) (v : Value) (D : Ty) : Prop := ∃ x : NV, v = x.val /\ NdV lo w x D
/-- Eight stores into a box. -/
abbrev put8 (w : World) (b : Nat) (x : NV) : World := (((((((w.setCell ⟨b, 0, none⟩ (.int .i64 x.k)).setCell ⟨b, 1, none⟩ (.string x.tx)).setCell ⟨b, 2, none⟩ (.int .i64 x.N)).setCell ⟨b, 3, none⟩ (.int .i64 x.li)).setCell ⟨b, 4, none⟩ (.int .i64 x.co)).setCell ⟨b, 5, none⟩ (.slice x.ta x.tl x.tc)).setCell ⟨b, 6, none⟩ (.slice x.na x.nl x.nc)).setCell ⟨b, 7, none⟩ (.slice x.ka x.kl x.kc)
abbrev zNV : NV := ⟨0, ⟨#[]⟩, 0, 0, 0, none, 0, 0, none, 0, 0, none, 0, 0⟩
section
variable {w w' : World} {lo lo' b pb : Nat} {x y : NV} {D : Ty}
theorem put8_heap (h : w.heap[b]? = some y.obj) : (put8 w b x).heap[b]? = some x.obj := by
  have h0 := cells_setCell (o := 0) (u := .int .i64 x.k) h
  simp only [List.setIfInBounds_toArray, List.set_cons_zero] at h0
  have h1 := cells_setCell (o := 1) (u := .string x.tx) h0
  simp only [List.setIfInBounds_toArray, List.set_cons_zero, List.set_cons_succ] at h1
  have h2 := cells_setCell (o := 2) (u := .int .i64 x.N) h1
  simp only [List.setIfInBounds_toArray, List.set_cons_zero, List.set_cons_succ] at h2
  have h3 := cells_setCell (o := 3) (u := .int .i64 x.li) h2
  simp only [List.setIfInBounds_toArray, List.set_cons_zero, List.set_cons_succ] at h3
  have h4 := cells_setCell (o := 4) (u := .int .i64 x.co) h3
  simp only [List.setIfInBounds_toArray, List.set_cons_zero, List.set_cons_succ] at h4
  have h5 := cells_setCell (o := 5) (u := .slice x.ta x.tl x.tc) h4
  simp only [List.setIfInBounds_toArray, List.set_cons_zero, List.set_cons_succ] at h5
  have h6 := cells_setCell (o := 6) (u := .slice x.na x.nl x.nc) h5
  simp only [List.setIfInBounds_toArray, List.set_cons_zero, List.set_cons_succ] at h6
  have h7 := cells_setCell (o := 7) (u := .slice x.ka x.kl x.kc) h6
  simp only [List.setIfInBounds_toArray, List.set_cons_zero, List.set_cons_succ] at h7
  exact h7
theorem put8_size : (put8 w b x).heap.size = w.heap.size := by
  unfold put8
  rw [size_set, size_set, size_set, size_set, size_set, size_set, size_set, size_set]
theorem put8_other {i : Nat} (hi : i ≠ b) : (put8 w b x).heap[i]? = w.heap[i]? := by
  unfold put8
  rw [Below.heap_setCell _ _ _ _ hi, Below.heap_setCell _ _ _ _ hi, Below.heap_setCell _ _ _ _ hi, Below.heap_setCell _ _ _ _ hi, Below.heap_setCell _ _ _ _ hi, Below.heap_setCell _ _ _ _ hi, Below.heap_setCell _ _ _ _ hi, Below.heap_setCell _ _ _ _ hi]
theorem stay_put8 (h : Stay pb w w') (hp : pb < w.heap.size) (hb : w.heap.size <= b) (x : NV) : Stay pb w (put8 w' b x) :=
  (((((((h.own hp hb 0 _).own hp hb 1 _).own hp hb 2 _).own hp hb 3 _).own hp hb 4 _).own hp hb 5 _).own hp hb 6 _).own hp hb 7 _
theorem ps_put8 {tb cap a d : Nat} {ts : List Tok} (h : Ps w pb tb cap ts a d) (hb : pb < b) (x : NV) : Ps (put8 w b x) pb tb cap ts a d :=
  (((((((h.other hb 0 _).other hb 1 _).other hb 2 _).other hb 3 _).other hb 4 _).other hb 5 _).other hb 6 _).other hb 7 _
theorem below_put8 {B : Nat} {u : World} (h : Below B u w) (hb : B <= b) (x : NV) : Below B u (put8 w b x) :=
  (((((((h.setCell hb _).setCell hb _).setCell hb _).setCell hb _).setCell hb _).setCell hb _).setCell hb _).setCell hb _
theorem NdV.keep (h : NdV lo w x D) (hs : w.heap.size <= w'.heap.size) (hk : ∀ b, lo <= b -> b < w.heap.size -> w'.heap[b]? = w.heap[b]?) : NdV lo w' x D := by
  obtain ⟨m, h⟩ := h
  exact ⟨m, nodeF_keep h hs hk⟩
theorem NdV.lower (h : NdV lo w x D) (hl : lo' <= lo) : NdV lo' w x D := by
  obtain ⟨m, h⟩ := h
  exact ⟨m, nodeF_lower h hl⟩
theorem NdV.stay (h : NdV lo w x D) (hs : Stay pb w w') (hp : pb < lo) : NdV lo w' x D := h.keep hs.size fun b hb hl => hs.keep b (by omega) hl
theorem NdV.below (h : NdV lo w x D) (hb : Below w.heap.size w w') : NdV lo w' x D := h.keep hb.size fun b _ hl => hb.block b hl
theorem NdV.put8 (h : NdV lo w x D) (hb : b < lo) (y : NV) : NdV lo (put8 w b y) x D := h.keep (by rw [put8_size]; exact Nat.le_refl _) fun i hi _ => put8_other (by omega)
theorem NdV.alloc (h : NdV lo w x D) (o : Obj) : NdV lo (w.alloc o) x D := h.keep (by simp) fun i _ hl => Below.heap_alloc _ _ _ hl
theorem NdV.set1 (h : NdV lo w x D) (hb : b < lo) (o : Nat) (u : Value) : NdV lo (w.setCell ⟨b, o, none⟩ u) x D :=
  h.keep (by rw [size_set]; exact Nat.le_refl _) fun i hi _ => Below.heap_setCell _ _ _ _ (by show i ≠ b; omega)
/-- Another place. -/
theorem NdV.place (h : NdV lo w x D) (li co : Nat) : ∃ k tx N l c tys ns ks, D = mkE k tx N l c tys ns ks /\ NdV lo w { x with li := li, co := co } (mkE k tx N li co tys ns ks) := by
  obtain ⟨m, h⟩ := h
  cases m with
  | zero => exact h.elim
  | succ m =>
    obtain ⟨tys, ns, ks, e, h1, h2, h3, h4, h5⟩ := h
    exact ⟨_, _, _, _, _, _, _, _, e, m + 1, tys, ns, ks, rfl, h1, h2, h3, h4, h5⟩
end
theorem heap_at2 (w : World) (o1 o2 o3 : Obj) : (((w.alloc o1).alloc o2).alloc o3).heap[w.heap.size + 1 + 1]? = some o3 := by
  have := heap_alloc_last ((w.alloc o1).alloc o2) o3
  simpa using this
theorem heap_at4 (w : World) (o1 o2 o3 o4 o5 : Obj) : (((((w.alloc o1).alloc o2).alloc o3).alloc o4).alloc o5).heap[w.heap.size + 1 + 1 + 1 + 1]? = some o5 := by
  have := heap_alloc_last ((((w.alloc o1).alloc o2).alloc o3).alloc o4) o5
  simpa using this
theorem heap_at34 (w : World) (o1 o2 o3 o4 o5 : Obj) : (((((w.alloc o1).alloc o2).alloc o3).alloc o4).alloc o5).heap[w.heap.size + 1 + 1 + 1]? = some o4 := by
  refine (Below.heap_alloc _ _ _ (by simp)).trans ?_
  have := heap_alloc_last (((w.alloc o1).alloc o2).alloc o3) o4
  simpa using this
/-- The eight cells of a box, and that it may be written. -/
def Box8 (W : World) (b : Nat) (x : NV) : Prop :=
  (W.cell? ⟨b, 0, none⟩ = some (.int .i64 x.k) /\ W.cell? ⟨b, 1, none⟩ = some (.string x.tx) /\ W.cell? ⟨b, 2, none⟩ = some (.int .i64 x.N) /\ W.cell? ⟨b, 3, none⟩ = some (.int .i64 x.li) /\ W.cell? ⟨b, 4, none⟩ = some (.int .i64 x.co) /\
  W.cell? ⟨b, 5, none⟩ = some (.slice x.ta x.tl x.tc) /\ W.cell? ⟨b, 6, none⟩ = some (.slice x.na x.nl x.nc) /\ W.cell? ⟨b, 7, none⟩ = some (.slice x.ka x.kl x.kc)) /\
  (W.frozen? ⟨b, 0, none⟩ = false /\ W.frozen? ⟨b, 1, none⟩ = false /\ W.frozen? ⟨b, 2, none⟩ = false /\ W.frozen? ⟨b, 3, none⟩ = false /\ W.frozen? ⟨b, 4, none⟩ = false /\ W.frozen? ⟨b, 5, none⟩ = false /\ W.frozen? ⟨b, 6, none⟩ = false /\ W.frozen? ⟨b, 7, none⟩ = false) /\ b < W.heap.size
theorem box8 {W : World} {b : Nat} {x : NV} (h : W.heap[b]? = some x.obj) : Box8 W b x := by
  refine ⟨⟨?_, ?_, ?_, ?_, ?_, ?_, ?_, ?_⟩, ⟨?_, ?_, ?_, ?_, ?_, ?_, ?_, ?_⟩, lt_of_block h⟩
  all_goals first | (rw [cell_of_row _ _ _ _ _ _ h]; rfl) | simp [World.frozen?, h]
theorem placed_c (t : Tok) (x : NV) (w : World) : Calls prog 94 #[tokV t, x.val] w fun e w' => e = .returned (NV.val { x with li := t.line, co := t.col }) /\ Below w.heap.size w w' := by
  obtain ⟨k, tx, li, co⟩ := t
  obtain ⟨xk, xt, xN, xl, xc, a1, a2, a3, b1, b2, b3, c1, c2, c3⟩ := x
  go_enter func94, ntmps94
  go_wp2_with fail
  go_region
  all_goals
    go_wp2_with fail
    refine bodyPost_ret (results_cell_row rfl _ _ (w.heap.size + 1 + 1) 27 _ (0, 0) _ rfl (heap_at2 _ _ _ _) underlying27 rfl (by kernel_rfl)) rfl ⟨rfl, ?_⟩
    exact ((((Below.refl _ w).alloc (Nat.le_refl _) _).alloc (by simp) _).alloc (by simp; omega) _).drew
abbrev opNV (t : Tok) (kb : Nat) : NV := ⟨14, ⟨t.text.toArray⟩, 0, t.line, t.col, none, 0, 0, none, 0, 0, some ⟨kb, 0, none⟩, 2, 2⟩
theorem operation_c (t : Tok) (x y : NV) (w : World) : Calls prog 115 #[tokV t, x.val, y.val] w fun e w' => ∃ kb, e = .returned (opNV t kb).val /\ Below w.heap.size w w' /\ w.heap.size <= kb /\ w'.heap[kb]? = some (.cells #[.int .i64 x.k, .string x.tx, .int .i64 x.N, .int .i64 x.li, .int .i64 x.co, .slice x.ta x.tl x.tc, .slice x.na x.nl x.nc, .slice x.ka x.kl x.kc, .int .i64 y.k, .string y.tx, .int .i64 y.N, .int .i64 y.li, .int .i64 y.co, .slice y.ta y.tl y.tc, .slice y.na y.nl y.nc, .slice y.ka y.kl y.kc] 27) := by
  obtain ⟨k, tx, li, co⟩ := t
  obtain ⟨xk, xt, xN, xl, xc, a1, a2, a3, b1, b2, b3, c1, c2, c3⟩ := x
  obtain ⟨yk, yt, yN, yl, yc, d1, d2, d3, e1, e2, e3, f1, f2, f3⟩ := y
  obtain ⟨o1, ho1⟩ : ∃ o : Obj, o = .cells #[.int .i64 k, .string ⟨tx.toArray⟩, .int .i64 li, .int .i64 co] 98 := ⟨_, rfl⟩
  have HC := hideP (fun w5 => placed_c ⟨k, tx, li, co⟩ ⟨14, ⟨tx.toArray⟩, 0, 0, 0, none, 0, 0, none, 0, 0, some ⟨w.heap.size + 1 + 1 + 1 + 1, 0, none⟩, 2, 2⟩ w5)
  clear ho1
  go_enter func115, ntmps115
  go_wp2_with fail
  refine (HC.out _).mono ?_
  rintro e w1 ⟨rfl, hb1⟩
  have HB : Hid (Below w.heap.size w w1) := below_next (below_next (below_next (below_next (below_next (bl_alloc _ _) (bl_alloc _ _)) (bl_alloc _ _)) (bl_alloc _ _)) (bl_alloc _ _)) hb1
  have HK := hideP ((hb1.block (w.heap.size + 1 + 1 + 1 + 1) (by simp)).trans (heap_at4 w _ _ _ _ _))
  have hr := (hb1.block (w.heap.size + 1 + 1 + 1) (by simp)).trans (heap_at34 w _ _ _ _ _)
  have HR : Hid (w1.heap[w.heap.size + 1 + 1 + 1]? = some zNV.obj) := hr
  obtain ⟨⟨r0, r1, r2, r3, r4, r5, r6, r7⟩, ⟨f0, f1', f2', f3', f4, f5, f6, f7⟩, hr1⟩ := box8 HR.out
  clear hb1 hr
  go_wp2_with fail
  refine bodyPost_ret (results_cell_row rfl _ _ (w.heap.size + 1 + 1 + 1) 27 _ (0, 0) _ rfl (put8_heap (x := opNV ⟨k, tx, li, co⟩ (w.heap.size + 1 + 1 + 1 + 1)) HR.out) underlying27 rfl (by kernel_rfl)) rfl ⟨w.heap.size + 1 + 1 + 1 + 1, rfl, ?_, by omega, ?_⟩
  · exact below_put8 (x := opNV ⟨k, tx, li, co⟩ (w.heap.size + 1 + 1 + 1 + 1)) HB.out (by omega)
  · exact (put8_other (x := opNV ⟨k, tx, li, co⟩ (w.heap.size + 1 + 1 + 1 + 1)) (by omega)).trans HK.out
/-- Two expressions in a row that was just made. -/
theorem ndV_two {lo kb : Nat} {w : World} {x y : NV} {D1 D2 : Ty} (h1 : NdV lo w x D1) (h2 : NdV lo w y D2) (hk : w.heap[kb]? = some (.cells #[.int .i64 x.k, .string x.tx, .int .i64 x.N, .int .i64 x.li, .int .i64 x.co, .slice x.ta x.tl x.tc, .slice x.na x.nl x.nc, .slice x.ka x.kl x.kc, .int .i64 y.k, .string y.tx, .int .i64 y.N, .int .i64 y.li, .int .i64 y.co, .slice y.ta y.tl y.tc, .slice y.na y.nl y.nc, .slice y.ka y.kl y.kc] 27)) (hlo : lo <= kb)
    (z : NV) (tys : List Ty) (ns : List (List UInt8)) (hz : z.ka = some ⟨kb, 0, none⟩ /\ z.kl = 2) (ht : z.tl = tys.length /\ tys.length <= 100000 /\ ∃ m, KidsF w lo m z.ta tys) (hn : z.nl = ns.length /\ ns.length <= 100000 /\ NamesF w lo z.na ns) :
    NdV lo w z (mkE z.k z.tx.data.toList z.N z.li z.co tys ns [D1, D2]) := by
  obtain ⟨m1, h1⟩ := h1
  obtain ⟨m2, h2⟩ := h2
  obtain ⟨t1, t2, m3, t3⟩ := ht
  refine ⟨max (max m1 m2) m3 + 1, tys, ns, [D1, D2], rfl, ⟨t1, hn.1, hz.2⟩, ⟨t2, hn.2.1, (by show 2 <= _; omega)⟩, kidsF_mono t3 (Nat.le_max_right _ _), hn.2.2, .inr ⟨kb, 0, hz.1, hlo, ⟨_, _, hk⟩, fun i hi => ?_⟩⟩
  match i, hi with
  | 0, _ => exact ⟨x, ⟨by rw [cell_of_row _ _ _ _ _ _ hk]; rfl, by rw [cell_of_row _ _ _ _ _ _ hk]; rfl, by rw [cell_of_row _ _ _ _ _ _ hk]; rfl, by rw [cell_of_row _ _ _ _ _ _ hk]; rfl, by rw [cell_of_row _ _ _ _ _ _ hk]; rfl, by rw [cell_of_row _ _ _ _ _ _ hk]; rfl, by rw [cell_of_row _ _ _ _ _ _ hk]; rfl, by rw [cell_of_row _ _ _ _ _ _ hk]; rfl⟩, nodeF_mono h1 (Nat.le_trans (Nat.le_max_left _ _) (Nat.le_max_left _ _))⟩
  | 1, _ => exact ⟨y, ⟨by rw [cell_of_row _ _ _ _ _ _ hk]; rfl, by rw [cell_of_row _ _ _ _ _ _ hk]; rfl, by rw [cell_of_row _ _ _ _ _ _ hk]; rfl, by rw [cell_of_row _ _ _ _ _ _ hk]; rfl, by rw [cell_of_row _ _ _ _ _ _ hk]; rfl, by rw [cell_of_row _ _ _ _ _ _ hk]; rfl, by rw [cell_of_row _ _ _ _ _ _ hk]; rfl, by rw [cell_of_row _ _ _ _ _ _ hk]; rfl⟩, nodeF_mono h2 (Nat.le_trans (Nat.le_max_right _ _) (Nat.le_max_left _ _))⟩
theorem op_node {lo kb : Nat} {w w' : World} {t : Tok} {x y : NV} {D1 D2 : Ty} (h1 : NdV lo w x D1) (h2 : NdV lo w y D2) (hb : Below w.heap.size w w') (hlo : lo <= kb) (hk : w'.heap[kb]? = some (.cells #[.int .i64 x.k, .string x.tx, .int .i64 x.N, .int .i64 x.li, .int .i64 x.co, .slice x.ta x.tl x.tc, .slice x.na x.nl x.nc, .slice x.ka x.kl x.kc, .int .i64 y.k, .string y.tx, .int .i64 y.N, .int .i64 y.li, .int .i64 y.co, .slice y.ta y.tl y.tc, .slice y.na y.nl y.nc, .slice y.ka y.kl y.kc] 27)) :
    NdV lo w' (opNV t kb) (mkE 14 t.text 0 t.line t.col [] [] [D1, D2]) :=
  ndV_two (h1.below hb) (h2.below hb) hk hlo (opNV t kb) [] [] ⟨rfl, rfl⟩ ⟨rfl, Nat.zero_le _, 0, .inl rfl⟩ ⟨rfl, Nat.zero_le _, .inl rfl⟩
end Go.Proofs.YtlhmofphpfdjlaaGreatDoor
/- Operations of one rank. -/
namespace Go.Proofs.YtlhmofphpfdjlaaGreatDoor
open Go.Proofs.Tryz
open Go.RowKit
attribute [local go_sem ↓] Go.wp_at_zero Go.wp_at_succ
/-- The world with another content of one block. -/
def withObj (w : World) (b : Nat) (o : Obj) : World := { w with heap := w.heap.setIfInBounds b o }
/-- The expression x, whatever block nb holds. -/
def NdX (lo nb : Nat) (w : World) (x : NV) (D : Ty) : Prop := ∀ o, NdV lo (withObj w nb o) x D
section
variable {w w' : World} {lo nb pb : Nat} {x y : NV} {D : Ty}
theorem withObj_size (o : Obj) : (withObj w nb o).heap.size = w.heap.size := by simp [withObj]
theorem withObj_other (o : Obj) {i : Nat} (hi : i ≠ nb) : (withObj w nb o).heap[i]? = w.heap[i]? := by
  unfold withObj
  simp only [Array.getElem?_setIfInBounds]
  rw [if_neg (fun e => hi e.symm)]
theorem withObj_at (o : Obj) (h : nb < w.heap.size) : (withObj w nb o).heap[nb]? = some o := by
  unfold withObj
  simp [h]
theorem NdX.keep (h : NdX lo nb w x D) (hn : nb < w.heap.size) (hs : w.heap.size <= w'.heap.size) (hk : ∀ b, lo <= b -> b < w.heap.size -> b ≠ nb -> w'.heap[b]? = w.heap[b]?) : NdX lo nb w' x D := fun o =>
  (h o).keep (by rw [withObj_size, withObj_size]; exact hs) fun b hb hl => by
    rw [withObj_size] at hl
    by_cases e : b = nb
    · subst e
      rw [withObj_at o (by omega), withObj_at o hn]
    · rw [withObj_other o e, withObj_other o e]
      exact hk b hb hl e
theorem NdX.now (h : NdX lo nb w x D) (hn : nb < w.heap.size) : NdV lo w x D := by
  obtain ⟨o, ho⟩ : ∃ o, w.heap[nb]? = some o := ⟨_, Array.getElem?_eq_getElem hn⟩
  refine (h o).keep (by rw [withObj_size]; exact Nat.le_refl _) fun b hb hl => ?_
  by_cases e : b = nb
  · subst e
    rw [withObj_at o hn, ho]
  · rw [withObj_other o e]
theorem NdX.stay (h : NdX lo nb w x D) (hn : nb < w.heap.size) (hs : Stay pb w w') (hp : pb < lo) : NdX lo nb w' x D := h.keep hn hs.size fun b hb hl _ => hs.keep b (by omega) hl
theorem NdX.below (h : NdX lo nb w x D) (hn : nb < w.heap.size) (hb : Below w.heap.size w w') : NdX lo nb w' x D := h.keep hn hb.size fun b _ hl _ => hb.block b hl
theorem NdX.alloc (h : NdX lo nb w x D) (hn : nb < w.heap.size) (o : Obj) : NdX lo nb (w.alloc o) x D := h.below hn (bl_alloc _ _)
theorem NdX.put8 (h : NdX lo nb w x D) (hn : nb < w.heap.size) (y : NV) : NdX lo nb (put8 w nb y) x D := h.keep hn (by rw [put8_size]; exact Nat.le_refl _) fun b _ _ e => put8_other e
/-- What was made ahead of the block, or behind it. -/
theorem ndX_old (h : NdV lo w x D) (o : Obj) : NdX lo w.heap.size (w.alloc o) x D := fun o' =>
  h.keep (by rw [withObj_size]; simp) fun b _ hl => (withObj_other o' (by omega)).trans (Below.heap_alloc _ _ _ hl)
theorem ndX_new {lo' : Nat} (h : NdV lo' w x D) (hl : nb < lo') (hlo : lo <= lo') : NdX lo nb w x D := fun o =>
  (h.keep (by rw [withObj_size]; exact Nat.le_refl _) fun b hb _ => withObj_other o (by omega)).lower hlo
theorem op_nodeX {kb : Nat} {t : Tok} {D1 D2 : Ty} (h1 : NdX lo nb w x D1) (h2 : NdX lo nb w y D2) (hn : nb < w.heap.size) (hb : Below w.heap.size w w') (hlo : lo <= kb) (hnk : kb ≠ nb) (hk : w'.heap[kb]? = some (.cells #[.int .i64 x.k, .string x.tx, .int .i64 x.N, .int .i64 x.li, .int .i64 x.co, .slice x.ta x.tl x.tc, .slice x.na x.nl x.nc, .slice x.ka x.kl x.kc, .int .i64 y.k, .string y.tx, .int .i64 y.N, .int .i64 y.li, .int .i64 y.co, .slice y.ta y.tl y.tc, .slice y.na y.nl y.nc, .slice y.ka y.kl y.kc] 27)) :
    NdX lo nb w' (opNV t kb) (mkE 14 t.text 0 t.line t.col [] [] [D1, D2]) := fun o =>
  ndV_two (h1.below hn hb o) (h2.below hn hb o) ((withObj_other o hnk).trans hk) hlo (opNV t kb) [] [] ⟨rfl, rfl⟩ ⟨rfl, Nat.zero_le _, 0, .inl rfl⟩ ⟨rfl, Nat.zero_le _, .inl rfl⟩
end
theorem TextsC.stay {w w1 : World} {xb pb : Nat} {L : List (List UInt8)} (h : TextsC w xb L) (hs : Stay pb w w1) (hp : pb < xb) : TextsC w1 xb L :=
  ⟨Nat.lt_of_lt_of_le h.1 hs.size, fun i hi => (World.cell?_of_block (w := w) (a := ⟨xb, i, none⟩) (hs.keep xb hp h.1)).trans (h.2 i hi)⟩
/-- The eight cells of a box. -/
def Cells8 (W : World) (b : Nat) (x : NV) : Prop := W.cell? ⟨b, 0, none⟩ = some (.int .i64 x.k) /\ W.cell? ⟨b, 1, none⟩ = some (.string x.tx) /\ W.cell? ⟨b, 2, none⟩ = some (.int .i64 x.N) /\ W.cell? ⟨b, 3, none⟩ = some (.int .i64 x.li) /\ W.cell? ⟨b, 4, none⟩ = some (.int .i64 x.co) /\
  W.cell? ⟨b, 5, none⟩ = some (.slice x.ta x.tl x.tc) /\ W.cell? ⟨b, 6, none⟩ = some (.slice x.na x.nl x.nc) /\ W.cell? ⟨b, 7, none⟩ = some (.slice x.ka x.kl x.kc)
def TokB (W : World) (b : Nat) (t : Tok) : Prop := W.cell? ⟨b, 0, none⟩ = some (.int .i64 t.kind) /\ W.cell? ⟨b, 1, none⟩ = some (.string ⟨t.text.toArray⟩) /\ W.cell? ⟨b, 2, none⟩ = some (.int .i64 t.line) /\ W.cell? ⟨b, 3, none⟩ = some (.int .i64 t.col)
theorem tokB {W : World} {b : Nat} {t : Tok} (h : W.heap[b]? = some (.cells #[.int .i64 t.kind, .string ⟨t.text.toArray⟩, .int .i64 t.line, .int .i64 t.col] 98)) : TokB W b t := (res_facts h).1
/-- Where a rank stands behind one more operand. -/
def Rank4 (pb tb cap d nb xb : Nat) (ts : List Tok) (L : List (List UInt8)) (R : Pr Ty) (sub : Nat -> Pr Ty) (m : Nat) (w : World) (x : NV) (D : Ty) (t : Tok) (w4 : World) (y : NV) (D2 : Ty) (b2 : Nat) : Prop :=
  R = leftA ts L sub m (mkE 14 t.text 0 t.line t.col [] [] [D, D2]) b2 /\ Stay pb w w4 /\ Ps w4 pb tb cap ts b2 d /\ w4.heap[nb]? = some x.obj /\ NdX (w.heap.size + 1) nb w4 x D /\ NdX (w.heap.size + 1) nb w4 y D2 /\ w4.heap[w.heap.size]? = some zNV.obj /\ TextsC w4 xb L
/-- The rest of operations of one rank. -/
theorem left_none {ts : List Tok} {L : List (List UInt8)} {sub : Nat -> Pr Ty} {f a : Nat} {x : Ty} (h : (L.any fun s => seesA ts a s) = false) : leftA ts L sub (f + 1) x a = .inl (x, a) := by
  rw [leftA]
  have : L.find? (seesA ts a) = none := List.find?_eq_none.2 fun s hs => by
    have := List.any_eq_false.1 h s hs
    simpa using this
  rw [this]
theorem left_some {ts : List Tok} {L : List (List UInt8)} {sub : Nat -> Pr Ty} {f a : Nat} {x : Ty} (h : (L.any fun s => seesA ts a s) = true) : leftA ts L sub (f + 1) x a = (sub (a + 1)).go fun y b => leftA ts L sub f (mkE 14 (tkA ts a).text 0 (tkA ts a).line (tkA ts a).col [] [] [x, y]) b := by
  rw [leftA]
  obtain ⟨s, hs, h2⟩ := List.any_eq_true.1 h
  have : (L.find? (seesA ts a)).isSome = true := List.find?_isSome.2 ⟨s, hs, h2⟩
  obtain ⟨q, hq⟩ := Option.isSome_iff_exists.1 this
  have hsee := List.find?_some hq
  have hqt : q = (tkA ts a).text := by
    unfold seesA at hsee
    simp only [Bool.and_eq_true, beq_iff_eq] at hsee
    exact hsee.2.symm
  rw [hq, hqt]
  rfl
theorem rank_c (pb tb cap d xb xc : Nat) (ts : List Tok) (L : List (List UInt8)) (hl : L.length <= 100) (g : Nat) (sub : Nat -> Pr Ty) (hg : Reads pb tb cap d ts NdE g sub)
    (a : Nat) (w : World) (h : Ps w pb tb cap ts a d) (hL : TextsC w xb L) (hpx : pb < xb) (ok : ToksOk ts) :
    Calls prog 95 #[.pointer (some ⟨pb, 0, none⟩), .func (.func g) #[] #[], .slice (some ⟨xb, 0, none⟩) L.length xc] w (PPost pb tb cap ts d w NdE ((sub a).go fun x a => leftA ts L sub ts.length x a)) := by
  have H := hideP h
  have OK := hideP ok
  have HG := hideP hg
  have HL := hideP hL
  have hen := hg.enters
  have hp := h.ltp
  obtain ⟨R, hR⟩ : ∃ R, R = ((sub a).go fun x a => leftA ts L sub ts.length x a) := ⟨_, rfl⟩
  rw [<- hR]
  have HRr := hideP hR
  clear h ok hg hL hR
  go_enter func95, ntmps95
  go_wp2_with fail
  refine (HG.out.calls a _ (H.out.alloc _)).mono ?_
  rintro e w1 ⟨hst, hpost⟩
  have HST := hideP ((Stay.of hp (bl_alloc _ _)).trans hst)
  have HST' := hideP hst
  have HR := hideP ((hst.keep _ hp (by simp)).trans (heap_alloc_last w zNV.obj))
  clear hst
  rcases hs : sub a with ⟨D, b⟩ | ⟨er, li, co⟩
  case inr =>
    rw [hs] at hpost
    have HE : Hid (R = .inr (er, li, co)) := by show _ = _; simp only [HRr.out, hs, pr_inr]
    subst hpost
    clear hs
    go_wp2_with fail
    exact ⟨rfl, HST.out, by rw [HE.out]⟩
  rw [hs] at hpost
  obtain ⟨hps, v, rfl, x, rfl, hv⟩ := hpost
  have HRA : Hid (R = leftA ts L sub ts.length D b) := by show _ = _; simp only [HRr.out, hs, pr_inl]
  have HP := hideP hps
  have HT := hideP hv
  have HU := hideP (HG.out.up _ _ _ hs)
  clear hps hv hs HRr
  obtain ⟨nb, hnb⟩ : ∃ nb, nb = w1.heap.size := ⟨_, rfl⟩
  have HNb := hideP hnb
  have hb0 : w.heap.size < nb := by rw [hnb]; exact lt_of_block HR.out
  have HX0 : Hid (NdX (w.heap.size + 1) nb (w1.alloc x.obj) x D) := by rw [hnb]; exact ndX_old (by simpa using HT.out) _
  have HN0 : Hid ((w1.alloc x.obj).heap[nb]? = some x.obj) := by rw [hnb]; exact heap_alloc_last _ _
  have HTx : Hid (TextsC (w1.alloc x.obj) xb L) := by
    have h1 := (HL.out.below (bl_alloc w zNV.obj)).stay HST'.out hpx
    exact h1.below (bl_alloc _ _)
  go_wp2_with fail
  rw [<- hnb]
  clear hnb
  go_loopg [8] (ts.length - b) (fun gk _ wr => ∃ (b m : Nat) (x : NV) (D : Ty), Hid (wr.heap[nb]? = some x.obj) /\ Hid (NdX (w.heap.size + 1) nb wr x D) /\ Hid (Stay pb w wr) /\ Hid (Ps wr pb tb cap ts b d) /\ Hid (wr.heap[w.heap.size]? = some zNV.obj) /\ Hid (TextsC wr xb L) /\ Hid (R = leftA ts L sub m D b) /\ Hid (ts.length <= b + m) /\ ts.length - b <= gk)
  case atStart => exact ⟨b, ts.length, x, D, HN0, HX0, HST.out.alloc hp _, HP.out.alloc _, (Below.heap_alloc _ _ _ (lt_of_block HR.out)).trans HR.out, HTx, HRA, Nat.le_add_left _ _, Nat.le_refl _⟩
  case round =>
    clear HX0 HN0 HTx HP HT HU HRA HST HR HST' HNb
    obtain ⟨b, m, x, D, HN, HX, HSt, HPs, HR, HTx, HRA, HLe, hgk⟩ := hrel
    have HI := hideP (is_r pb tb cap b xb xc ts L wr HPs.out.rd HTx.out hl)
    obtain ⟨m, rfl⟩ : ∃ q, m = q + 1 := ⟨m - 1, by have := HLe.out; have := HPs.out.lt; omega⟩
    cases hs : L.any fun s => seesA ts b s with
    | false =>
      have HE := hideP (HRA.out.trans (left_none hs))
      rw [hs] at HI
      clear hs
      go_wp2_with fail
      refine HI.out.mono ?_
      rintro e w2 ⟨rfl, hb2⟩
      have HST2 := hideP (HSt.out.trans (Stay.of HPs.out.ltp hb2))
      have HPS2 := hideP (HPs.out.below hb2)
      have HX2 := hideP (HX.out.below (lt_of_block HN.out) hb2)
      have HR2 := hideP ((hb2.block _ (lt_of_block HR.out)).trans HR.out)
      have HN2 := hideP ((hb2.block _ (lt_of_block HN.out)).trans HN.out)
      obtain ⟨⟨r0, r1, r2, r3, r4, r5, r6, r7⟩, ⟨f0, f1, f2, f3, f4, f5, f6, f7⟩, hr1⟩ := box8 HR2.out
      obtain ⟨⟨n0, n1, n2, n3, n4, n5, n6, n7⟩, _, hn1⟩ := box8 HN2.out
      have hne : ¬ nb = w.heap.size := by omega
      clear hb2
      go_wp2_with fail
      rw [HE.out]
      refine bodyPost_ret (results_cell_row rfl _ _ w.heap.size 27 _ (0, 0) _ rfl (put8_heap (x := x) HR2.out) underlying27 rfl (by kernel_rfl)) rfl ⟨stay_put8 HST2.out hp (Nat.le_refl _) x, ps_put8 HPS2.out hp x, _, rfl, x, rfl, ?_⟩
      exact ((HX2.out.now hn1).put8 (Nat.lt_succ_self _) x).lower (Nat.le_succ _)
    | true =>
      have HRB := hideP (HRA.out.trans (left_some hs))
      have hsee : ∃ s, seesA ts b s = true := by
        obtain ⟨s, _, h2⟩ := List.any_eq_true.1 hs
        exact ⟨s, h2⟩
      have HNx : Hid (b + 1 < ts.length) := by
        obtain ⟨s, h2⟩ := hsee
        exact sees_next OK.out.ends HPs.out.lt h2
      rw [hs] at HI
      clear hs hsee
      obtain ⟨t, ht⟩ : ∃ t, t = tkA ts b := ⟨_, rfl⟩
      rw [<- ht] at HRB
      go_wp2_with fail
      refine HI.out.mono ?_
      rintro e w2 ⟨rfl, hb2⟩
      have HST2 := hideP (HSt.out.trans (Stay.of HPs.out.ltp hb2))
      have HPS2 := hideP (HPs.out.below hb2)
      have HX2 := hideP (HX.out.below (lt_of_block HN.out) hb2)
      have HR2 := hideP ((hb2.block _ (lt_of_block HR.out)).trans HR.out)
      have HN2 := hideP ((hb2.block _ (lt_of_block HN.out)).trans HN.out)
      have HT2 := hideP (HTx.out.below hb2)
      clear hb2
      go_wp2_with fail
      refine (pass_c pb tb cap b d ts _ HPS2.out HNx.out OK.out.len).mono ?_
      rw [<- ht]
      rintro e w3 ⟨rfl, hst, hps⟩
      have HPs3 : Hid (pb < w3.heap.size) := hps.ltp
      have HST3 := hideP ((HST2.out.trans hst).alloc hp (.cells #[.int .i64 t.kind, .string ⟨t.text.toArray⟩, .int .i64 t.line, .int .i64 t.col] 98))
      have HPS3 := hideP (hps.alloc (.cells #[.int .i64 t.kind, .string ⟨t.text.toArray⟩, .int .i64 t.line, .int .i64 t.col] 98))
      have HX3 := hideP ((HX2.out.stay (lt_of_block HN2.out) hst (by omega)).alloc (Nat.lt_of_lt_of_le (lt_of_block HN2.out) hst.size) (.cells #[.int .i64 t.kind, .string ⟨t.text.toArray⟩, .int .i64 t.line, .int .i64 t.col] 98))
      have HR3 := hideP ((Below.heap_alloc w3 (.cells #[.int .i64 t.kind, .string ⟨t.text.toArray⟩, .int .i64 t.line, .int .i64 t.col] 98) _ (Nat.lt_of_lt_of_le (lt_of_block HR2.out) hst.size)).trans ((hst.keep _ hp (lt_of_block HR2.out)).trans HR2.out))
      have HN3 := hideP ((Below.heap_alloc w3 (.cells #[.int .i64 t.kind, .string ⟨t.text.toArray⟩, .int .i64 t.line, .int .i64 t.col] 98) _ (Nat.lt_of_lt_of_le (lt_of_block HN2.out) hst.size)).trans ((hst.keep _ (by omega) (lt_of_block HN2.out)).trans HN2.out))
      have HT3 := hideP ((HT2.out.stay hst hpx).below (bl_alloc _ (.cells #[.int .i64 t.kind, .string ⟨t.text.toArray⟩, .int .i64 t.line, .int .i64 t.col] 98)))
      have HCw := hideP (box8 ((hst.keep _ (by omega) (lt_of_block HN2.out)).trans HN2.out)).1
      have HLw := hideP (Nat.lt_of_lt_of_le (lt_of_block HN2.out) hst.size)
      have HTb := hideP (heap_alloc_last w3 (.cells #[.int .i64 t.kind, .string ⟨t.text.toArray⟩, .int .i64 t.line, .int .i64 t.col] 98))
      clear hst hps ht
      have HC : Hid (Calls prog g #[.pointer (some ⟨pb, 0, none⟩)] (w3.alloc (.cells #[.int .i64 t.kind, .string ⟨t.text.toArray⟩, .int .i64 t.line, .int .i64 t.col] 98)).drew fun e w4 => (∃ chain, e = .panicked chain /\ PPost pb tb cap ts d w NdE R e w4) ∨
          ∃ (y : NV) (D2 : Ty) (b2 : Nat), e = .returned y.val /\ Cells8 w4 nb x /\ TokB w4 w3.heap.size t /\ Hid (Rank4 pb tb cap d nb xb ts L R sub m w x D t w4 y D2 b2 /\ b + 1 <= b2)) := by
        refine (HG.out.calls (b + 1) _ HPS3.out.drew).mono ?_
        rintro e w4 ⟨hst', hpost⟩
        have hst := hst'.undrew
        have hst4 := HST3.out.trans hst
        rcases hk : sub (b + 1) with ⟨D2, b2⟩ | ⟨er, li, co⟩
        · rw [hk] at hpost
          obtain ⟨hps, v, rfl, y, rfl, hv⟩ := hpost
          have hn4 := (hst.keep nb (by omega) (lt_of_block HN3.out)).trans HN3.out
          refine .inr ⟨y, D2, b2, rfl, (box8 hn4).1, tokB ((hst.keep w3.heap.size (by have := HPS2.out.ltp; have := HPs3.out; omega) (lt_of_block HTb.out)).trans HTb.out), ⟨by rw [HRB.out, hk]; rfl, hst4, hps, hn4, HX3.out.stay (lt_of_block HN3.out) hst (by omega), ndX_new hv (lt_of_block HN3.out) (lt_of_block HR3.out), (hst.keep _ hp (lt_of_block HR3.out)).trans HR3.out, HT3.out.stay hst hpx⟩, HG.out.up _ _ _ hk⟩
        · rw [hk] at hpost
          subst hpost
          exact .inl ⟨_, rfl, hst4, by rw [HRB.out, hk]; rfl⟩
      have HC2 : Hid (∀ (w4 : World) (y : NV) (D2 : Ty) (b2 : Nat), Hid (Rank4 pb tb cap d nb xb ts L R sub m w x D t w4 y D2 b2 /\ b + 1 <= b2) -> Calls prog 115 #[tokV t, x.val, y.val] w4 fun e w5 => ∃ kb, e = .returned (opNV t kb).val /\ Box8 w5 nb x /\ Hid ((put8 w5 nb (opNV t kb)).heap[nb]? = some (opNV t kb).obj /\ NdX (w.heap.size + 1) nb (put8 w5 nb (opNV t kb)) (opNV t kb) (mkE 14 t.text 0 t.line t.col [] [] [D, D2]) /\ Stay pb w (put8 w5 nb (opNV t kb)) /\ Ps (put8 w5 nb (opNV t kb)) pb tb cap ts b2 d /\ (put8 w5 nb (opNV t kb)).heap[w.heap.size]? = some zNV.obj /\ TextsC (put8 w5 nb (opNV t kb)) xb L /\ R = leftA ts L sub m (mkE 14 t.text 0 t.line t.col [] [] [D, D2]) b2 /\ b + 1 <= b2)) := by
        intro w4 y D2 b2 hh
        obtain ⟨⟨q1, q2, q3, q4, q5, q6, q7, q8⟩, q9⟩ := hh.out
        refine (operation_c t x y w4).mono ?_
        rintro e w5 ⟨kb, rfl, hb, hkb, hk⟩
        have hn5 := (hb.block nb (lt_of_block q4)).trans q4
        have hnb4 := lt_of_block q4
        have hx5 := op_nodeX (t := t) q5 q6 hnb4 hb (by omega) (by omega) hk
        refine ⟨kb, rfl, box8 hn5, put8_heap hn5, hx5.put8 (lt_of_block hn5) _, stay_put8 (q2.trans (Stay.of q3.ltp hb)) hp (by omega) _, ps_put8 (q3.below hb) (by omega) _, ?_, ?_, q1, q9⟩
        · exact (put8_other (by omega)).trans ((hb.block _ (lt_of_block q7)).trans q7)
        · have h8 := q8.below hb
          exact ⟨by rw [put8_size]; exact h8.1, fun i hi => (World.cell?_of_block (w := w5) (a := ⟨xb, i, none⟩) (put8_other (by have := HL.out.1; show xb ≠ nb; omega))).trans (h8.2 i hi)⟩
      obtain ⟨m0, m1, m2, m3, m4, m5, m6, m7⟩ := HCw.out
      have hlw3 := HLw.out
      go_wp2_with fail
      go_region_with (first
        | (go_at_call 115; refine (HC2.out _ _ _ _ HX4).mono ?_; rintro e w5 ⟨kb, rfl, t8, HX5⟩; obtain ⟨⟨p0, p1, p2, p3, p4, p5, p6, p7⟩, ⟨f0, f1, f2, f3, f4, f5, f6, f7⟩, hl5⟩ := t8)
        | (refine HC.out.mono ?_; rintro e w4 (⟨ch, rfl, hf⟩ | ⟨y, D2, b2, rfl, t5, t6, HX4⟩); exact ⟨rfl, hf⟩; unfold Cells8 at t5; unfold TokB at t6; obtain ⟨n0, n1, n2, n3, n4, n5, n6, n7⟩ := t5; obtain ⟨k0, k1, k2, k3⟩ := t6))
      all_goals
        go_wp2_with fail
        obtain ⟨g1, g2, g3, g4, g5, g6, g7, g8⟩ := HX5.out
        go_roundg (ts.length - b2)
        case measure => have := g4.lt; omega
        case rel => exact ⟨b2, m, opNV t kb, _, g1, g2, g3, g4, g5, g6, g7, (by have := HLe.out; show _ <= _; omega), Nat.le_refl _⟩
end Go.Proofs.YtlhmofphpfdjlaaGreatDoor
