/- Part. -/
import Derived.Test.YtlhmofphpfdjlaaGreatDoorPart19
set_option maxRecDepth 100000
set_option maxHeartbeats 4000000
/- Expressions that the parser makes. -/
namespace Go.Proofs.YtlhmofphpfdjlaaGreatDoor
open Go.Proofs.Tryz
open Go.RowKit
section
variable {w w' : World} {lo lo' n m : Nat} {x : NV} {D : Ty} {ka : Option Addr} {ks : List Ty} {a : Option Addr} {ns : List (List UInt8)}
theorem namesF_lower (h : NamesF w lo a ns) (hl : lo' <= lo) : NamesF w lo' a ns := by
  rcases h with h | ⟨b, o, e, hb, r⟩
  · exact .inl h
  · exact .inr ⟨b, o, e, by omega, r⟩
theorem kidsF_lower (h : KidsF w lo n ka ks) (hl : lo' <= lo) : KidsF w lo' n ka ks := by
  rcases h with h | ⟨b, o, e, hb, hc, r⟩
  · exact .inl h
  · refine .inr ⟨b, o, e, by omega, hc, fun i hi => ?_⟩
    obtain ⟨c0, c1, c2, c3, e0, e1, e2, e3, ht⟩ := r i hi
    exact ⟨c0, c1, c2, c3, e0, e1, e2, e3, tyF_lower ht hl⟩
theorem kidsF_mono (h : KidsF w lo n ka ks) (hm : n <= m) : KidsF w lo m ka ks := by
  rcases h with h | ⟨b, o, e, hb, hc, r⟩
  · exact .inl h
  · refine .inr ⟨b, o, e, hb, hc, fun i hi => ?_⟩
    obtain ⟨c0, c1, c2, c3, e0, e1, e2, e3, ht⟩ := r i hi
    exact ⟨c0, c1, c2, c3, e0, e1, e2, e3, tyF_mono ht hm⟩
theorem nodeF_lower (h : NodeF w lo n x D) (hl : lo' <= lo) : NodeF w lo' n x D := by
  induction n generalizing x D with
  | zero => exact h.elim
  | succ n ih =>
    obtain ⟨tys, ns, ks, e, h1, h2, h3, h4, h5⟩ := h
    refine ⟨tys, ns, ks, e, h1, h2, kidsF_lower h3 hl, namesF_lower h4 hl, ?_⟩
    rcases h5 with h5 | ⟨b, o, e, hb, hcl, hc⟩
    · exact .inl h5
    · refine .inr ⟨b, o, e, by omega, hcl, fun i hi => ?_⟩
      obtain ⟨y, hy, ht⟩ := hc i hi
      exact ⟨y, hy, ih ht⟩
theorem nodeF_mono (h : NodeF w lo n x D) (hm : n <= m) : NodeF w lo m x D := by
  induction n generalizing m x D with
  | zero => exact h.elim
  | succ n ih =>
    obtain ⟨m, rfl⟩ : ∃ p, m = p + 1 := ⟨m - 1, by omega⟩
    obtain ⟨tys, ns, ks, e, h1, h2, h3, h4, h5⟩ := h
    refine ⟨tys, ns, ks, e, h1, h2, kidsF_mono h3 (by omega), h4, ?_⟩
    rcases h5 with h5 | ⟨b, o, e, hb, hcl, hc⟩
    · exact .inl h5
    · refine .inr ⟨b, o, e, hb, hcl, fun i hi => ?_⟩
      obtain ⟨y, hy, ht⟩ := hc i hi
      exact ⟨y, hy, ih ht (by omega)⟩
end
/-- An expression that was made: it lies from block lo on. -/
def NdV (lo : Nat) (w : World) (x : NV) (D : Ty) : Prop := ∃ m, NodeF w lo m x D
def NdE (lo : Nat) (w : World) (v : Value) (D : Ty) : Prop := ∃ x : NV, v = x.val /\ NdV lo w x D
/-- Eight stores into a box. -/
abbrev put8 (w : World) (b : Nat) (x : NV) : World := (((((((w.setCell ⟨b, 0, none⟩ (.int .i64 x.k)).setCell ⟨b, 1, none⟩ (.string x.tx)).setCell ⟨b, 2, none⟩ (.int .i64 x.N)).setCell ⟨b, 3, none⟩ (.int .i64 x.li)).setCell ⟨b, 4, none⟩ (.int .i64 x.co)).setCell ⟨b, 5, none⟩ (.slice x.ta x.tl x.tc)).setCell ⟨b, 6, none⟩ (.slice x.na x.nl x.nc)).setCell ⟨b, 7, none⟩ (.slice x.ka x.kl x.kc)
abbrev zNV : NV := ⟨0, ⟨#[]⟩, 0, 0, 0, none, 0, 0, none, 0, 0, none, 0, 0⟩
section
variable {w w' : World} {lo lo' b pb : Nat} {x y : NV} {D : Ty}
theorem put8_heap (h : w.heap[b]? = some y.obj) : (put8 w b x).heap[b]? = some x.obj := by
  have h0 := cells_setCell (o := 0) (u := .int .i64 x.k) h
  simp only [List.setIfInBounds_toArray, List.set_cons_zero] at h0
  have h1 := cells_setCell (o := 1) (u := .string x.tx) h0
  simp only [List.setIfInBounds_toArray, List.set_cons_zero, List.set_cons_succ] at h1
  have h2 := cells_setCell (o := 2) (u := .int .i64 x.N) h1
  simp only [List.setIfInBounds_toArray, List.set_cons_zero, List.set_cons_succ] at h2
  have h3 := cells_setCell (o := 3) (u := .int .i64 x.li) h2
  simp only [List.setIfInBounds_toArray, List.set_cons_zero, List.set_cons_succ] at h3
  have h4 := cells_setCell (o := 4) (u := .int .i64 x.co) h3
  simp only [List.setIfInBounds_toArray, List.set_cons_zero, List.set_cons_succ] at h4
  have h5 := cells_setCell (o := 5) (u := .slice x.ta x.tl x.tc) h4
  simp only [List.setIfInBounds_toArray, List.set_cons_zero, List.set_cons_succ] at h5
  have h6 := cells_setCell (o := 6) (u := .slice x.na x.nl x.nc) h5
  simp only [List.setIfInBounds_toArray, List.set_cons_zero, List.set_cons_succ] at h6
  have h7 := cells_setCell (o := 7) (u := .slice x.ka x.kl x.kc) h6
  simp only [List.setIfInBounds_toArray, List.set_cons_zero, List.set_cons_succ] at h7
  exact h7
theorem put8_size : (put8 w b x).heap.size = w.heap.size := by
  unfold put8
  rw [size_set, size_set, size_set, size_set, size_set, size_set, size_set, size_set]
theorem put8_other {i : Nat} (hi : i ≠ b) : (put8 w b x).heap[i]? = w.heap[i]? := by
  unfold put8
  rw [Below.heap_setCell _ _ _ _ hi, Below.heap_setCell _ _ _ _ hi, Below.heap_setCell _ _ _ _ hi, Below.heap_setCell _ _ _ _ hi, Below.heap_setCell _ _ _ _ hi, Below.heap_setCell _ _ _ _ hi, Below.heap_setCell _ _ _ _ hi, Below.heap_setCell _ _ _ _ hi]
theorem stay_put8 (h : Stay pb w w') (hp : pb < w.heap.size) (hb : w.heap.size <= b) (x : NV) : Stay pb w (put8 w' b x) :=
  (((((((h.own hp hb 0 _).own hp hb 1 _).own hp hb 2 _).own hp hb 3 _).own hp hb 4 _).own hp hb 5 _).own hp hb 6 _).own hp hb 7 _
theorem ps_put8 {tb cap a d : Nat} {ts : List Tok} (h : Ps w pb tb cap ts a d) (hb : pb < b) (x : NV) : Ps (put8 w b x) pb tb cap ts a d :=
  (((((((h.other hb 0 _).other hb 1 _).other hb 2 _).other hb 3 _).other hb 4 _).other hb 5 _).other hb 6 _).other hb 7 _
theorem below_put8 {B : Nat} {u : World} (h : Below B u w) (hb : B <= b) (x : NV) : Below B u (put8 w b x) :=
  (((((((h.setCell hb _).setCell hb _).setCell hb _).setCell hb _).setCell hb _).setCell hb _).setCell hb _).setCell hb _
theorem NdV.keep (h : NdV lo w x D) (hs : w.heap.size <= w'.heap.size) (hk : ∀ b, lo <= b -> b < w.heap.size -> w'.heap[b]? = w.heap[b]?) : NdV lo w' x D := by
  obtain ⟨m, h⟩ := h
  exact ⟨m, nodeF_keep h hs hk⟩
theorem NdV.lower (h : NdV lo w x D) (hl : lo' <= lo) : NdV lo' w x D := by
  obtain ⟨m, h⟩ := h
  exact ⟨m, nodeF_lower h hl⟩
theorem NdV.stay (h : NdV lo w x D) (hs : Stay pb w w') (hp : pb < lo) : NdV lo w' x D := h.keep hs.size fun b hb hl => hs.keep b (by omega) hl
theorem NdV.below (h : NdV lo w x D) (hb : Below w.heap.size w w') : NdV lo w' x D := h.keep hb.size fun b _ hl => hb.block b hl
theorem NdV.put8 (h : NdV lo w x D) (hb : b < lo) (y : NV) : NdV lo (put8 w b y) x D := h.keep (by rw [put8_size]; exact Nat.le_refl _) fun i hi _ => put8_other (by omega)
theorem NdV.alloc (h : NdV lo w x D) (o : Obj) : NdV lo (w.alloc o) x D := h.keep (by simp) fun i _ hl => Below.heap_alloc _ _ _ hl
theorem NdV.set1 (h : NdV lo w x D) (hb : b < lo) (o : Nat) (u : Value) : NdV lo (w.setCell ⟨b, o, none⟩ u) x D :=
  h.keep (by rw [size_set]; exact Nat.le_refl _) fun i hi _ => Below.heap_setCell _ _ _ _ (by show i ≠ b; omega)
/-- Another place. -/
theorem NdV.place (h : NdV lo w x D) (li co : Nat) : ∃ k tx N l c tys ns ks, D = mkE k tx N l c tys ns ks /\ NdV lo w { x with li := li, co := co } (mkE k tx N li co tys ns ks) := by
  obtain ⟨m, h⟩ := h
  cases m with
  | zero => exact h.elim
  | succ m =>
    obtain ⟨tys, ns, ks, e, h1, h2, h3, h4, h5⟩ := h
    exact ⟨_, _, _, _, _, _, _, _, e, m + 1, tys, ns, ks, rfl, h1, h2, h3, h4, h5⟩
end
theorem heap_at2 (w : World) (o1 o2 o3 : Obj) : (((w.alloc o1).alloc o2).alloc o3).heap[w.heap.size + 1 + 1]? = some o3 := by
  have := heap_alloc_last ((w.alloc o1).alloc o2) o3
  simpa using this
theorem heap_at4 (w : World) (o1 o2 o3 o4 o5 : Obj) : (((((w.alloc o1).alloc o2).alloc o3).alloc o4).alloc o5).heap[w.heap.size + 1 + 1 + 1 + 1]? = some o5 := by
  have := heap_alloc_last ((((w.alloc o1).alloc o2).alloc o3).alloc o4) o5
  simpa using this
theorem heap_at34 (w : World) (o1 o2 o3 o4 o5 : Obj) : (((((w.alloc o1).alloc o2).alloc o3).alloc o4).alloc o5).heap[w.heap.size + 1 + 1 + 1]? = some o4 := by
  refine (Below.heap_alloc _ _ _ (by simp)).trans ?_
  have := heap_alloc_last (((w.alloc o1).alloc o2).alloc o3) o4
  simpa using this
/-- The eight cells of a box, and that it may be written. -/
def Box8 (W : World) (b : Nat) (x : NV) : Prop :=
  (W.cell? ⟨b, 0, none⟩ = some (.int .i64 x.k) /\ W.cell? ⟨b, 1, none⟩ = some (.string x.tx) /\ W.cell? ⟨b, 2, none⟩ = some (.int .i64 x.N) /\ W.cell? ⟨b, 3, none⟩ = some (.int .i64 x.li) /\ W.cell? ⟨b, 4, none⟩ = some (.int .i64 x.co) /\
  W.cell? ⟨b, 5, none⟩ = some (.slice x.ta x.tl x.tc) /\ W.cell? ⟨b, 6, none⟩ = some (.slice x.na x.nl x.nc) /\ W.cell? ⟨b, 7, none⟩ = some (.slice x.ka x.kl x.kc)) /\
  (W.frozen? ⟨b, 0, none⟩ = false /\ W.frozen? ⟨b, 1, none⟩ = false /\ W.frozen? ⟨b, 2, none⟩ = false /\ W.frozen? ⟨b, 3, none⟩ = false /\ W.frozen? ⟨b, 4, none⟩ = false /\ W.frozen? ⟨b, 5, none⟩ = false /\ W.frozen? ⟨b, 6, none⟩ = false /\ W.frozen? ⟨b, 7, none⟩ = false) /\ b < W.heap.size
theorem box8 {W : World} {b : Nat} {x : NV} (h : W.heap[b]? = some x.obj) : Box8 W b x := by
  refine ⟨⟨?_, ?_, ?_, ?_, ?_, ?_, ?_, ?_⟩, ⟨?_, ?_, ?_, ?_, ?_, ?_, ?_, ?_⟩, lt_of_block h⟩
  all_goals first | (rw [cell_of_row _ _ _ _ _ _ h]; rfl) | simp [World.frozen?, h]
theorem placed_c (t : Tok) (x : NV) (w : World) : Calls prog 94 #[tokV t, x.val] w fun e w' => e = .returned (NV.val { x with li := t.line, co := t.col }) /\ Below w.heap.size w w' := by
  obtain ⟨k, tx, li, co⟩ := t
  obtain ⟨xk, xt, xN, xl, xc, a1, a2, a3, b1, b2, b3, c1, c2, c3⟩ := x
  go_enter func94, ntmps94
  go_wp2_with fail
  go_region
  all_goals
    go_wp2_with fail
    refine bodyPost_ret (results_cell_row rfl _ _ (w.heap.size + 1 + 1) 27 _ (0, 0) _ rfl (heap_at2 _ _ _ _) underlying27 rfl (by kernel_rfl)) rfl ⟨rfl, ?_⟩
    exact ((((Below.refl _ w).alloc (Nat.le_refl _) _).alloc (by simp) _).alloc (by simp; omega) _).drew
abbrev opNV (t : Tok) (kb : Nat) : NV := ⟨14, ⟨t.text.toArray⟩, 0, t.line, t.col, none, 0, 0, none, 0, 0, some ⟨kb, 0, none⟩, 2, 2⟩
theorem operation_c (t : Tok) (x y : NV) (w : World) : Calls prog 115 #[tokV t, x.val, y.val] w fun e w' => ∃ kb, e = .returned (opNV t kb).val /\ Below w.heap.size w w' /\ w.heap.size <= kb /\ w'.heap[kb]? = some (.cells #[.int .i64 x.k, .string x.tx, .int .i64 x.N, .int .i64 x.li, .int .i64 x.co, .slice x.ta x.tl x.tc, .slice x.na x.nl x.nc, .slice x.ka x.kl x.kc, .int .i64 y.k, .string y.tx, .int .i64 y.N, .int .i64 y.li, .int .i64 y.co, .slice y.ta y.tl y.tc, .slice y.na y.nl y.nc, .slice y.ka y.kl y.kc] 27) := by
  obtain ⟨k, tx, li, co⟩ := t
  obtain ⟨xk, xt, xN, xl, xc, a1, a2, a3, b1, b2, b3, c1, c2, c3⟩ := x
  obtain ⟨yk, yt, yN, yl, yc, d1, d2, d3, e1, e2, e3, f1, f2, f3⟩ := y
  obtain ⟨o1, ho1⟩ : ∃ o : Obj, o = .cells #[.int .i64 k, .string ⟨tx.toArray⟩, .int .i64 li, .int .i64 co] 98 := ⟨_, rfl⟩
  have HC := hideP (fun w5 => placed_c ⟨k, tx, li, co⟩ ⟨14, ⟨tx.toArray⟩, 0, 0, 0, none, 0, 0, none, 0, 0, some ⟨w.heap.size + 1 + 1 + 1 + 1, 0, none⟩, 2, 2⟩ w5)
  clear ho1
  go_enter func115, ntmps115
  go_wp2_with fail
  refine (HC.out _).mono ?_
  rintro e w1 ⟨rfl, hb1⟩
  have HB : Hid (Below w.heap.size w w1) := below_next (below_next (below_next (below_next (below_next (bl_alloc _ _) (bl_alloc _ _)) (bl_alloc _ _)) (bl_alloc _ _)) (bl_alloc _ _)) hb1
  have HK := hideP ((hb1.block (w.heap.size + 1 + 1 + 1 + 1) (by simp)).trans (heap_at4 w _ _ _ _ _))
  have hr := (hb1.block (w.heap.size + 1 + 1 + 1) (by simp)).trans (heap_at34 w _ _ _ _ _)
  have HR : Hid (w1.heap[w.heap.size + 1 + 1 + 1]? = some zNV.obj) := hr
  obtain ⟨⟨r0, r1, r2, r3, r4, r5, r6, r7⟩, ⟨f0, f1', f2', f3', f4, f5, f6, f7⟩, hr1⟩ := box8 HR.out
  clear hb1 hr
  go_wp2_with fail
  refine bodyPost_ret (results_cell_row rfl _ _ (w.heap.size + 1 + 1 + 1) 27 _ (0, 0) _ rfl (put8_heap (x := opNV ⟨k, tx, li, co⟩ (w.heap.size + 1 + 1 + 1 + 1)) HR.out) underlying27 rfl (by kernel_rfl)) rfl ⟨w.heap.size + 1 + 1 + 1 + 1, rfl, ?_, by omega, ?_⟩
  · exact below_put8 (x := opNV ⟨k, tx, li, co⟩ (w.heap.size + 1 + 1 + 1 + 1)) HB.out (by omega)
  · exact (put8_other (x := opNV ⟨k, tx, li, co⟩ (w.heap.size + 1 + 1 + 1 + 1)) (by omega)).trans HK.out
/-- Two expressions in a row that was just made. -/
theorem ndV_two {lo kb : Nat} {w : World} {x y : NV} {D1 D2 : Ty} (h1 : NdV lo w x D1) (h2 : NdV lo w y D2) (hk : w.heap[kb]? = some (.cells #[.int .i64 x.k, .string x.tx, .int .i64 x.N, .int .i64 x.li, .int .i64 x.co, .slice x.ta x.tl x.tc, .slice x.na x.nl x.nc, .slice x.ka x.kl x.kc, .int .i64 y.k, .string y.tx, .int .i64 y.N, .int .i64 y.li, .int .i64 y.co, .slice y.ta y.tl y.tc, .slice y.na y.nl y.nc, .slice y.ka y.kl y.kc] 27)) (hlo : lo <= kb)
    (z : NV) (tys : List Ty) (ns : List (List UInt8)) (hz : z.ka = some ⟨kb, 0, none⟩ /\ z.kl = 2) (ht : z.tl = tys.length /\ tys.length <= 100000 /\ ∃ m, KidsF w lo m z.ta tys) (hn : z.nl = ns.length /\ ns.length <= 100000 /\ NamesF w lo z.na ns) :
    NdV lo w z (mkE z.k z.tx.data.toList z.N z.li z.co tys ns [D1, D2]) := by
  obtain ⟨m1, h1⟩ := h1
  obtain ⟨m2, h2⟩ := h2
  obtain ⟨t1, t2, m3, t3⟩ := ht
  refine ⟨max (max m1 m2) m3 + 1, tys, ns, [D1, D2], rfl, ⟨t1, hn.1, hz.2⟩, ⟨t2, hn.2.1, (by show 2 <= _; omega)⟩, kidsF_mono t3 (Nat.le_max_right _ _), hn.2.2, .inr ⟨kb, 0, hz.1, hlo, ⟨_, _, hk⟩, fun i hi => ?_⟩⟩
  match i, hi with
  | 0, _ => exact ⟨x, ⟨by rw [cell_of_row _ _ _ _ _ _ hk]; rfl, by rw [cell_of_row _ _ _ _ _ _ hk]; rfl, by rw [cell_of_row _ _ _ _ _ _ hk]; rfl, by rw [cell_of_row _ _ _ _ _ _ hk]; rfl, by rw [cell_of_row _ _ _ _ _ _ hk]; rfl, by rw [cell_of_row _ _ _ _ _ _ hk]; rfl, by rw [cell_of_row _ _ _ _ _ _ hk]; rfl, by rw [cell_of_row _ _ _ _ _ _ hk]; rfl⟩, nodeF_mono h1 (Nat.le_trans (Nat.le_max_left _ _) (Nat.le_max_left _ _))⟩
  | 1, _ => exact ⟨y, ⟨by rw [cell_of_row _ _ _ _ _ _ hk]; rfl, by rw [cell_of_row _ _ _ _ _ _ hk]; rfl, by rw [cell_of_row _ _ _ _ _ _ hk]; rfl, by rw [cell_of_row _ _ _ _ _ _ hk]; rfl, by rw [cell_of_row _ _ _ _ _ _ hk]; rfl, by rw [cell_of_row _ _ _ _ _ _ hk]; rfl, by rw [cell_of_row _ _ _ _ _ _ hk]; rfl, by rw [cell_of_row _ _ _ _ _ _ hk]; rfl⟩, nodeF_mono h2 (Nat.le_trans (Nat.le_max_right _ _) (Nat.le_max_left _ _))⟩
theorem op_node {lo kb : Nat} {w w' : World} {t : Tok} {x y : NV} {D1 D2 : Ty} (h1 : NdV lo w x D1) (h2 : NdV lo w y D2) (hb : Below w.heap.size w w') (hlo : lo <= kb) (hk : w'.heap[kb]? = some (.cells #[.int .i64 x.k, .string x.tx, .int .i64 x.N, .int .i64 x.li, .int .i64 x.co, .slice x.ta x.tl x.tc, .slice x.na x.nl x.nc, .slice x.ka x.kl x.kc, .int .i64 y.k, .string y.tx, .int .i64 y.N, .int .i64 y.li, .int .i64 y.co, .slice y.ta y.tl y.tc, .slice y.na y.nl y.nc, .slice y.ka y.kl y.kc] 27)) :
    NdV lo w' (opNV t kb) (mkE 14 t.text 0 t.line t.col [] [] [D1, D2]) :=
  ndV_two (h1.below hb) (h2.below hb) hk hlo (opNV t kb) [] [] ⟨rfl, rfl⟩ ⟨rfl, Nat.zero_le _, 0, .inl rfl⟩ ⟨rfl, Nat.zero_le _, .inl rfl⟩
end Go.Proofs.YtlhmofphpfdjlaaGreatDoor
