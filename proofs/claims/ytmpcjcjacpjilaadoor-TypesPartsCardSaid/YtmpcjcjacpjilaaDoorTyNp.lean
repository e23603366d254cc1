/- What types.norm leaves; types.Tag and types.parts by contracts; small facts of memory. -/
import Derived.Test.YtmpcjcjacpjilaaDoorTyFresh
import Derived.Test.YtmpcjcjacpjilaaDoorLib3
namespace Go.Proofs.YtmpcjcjacpjilaaDoor
open Go.RowKit

abbrev zTy : Value := .agg #[.int .i64 0, .string ⟨#[]⟩, .slice none 0 0, .slice none 0 0]

/-- What norm leaves. -/
def NormPost (w : World) (n : Nat) (D : Ty) (e : Ending) (w' : World) : Prop :=
  Below w.heap.size w w' ∧ match normT n D with
  | none => e = .returned (.tuple #[zTy, .bool false])
  | some E => ∃ v, e = .returned (.tuple #[v, .bool true]) ∧ TyF w' w.heap.size n v E

theorem results_cell_tmp {fn : Func} {p u : Tmp} {ty : TypeId} (h : fn.results = #[.cell p ty, .tmp u]) (tmps : Array Value) {P : Program} {w : World} {g : Nat} {t : TypeId} {cs : Array Value} {fr : Nat × Nat} {fs : Array Field}
    (hp : tmps.getD p undef = .pointer (some ⟨g, 0, none⟩)) (hg : w.heap[g]? = some (.cells cs t fr))
    (hu : P.underlying ty = some (.struct fs)) (hi : (P.info? ty).map (·.size) = some cs.size) :
    (results fn tmps).run P w = .ok (.tuple #[.agg cs, tmps.getD u undef]) w := by
  have hp' : tmps[p]?.getD undef = .pointer (some ⟨g, 0, none⟩) := by simpa using hp
  simp [results, h, hp', asAddr, run_loadVar_row w g t ty cs fr _ hg hu rfl hi]

theorem ty_size : (Tryd.prog.info? 25).map (·.size) = some 4 := by kernel_rfl
theorem info_ty : (Tryd.prog.info? 25).map (fun i => (i.zero, i.size, i.bytes)) = some (some zTy, 4, 72) := by kernel_rfl
theorem info_str : (Tryd.prog.info? 9).map (fun i => (i.zero, i.size, i.bytes)) = some (some (.string ⟨#[]⟩), 1, 16) := by kernel_rfl

theorem cells_setCell {w : World} {b o : Nat} {cs : Array Value} {u : Value} {t : TypeId} {fr : Nat × Nat} (h : w.heap[b]? = some (.cells cs t fr)) : (w.setCell ⟨b, o, none⟩ u).heap[b]? = some (.cells (cs.setIfInBounds o u) t fr) := by
  simp [World.setCell, Array.getElem?_modify, h]

/-- Four cells stored into a row of four. -/
theorem set4 {w : World} {b : Nat} {y0 y1 y2 y3 : Value} {t : TypeId} {fr : Nat × Nat} (h : w.heap[b]? = some (.cells #[y0, y1, y2, y3] t fr)) (x0 x1 x2 x3 : Value) :
    ((((w.setCell ⟨b, 0, none⟩ x0).setCell ⟨b, 1, none⟩ x1).setCell ⟨b, 2, none⟩ x2).setCell ⟨b, 3, none⟩ x3).heap[b]? = some (.cells #[x0, x1, x2, x3] t fr) :=
  cells_setCell (cells_setCell (cells_setCell (cells_setCell h)))

theorem below_set4 {B : Nat} {a w : World} {b : Nat} (h : Below B a w) (hb : B ≤ b) (x0 x1 x2 x3 : Value) : Below B a ((((w.setCell ⟨b, 0, none⟩ x0).setCell ⟨b, 1, none⟩ x1).setCell ⟨b, 2, none⟩ x2).setCell ⟨b, 3, none⟩ x3) :=
  (((h.setCell hb _).setCell hb _).setCell hb _).setCell hb _

/-- .. and all other rows stay. -/
theorem other_set4 {w : World} {b i : Nat} (hi : i ≠ b) (x0 x1 x2 x3 : Value) : ((((w.setCell ⟨b, 0, none⟩ x0).setCell ⟨b, 1, none⟩ x1).setCell ⟨b, 2, none⟩ x2).setCell ⟨b, 3, none⟩ x3).heap[i]? = w.heap[i]? := by
  rw [Below.heap_setCell _ _ _ _ hi, Below.heap_setCell _ _ _ _ hi, Below.heap_setCell _ _ _ _ hi, Below.heap_setCell _ _ _ _ hi]

def tagV (k : Int) : Int := if 1 ≤ k ∧ k ≤ 6 then k - 1 else -1

set_option maxHeartbeats 1000000 in
theorem tag_c (k : Int) (nm : ByteArray) (na : Option Addr) (nl nc : Nat) (ka : Option Addr) (kl kc : Nat) (w : World) :
    Calls Tryd.prog 12 #[.agg #[.int .i64 k, .string nm, .slice na nl nc, .slice ka kl kc]] w fun e w' => e = .returned (.int .i64 (tagV k)) ∧ w' = w.alloc (tyO k nm na nl nc ka kl kc) := by
  by_cases hk : 1 ≤ k ∧ k ≤ 6
  · have : k = 1 ∨ k = 2 ∨ k = 3 ∨ k = 4 ∨ k = 5 ∨ k = 6 := by omega
    rcases this with rfl | rfl | rfl | rfl | rfl | rfl
    all_goals
      go_enter Tryd.func12, Tryd.ntmps12
      go_wp2
      go_ret
      exact ⟨rfl, rfl⟩
  · have h1 : (k == 1) = false := by rw [beq_eq_false_iff_ne]; omega
    have h2 : (k == 2) = false := by rw [beq_eq_false_iff_ne]; omega
    have h3 : (k == 3) = false := by rw [beq_eq_false_iff_ne]; omega
    have h4 : (k == 4) = false := by rw [beq_eq_false_iff_ne]; omega
    have h5 : (k == 5) = false := by rw [beq_eq_false_iff_ne]; omega
    have h6 : (k == 6) = false := by rw [beq_eq_false_iff_ne]; omega
    have ht : tagV k = -1 := by unfold tagV; rw [if_neg hk]
    rw [ht]
    clear hk ht
    go_enter Tryd.func12, Tryd.ntmps12
    go_wp2
    go_ret
    exact ⟨rfl, rfl⟩

set_option maxHeartbeats 1000000 in
/-- The Kids of a union. -/
theorem parts_union (nm : ByteArray) (na : Option Addr) (nl nc : Nat) (ka : Option Addr) (kl kc : Nat) (w : World) :
    Calls Tryd.prog 24 #[.agg #[.int .i64 7, .string nm, .slice na nl nc, .slice ka kl kc]] w fun e w' => e = .returned (.slice ka kl kc) ∧ w' = w.alloc (tyO 7 nm na nl nc ka kl kc) := by
  go_enter Tryd.func24, Tryd.ntmps24
  go_wp2
  go_ret
  exact ⟨rfl, rfl⟩

set_option maxHeartbeats 1000000 in
/-- Of any other type: itself. -/
theorem parts_other (k : Int) (hk : k ≠ 7) (nm : ByteArray) (na : Option Addr) (nl nc : Nat) (ka : Option Addr) (kl kc : Nat) (w : World) :
    Calls Tryd.prog 24 #[.agg #[.int .i64 k, .string nm, .slice na nl nc, .slice ka kl kc]] w fun e w' => e = .returned (.slice (some ⟨w.heap.size + 1, 0, none⟩) 1 1) ∧ w' = (w.alloc (tyO k nm na nl nc ka kl kc)).alloc (tyO k nm na nl nc ka kl kc) := by
  have h1 : (k == 7) = false := by rw [beq_eq_false_iff_ne]; exact hk
  go_enter Tryd.func24, Tryd.ntmps24
  go_wp2
  go_ret
  exact ⟨rfl, rfl⟩

theorem heap_at1 (w : World) (o1 o2 : Obj) : ((w.alloc o1).alloc o2).heap[w.heap.size + 1]? = some o2 := by
  have := heap_alloc_last (w.alloc o1) o2
  simpa using this

theorem normT_rec {n : Nat} {nm : List UInt8} {ns : List (List UInt8)} {ks : List Ty} : normT (n + 1) (mkT 5 nm ns ks) = match ks.mapM (normT n) with | none => none | some ks => recordV ns ks := by
  rw [normT, kind_mk, kids_mk, names_mk, if_neg (by decide), if_pos (by decide)]
  rfl
theorem normT_fun {n : Nat} {nm : List UInt8} {ns : List (List UInt8)} {ks : List Ty} : normT (n + 1) (mkT 6 nm ns ks) = match ks.mapM (normT n) with | none => none | some ks => funV ks := by
  rw [normT, kind_mk, kids_mk, if_neg (by decide), if_pos (by decide)]
  rfl
theorem normT_uni {n : Nat} {nm : List UInt8} {ns : List (List UInt8)} {ks : List Ty} : normT (n + 1) (mkT 7 nm ns ks) = match ks.mapM (normT n) with | none => none | some ks => unionV n ks := by
  rw [normT, kind_mk, kids_mk, if_neg (by decide), if_pos (by decide)]
  rfl
theorem normT_base {n : Nat} {k : Int} {nm : List UInt8} {ns : List (List UInt8)} {ks : List Ty} (h : 0 ≤ k ∧ k ≤ 4) : normT (n + 1) (mkT k nm ns ks) = some (mkT k [] [] []) := by
  rw [normT, kind_mk, if_pos h]
theorem normT_other {n : Nat} {k : Int} {nm : List UInt8} {ns : List (List UInt8)} {ks : List Ty} (h : k < 0 ∨ 7 < k) : normT (n + 1) (mkT k nm ns ks) = none := by
  rw [normT, kind_mk, if_neg (by omega), if_neg (by omega)]

/-- norm, of types at most n deep. -/
def NormAt (n : Nat) : Prop := ∀ (v : Value) (D : Ty) (w : World), TyAt w false n v D → Words w → Calls Tryd.prog 28 #[v] w (NormPost w n D)

/-- The two ways of norm. -/
theorem norm_ways {w w' : World} {n : Nat} {D : Ty} {e : Ending} (h : NormPost w n D e w') : Below w.heap.size w w' ∧ ((normT n D = none ∧ e = .returned (.tuple #[zTy, .bool false])) ∨
    ∃ (E : Ty) (k : Int) (nm : ByteArray) (na : Option Addr) (nl nc : Nat) (ka : Option Addr) (kl kc : Nat), normT n D = some E ∧ e = .returned (.tuple #[.agg #[.int .i64 k, .string nm, .slice na nl nc, .slice ka kl kc], .bool true]) ∧
      TyF w' w.heap.size n (.agg #[.int .i64 k, .string nm, .slice na nl nc, .slice ka kl kc]) E ∧ kindT E = k) := by
  obtain ⟨hb, hm⟩ := h
  refine ⟨hb, ?_⟩
  cases hn : normT n D with
  | none =>
    rw [hn] at hm
    exact .inl ⟨rfl, hm⟩
  | some E =>
    rw [hn] at hm
    obtain ⟨v, he, ht⟩ := hm
    obtain ⟨k, nm, na, nl, nc, ka, kl, kc, rfl, e2⟩ := tyF_form ht
    exact .inr ⟨E, k, nm, na, nl, nc, ka, kl, kc, rfl, he, ht, e2⟩

/-- The result's row, ahead of what is stored: four cells of the call's own. -/
theorem res_facts {w1 : World} {b : Nat} {y0 y1 y2 y3 : Value} {t : TypeId} (h : w1.heap[b]? = some (.cells #[y0, y1, y2, y3] t)) :
    (w1.cell? ⟨b, 0, none⟩ = some y0 ∧ w1.cell? ⟨b, 1, none⟩ = some y1 ∧ w1.cell? ⟨b, 2, none⟩ = some y2 ∧ w1.cell? ⟨b, 3, none⟩ = some y3) ∧
    (w1.frozen? ⟨b, 0, none⟩ = false ∧ w1.frozen? ⟨b, 1, none⟩ = false ∧ w1.frozen? ⟨b, 2, none⟩ = false ∧ w1.frozen? ⟨b, 3, none⟩ = false) ∧ b < w1.heap.size := by
  refine ⟨⟨?_, ?_, ?_, ?_⟩, ⟨?_, ?_, ?_, ?_⟩, lt_of_block h⟩
  all_goals first | (rw [cell_of_row _ _ _ _ _ _ h]; rfl) | simp [World.frozen?, h]

theorem size_set4 (w : World) (b : Nat) (x0 x1 x2 x3 : Value) : ((((w.setCell ⟨b, 0, none⟩ x0).setCell ⟨b, 1, none⟩ x1).setCell ⟨b, 2, none⟩ x2).setCell ⟨b, 3, none⟩ x3).heap.size = w.heap.size := by simp [World.setCell]

/-- Nothing is answered: noughts in the result's row, with a box behind. -/
theorem no_answer {w w1 : World} {n : Nat} {D : Ty} {b : Nat} {y0 y1 y2 y3 : Value} (hn : normT n D = none) (hb : Below w.heap.size w w1) (hw : w.heap.size ≤ b) (h : w1.heap[b]? = some (.cells #[y0, y1, y2, y3] 25)) (o : Obj) :
    ((((((w1.setCell ⟨b, 0, none⟩ (.int .i64 0)).setCell ⟨b, 1, none⟩ (.string ⟨#[]⟩)).setCell ⟨b, 2, none⟩ (.slice none 0 0)).setCell ⟨b, 3, none⟩ (.slice none 0 0)).alloc o).heap[b]? = some (.cells #[.int .i64 0, .string ⟨#[]⟩, .slice none 0 0, .slice none 0 0] 25)) ∧
    NormPost w n D (.returned (.tuple #[zTy, .bool false])) (((((w1.setCell ⟨b, 0, none⟩ (.int .i64 0)).setCell ⟨b, 1, none⟩ (.string ⟨#[]⟩)).setCell ⟨b, 2, none⟩ (.slice none 0 0)).setCell ⟨b, 3, none⟩ (.slice none 0 0)).alloc o) := by
  refine ⟨(Below.heap_alloc _ _ _ (by rw [size_set4]; exact lt_of_block h)).trans (set4 h _ _ _ _), (below_set4 hb hw _ _ _ _).alloc (by rw [size_set4]; exact hb.size) _, ?_⟩
  rw [hn]

/-- .. with none. -/
theorem no_answer0 {w w1 : World} {n : Nat} {D : Ty} {b : Nat} {y0 y1 y2 y3 : Value} (hn : normT n D = none) (hb : Below w.heap.size w w1) (hw : w.heap.size ≤ b) (h : w1.heap[b]? = some (.cells #[y0, y1, y2, y3] 25)) :
    (((((w1.setCell ⟨b, 0, none⟩ (.int .i64 0)).setCell ⟨b, 1, none⟩ (.string ⟨#[]⟩)).setCell ⟨b, 2, none⟩ (.slice none 0 0)).setCell ⟨b, 3, none⟩ (.slice none 0 0)).heap[b]? = some (.cells #[.int .i64 0, .string ⟨#[]⟩, .slice none 0 0, .slice none 0 0] 25)) ∧
    NormPost w n D (.returned (.tuple #[zTy, .bool false])) ((((w1.setCell ⟨b, 0, none⟩ (.int .i64 0)).setCell ⟨b, 1, none⟩ (.string ⟨#[]⟩)).setCell ⟨b, 2, none⟩ (.slice none 0 0)).setCell ⟨b, 3, none⟩ (.slice none 0 0)) := by
  refine ⟨set4 h _ _ _ _, below_set4 hb hw _ _ _ _, ?_⟩
  rw [hn]

theorem norm_conv {w w' : World} {n : Nat} {D : Ty} {e e' : Ending} (h : NormPost w n D e' w') (he : e = e') : NormPost w n D e w' := by rw [he]; exact h

/-- An answer. -/
theorem an_answer {w w' : World} {n : Nat} {D E : Ty} {e : Ending} {v : Value} (hn : normT n D = some E) (hb : Below w.heap.size w w') (h : TyF w' w.heap.size n v E) (he : e = .returned (.tuple #[v, .bool true])) : NormPost w n D e w' := by
  refine ⟨hb, ?_⟩
  rw [hn]
  exact ⟨v, he, h⟩
end Go.Proofs.YtmpcjcjacpjilaaDoor
