/- Part. -/
import Derived.Laws.OwnMore
import Derived.Test.YtlhmofphpfdjlaaGreatDoorPart4
set_option maxRecDepth 100000
set_option maxHeartbeats 4000000
/- Types in memory that was made from some block on, in rows that bear no mark. -/
namespace Go.Proofs.YtlhmofphpfdjlaaGreatDoor
open Go.Proofs.Tryz
open Go.RowKit
def NamesF (w : World) (lo : Nat) (a : Option Addr) (ns : List (List UInt8)) : Prop :=
  ns = [] ∨ ∃ b o, a = some ⟨b, o, none⟩ /\ lo <= b /\ b < w.heap.size /\ ∀ i (h : i < ns.length), w.cell? ⟨b, o + i, none⟩ = some (.string ⟨ns[i].toArray⟩)
def RowF (w : World) (lo : Nat) (T : Value -> Ty -> Prop) (ka : Option Addr) (ks : List Ty) : Prop :=
  ks = [] ∨ ∃ b o, ka = some ⟨b, o, none⟩ /\ lo <= b /\ CleanB w b /\ ∀ i (h : i < ks.length), ∃ c0 c1 c2 c3, w.cell? ⟨b, o + i * 4, none⟩ = some c0 /\ w.cell? ⟨b, o + i * 4 + 1, none⟩ = some c1 /\
      w.cell? ⟨b, o + i * 4 + 2, none⟩ = some c2 /\ w.cell? ⟨b, o + i * 4 + 3, none⟩ = some c3 /\ T (.agg #[c0, c1, c2, c3]) ks[i]
/-- The value v is a type, at most n deep, whose tree is D, in memory from block lo on. -/
def TyF (w : World) (lo : Nat) : Nat -> Value -> Ty -> Prop
  | 0, _, _ => False
  | n + 1, v, D => ∃ (k : Int) (nm : ByteArray) (na : Option Addr) (nc : Nat) (ka : Option Addr) (kc : Nat) (ns : List (List UInt8)) (ks : List Ty),
    v = .agg #[.int .i64 k, .string nm, .slice na ns.length nc, .slice ka ks.length kc] /\ D = mkT k nm.data.toList ns ks /\ (Lit.int .i64 k).wf = true /\ nm.size <= reachBytes /\ (∀ s ∈ ns, s.length <= reachBytes) /\
    (ns.length <= nc /\ ns.length <= reachBytes) /\ (ks.length <= kc /\ ks.length <= reachBytes) /\ NamesF w lo na ns /\ RowF w lo (fun v D => TyF w lo n v D) ka ks
abbrev KidsF (w : World) (lo n : Nat) (ka : Option Addr) (ks : List Ty) : Prop := RowF w lo (fun v D => TyF w lo n v D) ka ks
theorem clean_frozen {w : World} {b o : Nat} (h : CleanB w b) : w.frozen? ⟨b, o, none⟩ = false := by
  obtain ⟨cs, t, h⟩ := h
  simp [World.frozen?, h]
theorem clean_lt {w : World} {b : Nat} (h : CleanB w b) : b < w.heap.size := by
  obtain ⟨cs, t, h⟩ := h
  exact lt_of_block h
section
variable {w w' : World} {lo lo' n m : Nat} {v : Value} {D : Ty} {a ka : Option Addr} {ns : List (List UInt8)} {ks : List Ty}
theorem NamesF.at (h : NamesF w lo a ns) : NamesAt w a ns := by
  rcases h with h | ⟨b, o, e, _, hlt, hc⟩
  · exact .inl h
  · exact .inr ⟨b, o, e, hlt, hc⟩
theorem tyF_at (h : TyF w lo n v D) : TyAt w true n v D := by
  induction n generalizing v D with
  | zero => exact h.elim
  | succ n ih =>
    obtain ⟨k, nm, na, nc, ka, kc, ns, ks, h1, h2, h3, h4, h5, h6, h7, h8, h9⟩ := h
    refine ⟨k, nm, na, nc, ka, kc, ns, ks, h1, h2, h3, h4, h5, h6, h7, h8.at, ?_⟩
    rcases h9 with h9 | ⟨b, o, e, _, hcl, hc⟩
    · exact .inl h9
    · refine .inr ⟨b, o, e, clean_lt hcl, clean_frozen hcl, fun _ => hcl, fun i hi => ?_⟩
      obtain ⟨c0, c1, c2, c3, e0, e1, e2, e3, ht⟩ := hc i hi
      exact ⟨c0, c1, c2, c3, e0, e1, e2, e3, ih ht⟩
/-- It stays while blocks from lo on stay. -/
theorem tyF_keep (h : TyF w lo n v D) (hsz : w.heap.size <= w'.heap.size) (hk : ∀ b, lo <= b -> b < w.heap.size -> w'.heap[b]? = w.heap[b]?) : TyF w' lo n v D := by
  induction n generalizing v D with
  | zero => exact h.elim
  | succ n ih =>
    obtain ⟨k, nm, na, nc, ka, kc, ns, ks, h1, h2, h3, h4, h5, h6, h7, h8, h9⟩ := h
    refine ⟨k, nm, na, nc, ka, kc, ns, ks, h1, h2, h3, h4, h5, h6, h7, ?_, ?_⟩
    · rcases h8 with h8 | ⟨b, o, e, hl, hlt, hc⟩
      · exact .inl h8
      · exact .inr ⟨b, o, e, hl, Nat.lt_of_lt_of_le hlt hsz, fun i hi => (World.cell?_of_block (w := w) (a := ⟨b, o + i, none⟩) (hk b hl hlt)).trans (hc i hi)⟩
    · rcases h9 with h9 | ⟨b, o, e, hl, hcl, hc⟩
      · exact .inl h9
      · have hlt := clean_lt hcl
        have hcl' : CleanB w' b := by
          obtain ⟨cs, t, hh⟩ := hcl
          exact ⟨cs, t, (hk b hl hlt).trans hh⟩
        refine .inr ⟨b, o, e, hl, hcl', fun i hi => ?_⟩
        obtain ⟨c0, c1, c2, c3, e0, e1, e2, e3, ht⟩ := hc i hi
        have hcell : ∀ j, w'.cell? ⟨b, j, none⟩ = w.cell? ⟨b, j, none⟩ := fun j => World.cell?_of_block (w := w) (a := ⟨b, j, none⟩) (hk b hl hlt)
        exact ⟨c0, c1, c2, c3, (hcell _).trans e0, (hcell _).trans e1, (hcell _).trans e2, (hcell _).trans e3, ih ht⟩
theorem tyF_below (h : TyF w lo n v D) (hb : Below w.heap.size w w') : TyF w' lo n v D := tyF_keep h hb.size fun b _ hlt => hb.block b hlt
theorem tyF_lower (h : TyF w lo n v D) (hl : lo' <= lo) : TyF w lo' n v D := by
  induction n generalizing v D with
  | zero => exact h.elim
  | succ n ih =>
    obtain ⟨k, nm, na, nc, ka, kc, ns, ks, h1, h2, h3, h4, h5, h6, h7, h8, h9⟩ := h
    refine ⟨k, nm, na, nc, ka, kc, ns, ks, h1, h2, h3, h4, h5, h6, h7, ?_, ?_⟩
    · rcases h8 with h8 | ⟨b, o, e, hb, hlt, hc⟩
      · exact .inl h8
      · exact .inr ⟨b, o, e, by omega, hlt, hc⟩
    · rcases h9 with h9 | ⟨b, o, e, hb, hcl, hc⟩
      · exact .inl h9
      · refine .inr ⟨b, o, e, by omega, hcl, fun i hi => ?_⟩
        obtain ⟨c0, c1, c2, c3, e0, e1, e2, e3, ht⟩ := hc i hi
        exact ⟨c0, c1, c2, c3, e0, e1, e2, e3, ih ht⟩
theorem tyF_mono (h : TyF w lo n v D) (hm : n <= m) : TyF w lo m v D := by
  induction n generalizing m v D with
  | zero => exact h.elim
  | succ n ih =>
    obtain ⟨m, rfl⟩ : ∃ p, m = p + 1 := ⟨m - 1, by omega⟩
    obtain ⟨k, nm, na, nc, ka, kc, ns, ks, h1, h2, h3, h4, h5, h6, h7, h8, h9⟩ := h
    refine ⟨k, nm, na, nc, ka, kc, ns, ks, h1, h2, h3, h4, h5, h6, h7, h8, ?_⟩
    rcases h9 with h9 | ⟨b, o, e, hb, hcl, hc⟩
    · exact .inl h9
    · refine .inr ⟨b, o, e, hb, hcl, fun i hi => ?_⟩
      obtain ⟨c0, c1, c2, c3, e0, e1, e2, e3, ht⟩ := hc i hi
      exact ⟨c0, c1, c2, c3, e0, e1, e2, e3, ih ht (by omega)⟩
/-- A fresh type is a value of four cells. -/
theorem tyF_form (h : TyF w lo n v D) : ∃ (k : Int) (nm : ByteArray) (na : Option Addr) (nl nc : Nat) (ka : Option Addr) (kl kc : Nat), v = .agg #[.int .i64 k, .string nm, .slice na nl nc, .slice ka kl kc] /\ kindT D = k := by
  cases n with
  | zero => exact h.elim
  | succ n =>
    obtain ⟨k, nm, na, nc, ka, kc, ns, ks, h1, h2, _⟩ := h
    exact ⟨k, nm, na, _, nc, ka, _, kc, h1, by rw [h2]; rfl⟩
theorem kidF_at (h : KidsF w lo n ka ks) {i : Nat} (hi : i < ks.length) :
    ∃ b o k nm na nl nc la ll lc, ka = some ⟨b, o, none⟩ /\ b < w.heap.size /\ w.cell? ⟨b, o + i * 4, none⟩ = some (.int .i64 k) /\ w.cell? ⟨b, o + i * 4 + 1, none⟩ = some (.string nm) /\ w.cell? ⟨b, o + i * 4 + 2, none⟩ = some (.slice na nl nc) /\
      w.cell? ⟨b, o + i * 4 + 3, none⟩ = some (.slice la ll lc) /\ TyF w lo n (.agg #[.int .i64 k, .string nm, .slice na nl nc, .slice la ll lc]) ks[i] := by
  rcases h with rfl | ⟨b, o, rfl, _, hcl, hc⟩
  · cases hi
  · obtain ⟨c0, c1, c2, c3, q0, q1, q2, q3, ht⟩ := hc i hi
    obtain ⟨k, nm, na, nl, nc, ka, kl, kc, e, _⟩ := tyF_form ht
    injection e with e
    injection e with e
    injection e with e0 e
    injection e with e1 e
    injection e with e2 e
    injection e with e3 _
    subst e0 e1 e2 e3
    exact ⟨b, o, k, nm, na, nl, nc, ka, kl, kc, rfl, clean_lt hcl, q0, q1, q2, q3, ht⟩
end
/-- The cells of a type. -/
abbrev Cells := Int × ByteArray × Option Addr × Nat × Nat × Option Addr × Nat × Nat
def Cells.list (c : Cells) : List Value := [.int .i64 c.1, .string c.2.1, .slice c.2.2.1 c.2.2.2.1 c.2.2.2.2.1, .slice c.2.2.2.2.2.1 c.2.2.2.2.2.2.1 c.2.2.2.2.2.2.2]
def Cells.val (c : Cells) : Value := .agg c.list.toArray
theorem tyF_cells {w : World} {lo n : Nat} {v : Value} {D : Ty} (h : TyF w lo n v D) : ∃ c : Cells, v = c.val /\ kindT D = c.1 := by
  obtain ⟨k, nm, na, nl, nc, ka, kl, kc, e, e2⟩ := tyF_form h
  exact ⟨(k, nm, na, nl, nc, ka, kl, kc), e, e2⟩
theorem cells_flat : ∀ (cs : List Cells) (i : Nat) (hi : i < cs.length) (j : Nat), j < 4 -> (cs.flatMap Cells.list)[i * 4 + j]? = cs[i].list[j]?
  | [], _, hi, _, _ => by cases hi
  | c :: cs, 0, _, j, hj => by
    rw [List.flatMap_cons, List.getElem?_append_left (by simp [Cells.list]; omega)]
    simp
  | c :: cs, i + 1, hi, j, hj => by
    rw [List.flatMap_cons, List.getElem?_append_right (by simp [Cells.list]; omega)]
    have := cells_flat cs i (by simpa using hi) j hj
    simp only [List.getElem_cons_succ]
    rw [<- this]
    congr 1
    simp [Cells.list]
    omega
/-- Rows that the call owns, as rows of fresh types. -/
theorem kidsF_of_owns {w : World} {base lo t n : Nat} {v : Value} {cs : List Cells} {ks : List Ty} (h : w.ownsRow base t 4 v cs.length (cs.flatMap Cells.list)) (hl : lo <= base) (hlen : ks.length = cs.length)
    (hk : ∀ i (h1 : i < cs.length) (h2 : i < ks.length), TyF w lo n cs[i].val ks[i]) : ∃ a cap, v = .slice a ks.length cap /\ ks.length <= cap /\ KidsF w lo n a ks := by
  rcases h.2 with ⟨rfl, h0⟩ | ⟨g, cap, cur, rfl, hg, hh, hcap, _, _, hcur⟩
  · have : ks = [] := List.length_eq_zero_iff.1 (by omega)
    exact ⟨none, 0, by rw [this]; rfl, by rw [this]; exact Nat.le_refl _, .inl this⟩
  · refine ⟨some ⟨g, 0, none⟩, cap, by rw [hlen], by omega, .inr ⟨g, 0, rfl, by omega, ⟨_, _, hh⟩, fun i hi => ?_⟩⟩
    have hi' : i < cs.length := by omega
    have hcell : ∀ j, j < 4 -> w.cell? ⟨g, 0 + i * 4 + j, none⟩ = cs[i].list[j]? := by
      intro j hj
      have h1 := h.cellAt (i * 4 + j) (by omega)
      rw [show 0 + i * 4 + j = i * 4 + j by omega, h1]
      exact cells_flat cs i hi' j hj
    exact ⟨_, _, _, _, hcell 0 (by omega), hcell 1 (by omega), hcell 2 (by omega), hcell 3 (by omega), hk i hi' hi⟩
end Go.Proofs.YtlhmofphpfdjlaaGreatDoor
/- Small facts of memory that the contracts share; of whatever functions. -/
namespace Go.Proofs.YtlhmofphpfdjlaaGreatDoor
open Go.Proofs.Tryz
open Go.RowKit
abbrev zTy : Value := .agg #[.int .i64 0, .string ⟨#[]⟩, .slice none 0 0, .slice none 0 0]
theorem results_cell_tmp {fn : Func} {p u : Tmp} {ty : TypeId} (h : fn.results = #[.cell p ty, .tmp u]) (tmps : Array Value) {P : Program} {w : World} {g : Nat} {t : TypeId} {cs : Array Value} {fr : Nat × Nat} {fs : Array Field}
    (hp : tmps.getD p undef = .pointer (some ⟨g, 0, none⟩)) (hg : w.heap[g]? = some (.cells cs t fr))
    (hu : P.underlying ty = some (.struct fs)) (hi : (P.info? ty).map (·.size) = some cs.size) :
    (results fn tmps).run P w = .ok (.tuple #[.agg cs, tmps.getD u undef]) w := by
  have hp' : tmps[p]?.getD undef = .pointer (some ⟨g, 0, none⟩) := by simpa using hp
  simp [results, h, hp', asAddr, run_loadVar_row w g t ty cs fr _ hg hu rfl hi]
theorem ty_size : (prog.info? 44).map (·.size) = some 4 := by kernel_rfl
theorem info_ty : (prog.info? 44).map (fun i => (i.zero, i.size, i.bytes)) = some (some zTy, 4, 72) := by kernel_rfl
theorem info_str : (prog.info? 9).map (fun i => (i.zero, i.size, i.bytes)) = some (some (.string ⟨#[]⟩), 1, 16) := by kernel_rfl
theorem cells_setCell {w : World} {b o : Nat} {cs : Array Value} {u : Value} {t : TypeId} {fr : Nat × Nat} (h : w.heap[b]? = some (.cells cs t fr)) : (w.setCell ⟨b, o, none⟩ u).heap[b]? = some (.cells (cs.setIfInBounds o u) t fr) := by
  simp [World.setCell, Array.getElem?_modify, h]
/-- Four cells stored into a row of four. -/
theorem set4 {w : World} {b : Nat} {y0 y1 y2 y3 : Value} {t : TypeId} {fr : Nat × Nat} (h : w.heap[b]? = some (.cells #[y0, y1, y2, y3] t fr)) (x0 x1 x2 x3 : Value) :
    ((((w.setCell ⟨b, 0, none⟩ x0).setCell ⟨b, 1, none⟩ x1).setCell ⟨b, 2, none⟩ x2).setCell ⟨b, 3, none⟩ x3).heap[b]? = some (.cells #[x0, x1, x2, x3] t fr) :=
  cells_setCell (cells_setCell (cells_setCell (cells_setCell h)))
theorem below_set4 {B : Nat} {a w : World} {b : Nat} (h : Below B a w) (hb : B <= b) (x0 x1 x2 x3 : Value) : Below B a ((((w.setCell ⟨b, 0, none⟩ x0).setCell ⟨b, 1, none⟩ x1).setCell ⟨b, 2, none⟩ x2).setCell ⟨b, 3, none⟩ x3) :=
  (((h.setCell hb _).setCell hb _).setCell hb _).setCell hb _
/-- .. and all other rows stay. -/
theorem other_set4 {w : World} {b i : Nat} (hi : i ≠ b) (x0 x1 x2 x3 : Value) : ((((w.setCell ⟨b, 0, none⟩ x0).setCell ⟨b, 1, none⟩ x1).setCell ⟨b, 2, none⟩ x2).setCell ⟨b, 3, none⟩ x3).heap[i]? = w.heap[i]? := by
  rw [Below.heap_setCell _ _ _ _ hi, Below.heap_setCell _ _ _ _ hi, Below.heap_setCell _ _ _ _ hi, Below.heap_setCell _ _ _ _ hi]
theorem heap_at1 (w : World) (o1 o2 : Obj) : ((w.alloc o1).alloc o2).heap[w.heap.size + 1]? = some o2 := by
  have := heap_alloc_last (w.alloc o1) o2
  simpa using this
/-- The result's row, ahead of what is stored: four cells of the call's own. -/
theorem res_facts {w1 : World} {b : Nat} {y0 y1 y2 y3 : Value} {t : TypeId} (h : w1.heap[b]? = some (.cells #[y0, y1, y2, y3] t)) :
    (w1.cell? ⟨b, 0, none⟩ = some y0 /\ w1.cell? ⟨b, 1, none⟩ = some y1 /\ w1.cell? ⟨b, 2, none⟩ = some y2 /\ w1.cell? ⟨b, 3, none⟩ = some y3) /\
    (w1.frozen? ⟨b, 0, none⟩ = false /\ w1.frozen? ⟨b, 1, none⟩ = false /\ w1.frozen? ⟨b, 2, none⟩ = false /\ w1.frozen? ⟨b, 3, none⟩ = false) /\ b < w1.heap.size := by
  refine ⟨⟨?_, ?_, ?_, ?_⟩, ⟨?_, ?_, ?_, ?_⟩, lt_of_block h⟩
  all_goals first | (rw [cell_of_row _ _ _ _ _ _ h]; rfl) | simp [World.frozen?, h]
theorem size_set4 (w : World) (b : Nat) (x0 x1 x2 x3 : Value) : ((((w.setCell ⟨b, 0, none⟩ x0).setCell ⟨b, 1, none⟩ x1).setCell ⟨b, 2, none⟩ x2).setCell ⟨b, 3, none⟩ x3).heap.size = w.heap.size := by simp [World.setCell]
end Go.Proofs.YtlhmofphpfdjlaaGreatDoor
/- types.Size by a contract. -/
namespace Go.Proofs.YtlhmofphpfdjlaaGreatDoor
open Go.Proofs.Tryz
open Go.RowKit
end Go.Proofs.YtlhmofphpfdjlaaGreatDoor
/- What types.norm leaves; types.Tag and types.parts by contracts; small facts of memory. -/
namespace Go.Proofs.YtlhmofphpfdjlaaGreatDoor
open Go.Proofs.Tryz
open Go.RowKit
/-- What norm leaves. -/
def NormPost (w : World) (n : Nat) (D : Ty) (e : Ending) (w' : World) : Prop :=
  Below w.heap.size w w' /\ match normT n D with
  | none => e = .returned (.tuple #[zTy, .bool false])
  | some E => ∃ v, e = .returned (.tuple #[v, .bool true]) /\ TyF w' w.heap.size n v E
def tagV (k : Int) : Int := if 1 <= k /\ k <= 6 then k - 1 else -1
theorem normT_rec {n : Nat} {nm : List UInt8} {ns : List (List UInt8)} {ks : List Ty} : normT (n + 1) (mkT 5 nm ns ks) = match ks.mapM (normT n) with | none => none | some ks => recordV ns ks := by
  rw [normT, kind_mk, kids_mk, names_mk, if_neg (by decide), if_pos (by decide)]
  rfl
theorem normT_fun {n : Nat} {nm : List UInt8} {ns : List (List UInt8)} {ks : List Ty} : normT (n + 1) (mkT 6 nm ns ks) = match ks.mapM (normT n) with | none => none | some ks => funV ks := by
  rw [normT, kind_mk, kids_mk, if_neg (by decide), if_pos (by decide)]
  rfl
theorem normT_uni {n : Nat} {nm : List UInt8} {ns : List (List UInt8)} {ks : List Ty} : normT (n + 1) (mkT 7 nm ns ks) = match ks.mapM (normT n) with | none => none | some ks => unionV n ks := by
  rw [normT, kind_mk, kids_mk, if_neg (by decide), if_pos (by decide)]
  rfl
theorem normT_base {n : Nat} {k : Int} {nm : List UInt8} {ns : List (List UInt8)} {ks : List Ty} (h : 0 <= k /\ k <= 4) : normT (n + 1) (mkT k nm ns ks) = some (mkT k [] [] []) := by
  rw [normT, kind_mk, if_pos h]
theorem normT_other {n : Nat} {k : Int} {nm : List UInt8} {ns : List (List UInt8)} {ks : List Ty} (h : k < 0 ∨ 7 < k) : normT (n + 1) (mkT k nm ns ks) = none := by
  rw [normT, kind_mk, if_neg (by omega), if_neg (by omega)]
/-- The two ways of norm. -/
theorem norm_ways {w w' : World} {n : Nat} {D : Ty} {e : Ending} (h : NormPost w n D e w') : Below w.heap.size w w' /\ ((normT n D = none /\ e = .returned (.tuple #[zTy, .bool false])) ∨
    ∃ (E : Ty) (k : Int) (nm : ByteArray) (na : Option Addr) (nl nc : Nat) (ka : Option Addr) (kl kc : Nat), normT n D = some E /\ e = .returned (.tuple #[.agg #[.int .i64 k, .string nm, .slice na nl nc, .slice ka kl kc], .bool true]) /\
      TyF w' w.heap.size n (.agg #[.int .i64 k, .string nm, .slice na nl nc, .slice ka kl kc]) E /\ kindT E = k) := by
  obtain ⟨hb, hm⟩ := h
  refine ⟨hb, ?_⟩
  cases hn : normT n D with
  | none =>
    rw [hn] at hm
    exact .inl ⟨rfl, hm⟩
  | some E =>
    rw [hn] at hm
    obtain ⟨v, he, ht⟩ := hm
    obtain ⟨k, nm, na, nl, nc, ka, kl, kc, rfl, e2⟩ := tyF_form ht
    exact .inr ⟨E, k, nm, na, nl, nc, ka, kl, kc, rfl, he, ht, e2⟩
/-- Nothing is answered: noughts in the result's row, with a box behind. -/
theorem no_answer {w w1 : World} {n : Nat} {D : Ty} {b : Nat} {y0 y1 y2 y3 : Value} (hn : normT n D = none) (hb : Below w.heap.size w w1) (hw : w.heap.size <= b) (h : w1.heap[b]? = some (.cells #[y0, y1, y2, y3] 44)) (o : Obj) :
    ((((((w1.setCell ⟨b, 0, none⟩ (.int .i64 0)).setCell ⟨b, 1, none⟩ (.string ⟨#[]⟩)).setCell ⟨b, 2, none⟩ (.slice none 0 0)).setCell ⟨b, 3, none⟩ (.slice none 0 0)).alloc o).heap[b]? = some (.cells #[.int .i64 0, .string ⟨#[]⟩, .slice none 0 0, .slice none 0 0] 44)) /\
    NormPost w n D (.returned (.tuple #[zTy, .bool false])) (((((w1.setCell ⟨b, 0, none⟩ (.int .i64 0)).setCell ⟨b, 1, none⟩ (.string ⟨#[]⟩)).setCell ⟨b, 2, none⟩ (.slice none 0 0)).setCell ⟨b, 3, none⟩ (.slice none 0 0)).alloc o) := by
  refine ⟨(Below.heap_alloc _ _ _ (by rw [size_set4]; exact lt_of_block h)).trans (set4 h _ _ _ _), (below_set4 hb hw _ _ _ _).alloc (by rw [size_set4]; exact hb.size) _, ?_⟩
  rw [hn]
/-- .. with none. -/
theorem no_answer0 {w w1 : World} {n : Nat} {D : Ty} {b : Nat} {y0 y1 y2 y3 : Value} (hn : normT n D = none) (hb : Below w.heap.size w w1) (hw : w.heap.size <= b) (h : w1.heap[b]? = some (.cells #[y0, y1, y2, y3] 44)) :
    (((((w1.setCell ⟨b, 0, none⟩ (.int .i64 0)).setCell ⟨b, 1, none⟩ (.string ⟨#[]⟩)).setCell ⟨b, 2, none⟩ (.slice none 0 0)).setCell ⟨b, 3, none⟩ (.slice none 0 0)).heap[b]? = some (.cells #[.int .i64 0, .string ⟨#[]⟩, .slice none 0 0, .slice none 0 0] 44)) /\
    NormPost w n D (.returned (.tuple #[zTy, .bool false])) ((((w1.setCell ⟨b, 0, none⟩ (.int .i64 0)).setCell ⟨b, 1, none⟩ (.string ⟨#[]⟩)).setCell ⟨b, 2, none⟩ (.slice none 0 0)).setCell ⟨b, 3, none⟩ (.slice none 0 0)) := by
  refine ⟨set4 h _ _ _ _, below_set4 hb hw _ _ _ _, ?_⟩
  rw [hn]
theorem norm_conv {w w' : World} {n : Nat} {D : Ty} {e e' : Ending} (h : NormPost w n D e' w') (he : e = e') : NormPost w n D e w' := by rw [he]; exact h
/-- An answer. -/
theorem an_answer {w w' : World} {n : Nat} {D E : Ty} {e : Ending} {v : Value} (hn : normT n D = some E) (hb : Below w.heap.size w w') (h : TyF w' w.heap.size n v E) (he : e = .returned (.tuple #[v, .bool true])) : NormPost w n D e w' := by
  refine ⟨hb, ?_⟩
  rw [hn]
  exact ⟨v, he, h⟩
end Go.Proofs.YtlhmofphpfdjlaaGreatDoor
/- What tree asks of a written type, of normal types: the small functions by contracts. -/
namespace Go.Proofs.YtlhmofphpfdjlaaGreatDoor
open Go.Proofs.Tryz
open Go.RowKit
theorem holds_c (a b n : Nat) (h1 : a <= n) (h2 : (n : Int) <= b) (w : World) :
    Calls prog 72 #[.agg #[.int .i64 a, .int .i64 b], .int .i64 n] w fun e w' => e = .returned (.bool true) /\ Below w.heap.size w w' := by
  have e1 : (a : Int) <= (n : Int) := by omega
  go_enter func72, ntmps72
  go_wp2_with fail
  go_ret
  exact ⟨rfl, bl_alloc _ _⟩
theorem text_none (w : World) : Calls prog 73 #[.string ⟨#[]⟩, .int .i64 0] w fun e w' => e = .returned (.bool true) /\ w' = w := by
  go_enter func73, ntmps73
  go_wp2_with fail
  go_ret
  exact ⟨rfl, rfl⟩
theorem names_none (a : Option Addr) (c k : Nat) (w : World) : Calls prog 74 #[.slice a 0 c, .bool false, .int .i64 k] w fun e w' => e = .returned (.bool true) /\ w' = w := by
  go_enter func74, ntmps74
  go_wp2_with fail
  go_ret
  exact ⟨rfl, rfl⟩
theorem name_cell {w : World} {na : Option Addr} {ns : List (List UInt8)} (h : NamesAt w na ns) {i : Nat} (hi : i < ns.length) : ∃ b o, na = some ⟨b, o, none⟩ /\ b < w.heap.size /\ w.cell? ⟨b, o + i, none⟩ = some (.string ⟨ns[i].toArray⟩) := by
  rcases h with rfl | ⟨b, o, e, hb, hc⟩
  · cases hi
  · exact ⟨b, o, e, hb, hc i hi⟩
theorem allNames_c (na : Option Addr) (nc : Nat) (ns : List (List UInt8)) (w : World) (hw : Words w) (h : NamesAt w na ns) (hl : ns.length <= 140737488351232) (hn : ∀ s ∈ ns, nameV s = true) :
    Calls prog 104 #[.slice na ns.length nc, .func (.func 101) #[] #[]] w fun e w' => e = .returned (.bool true) /\ w' = w := by
  have HN := hideP h
  have HV := hideP hn
  have HW := hideP hw
  clear h hn hw
  go_enter func104, ntmps104
  go_wp2_with fail
  go_loopw [9] (fun i wx => ∃ j : Nat, i = .int .i64 j /\ j <= ns.length /\ wx = w) (fun i _ => ns.length - (intOf i).toNat)
  case atStart => exact ⟨0, rfl, Nat.zero_le _, rfl⟩
  case round =>
    obtain ⟨j, rfl, hj, rfl⟩ := hrel
    by_cases hlt : j < ns.length
    · have hjl : (j : Int) < (ns.length : Int) := by omega
      obtain ⟨b, o, rfl, hb, hc⟩ := name_cell HN.out hlt
      have hv := HV.out _ (List.getElem_mem hlt)
      obtain ⟨S, hS⟩ : ∃ S : ByteArray, S = ⟨ns[j].toArray⟩ := ⟨_, rfl⟩
      rw [<- hS] at hc
      have hn : nameV S.data.toList = true := by rw [hS]; simpa using hv
      have hz : S.size <= 140737488351232 := by
        by_cases h0 : S.size = 0
        · omega
        · have := nameV_cons (S := S) (by omega)
          rw [hn] at this
          simp at this
          omega
      have HC := hideP (name_c S hz wr HW.out)
      rw [hn] at HC
      clear hS hv hn
      go_wp2_with fail
      refine HC.out.mono ?_
      rintro e w' ⟨rfl, rfl⟩
      go_wp2_with fail
      exact ⟨⟨j + 1, by go_num, by omega, by first | rfl | trivial⟩, by simp [intOf]; omega⟩
    · have hjl : ¬ (j : Int) < (ns.length : Int) := by omega
      go_wp2_with fail
      go_ret
      exact ⟨rfl, by first | rfl | trivial⟩
theorem names_all (na : Option Addr) (nc : Nat) (ns : List (List UInt8)) (w : World) (hw : Words w) (h : NamesAt w na ns) (hl : ns.length <= 140737488351232) (hn : ∀ s ∈ ns, nameV s = true) :
    Calls prog 74 #[.slice na ns.length nc, .bool true, .int .i64 ns.length] w fun e w' => e = .returned (.bool true) /\ w' = w := by
  have HC := hideP (allNames_c na nc ns w hw h hl hn)
  have e1 : ((ns.length : Int) == (ns.length : Int)) = true := by simp
  clear h hn hw
  go_enter func74, ntmps74
  go_wp2_with fail
  refine HC.out.mono ?_
  rintro e w' ⟨rfl, rfl⟩
  go_wp2_with fail
  go_ret
  exact ⟨rfl, rfl⟩
/-- What a written type may have, by its kind: text, least and most Kids, whether it is named; as the package's table lays it. -/
def formV (k : Nat) : Nat × Nat × Nat × Bool := if k = 5 then (0, 0, 9223372036854775807, true) else if k = 6 then (0, 2, 2, false) else if k = 7 then (0, 2, 9223372036854775807, false) else if k = 8 then (1, 0, 0, false) else (0, 0, 0, false)
def Forms (w : World) : Prop := ∀ k, k < 9 -> w.cell? ⟨6, k * 4, none⟩ = some (.int .i64 (formV k).1) /\ w.cell? ⟨6, k * 4 + 1, none⟩ = some (.int .i64 (formV k).2.1) /\ w.cell? ⟨6, k * 4 + 2, none⟩ = some (.int .i64 (formV k).2.2.1) /\ w.cell? ⟨6, k * 4 + 3, none⟩ = some (.bool (formV k).2.2.2)
theorem Forms.lt {w : World} (h : Forms w) : 6 < w.heap.size := World.block_lt_of_cell? w _ (h 0 (by decide)).1
theorem Forms.below {w w' : World} (h : Forms w) (hb : Below w.heap.size w w') : Forms w' := fun k hk => by
  obtain ⟨h0, h1, h2, h3⟩ := h k hk
  exact ⟨(hb.cell (show 6 < w.heap.size from h.lt)).trans h0, (hb.cell (show 6 < w.heap.size from h.lt)).trans h1, (hb.cell (show 6 < w.heap.size from h.lt)).trans h2, (hb.cell (show 6 < w.heap.size from h.lt)).trans h3⟩
theorem fits_one (k nl kl : Nat) (na : Option Addr) (nc : Nat) (ka : Option Addr) (kc : Nat) (w : World) (hk : k < 9) (hf : Forms w) (ht : (formV k).1 = 0) (h1 : (formV k).2.1 <= kl) (h2 : kl <= (formV k).2.2.1) (_ : kl <= 140737488351232)
    (hN : ∀ wx, Below w.heap.size w wx -> Calls prog 74 #[.slice na nl nc, .bool (formV k).2.2.2, .int .i64 kl] wx fun e w' => e = .returned (.bool true) /\ w' = wx) :
    Calls prog 107 #[.agg #[.int .i64 k, .string ⟨#[]⟩, .slice na nl nc, .slice ka kl kc]] w fun e w' => e = .returned (.bool true) /\ Below w.heap.size w w' := by
  have hb0 := bl_alloc w (tyO k ⟨#[]⟩ na nl nc ka kl kc)
  obtain ⟨f0, f1, f2, f3⟩ := hf k hk
  rw [ht] at f0
  have hlt := hf.lt
  obtain ⟨⟨t, l, m, nb⟩, hq⟩ : ∃ q, q = formV k := ⟨_, rfl⟩
  rw [<- hq] at f1 f2 f3 h1 h2 hN
  simp only at f1 f2 f3 h1 h2 hN
  have HH := hideP (fun wx => holds_c l m kl h1 (by omega) wx)
  have HN := hideP hN
  have HB0 := hideP hb0
  have k9 : ¬ (9 : Int) <= (k : Int) := by omega
  have k9' : (k : Int) < 9 := by omega
  have k0 : ¬ (k : Int) < 0 := by omega
  clear hq ht hf hN hb0
  go_enter func107, ntmps107
  go_wp2_with fail
  have HT : Hid (((w.alloc (tyO k ⟨#[]⟩ na nl nc ka kl kc)).alloc (.cells #[.int .i64 0, .int .i64 l, .int .i64 m, .bool nb] 176)).heap[w.heap.size]? = some (tyO k ⟨#[]⟩ na nl nc ka kl kc)) := (Below.heap_alloc _ _ _ (by simp)).trans (heap_alloc_last w _)
  have HO : Hid (((w.alloc (tyO k ⟨#[]⟩ na nl nc ka kl kc)).alloc (.cells #[.int .i64 0, .int .i64 l, .int .i64 m, .bool nb] 176)).heap[w.heap.size + 1]? = some (.cells #[.int .i64 0, .int .i64 l, .int .i64 m, .bool nb] 176)) := heap_at1 w _ _
  refine (HH.out _).mono ?_
  rintro e w1 ⟨rfl, hb1⟩
  have HB1 := hideP (below_next (below_next HB0.out (bl_alloc _ _)) hb1)
  obtain ⟨⟨x0, x1, x2, x3⟩, _, hltx⟩ := res_facts ((hb1.block _ (lt_of_block HT.out)).trans HT.out)
  obtain ⟨⟨y0, y1, y2, y3⟩, _, hlty⟩ := res_facts ((hb1.block _ (lt_of_block HO.out)).trans HO.out)
  clear hb1 f0 f1 f2 f3
  go_wp2_with fail
  refine (text_none _).mono ?_
  rintro e w2 ⟨rfl, rfl⟩
  go_wp2_with fail
  refine (HN.out _ HB1.out).mono ?_
  rintro e w2 ⟨rfl, rfl⟩
  go_wp2_with fail
  go_ret
  exact ⟨rfl, HB1.out⟩
theorem typeFits_c (n : Nat) (v : Value) (D : Ty) (w : World) (h : TyAt w false (n + 1) v D) (hn : NormT (n + 1) D) (hw : Words w) (hf : Forms w) :
    Calls prog 107 #[v] w fun e w' => e = .returned (.bool true) /\ Below w.heap.size w w' := by
  obtain ⟨k, nm, na, nc, ka, kc, ns, ks, rfl, rfl, _, _, _, ⟨_, hnl⟩, ⟨_, hkl⟩, hns, _⟩ := h
  have hnm : ∀ {l : List UInt8}, nm.data.toList = l -> l = [] -> nm = ⟨#[]⟩ := fun e1 e2 => by
    cases nm
    rw [e2] at e1
    simp at e1
    rw [e1]
  rcases hn with ⟨k', h0, h4, e⟩ | ⟨ns', ks', e, h2, h3, h4, _⟩ | ⟨a, b, e, _⟩ | ⟨ks', e, h2, _⟩
  · obtain ⟨e1, e2, e3, e4⟩ := mkT_inj e
    obtain rfl := hnm e2 rfl
    subst e1 e3 e4
    obtain ⟨m, rfl⟩ : ∃ m : Nat, k = m := ⟨k.toNat, by omega⟩
    have hm : m <= 4 := by omega
    have hfv : formV m = (0, 0, 0, false) := by
      unfold formV
      rw [if_neg (by omega), if_neg (by omega), if_neg (by omega), if_neg (by omega)]
    exact fits_one m 0 0 na nc ka kc w (by omega) hf (by rw [hfv]) (by rw [hfv]; exact Nat.le_refl _) (by rw [hfv]; exact Nat.le_refl _) (by omega) fun wx _ => by rw [hfv]; exact names_none na nc 0 wx
  · obtain ⟨e1, e2, e3, e4⟩ := mkT_inj e
    obtain rfl := hnm e2 rfl
    subst e1 e3 e4
    refine fits_one 5 ns.length ks.length na nc ka kc w (by omega) hf rfl (Nat.zero_le _) (Nat.le_trans hkl (by decide)) hkl fun wx hwx => ?_
    rw [<- h2]
    exact names_all na nc ns wx (hw.below hwx) (names_below hns hwx) hnl h4
  · obtain ⟨e1, e2, e3, e4⟩ := mkT_inj e
    obtain rfl := hnm e2 rfl
    subst e1 e3 e4
    exact fits_one 6 0 2 na nc ka kc w (by omega) hf rfl (Nat.le_refl _) (Nat.le_refl _) (by omega) fun wx _ => names_none na nc 2 wx
  · obtain ⟨e1, e2, e3, e4⟩ := mkT_inj e
    obtain rfl := hnm e2 rfl
    subst e1 e3 e4
    exact fits_one 7 0 ks.length na nc ka kc w (by omega) hf rfl h2 (Nat.le_trans hkl (by decide)) hkl fun wx _ => names_none na nc ks.length wx
end Go.Proofs.YtlhmofphpfdjlaaGreatDoor
