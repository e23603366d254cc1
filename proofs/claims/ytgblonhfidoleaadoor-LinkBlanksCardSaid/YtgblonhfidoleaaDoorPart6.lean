/- Part. -/
import Derived.Laws.OwnMore
import Derived.Test.YtgblonhfidoleaaDoorPart5
set_option maxRecDepth 100000
set_option maxHeartbeats 4000000
/- Types in memory that was made from some block on, in rows that bear no mark. -/
namespace Go.Proofs.YtgblonhfidoleaaDoor
open Go.Proofs.Tryd
open Go.RowKit
def NamesF (w : World) (lo : Nat) (a : Option Addr) (ns : List (List UInt8)) : Prop :=
  ns = [] ∨ ∃ b o, a = some ⟨b, o, none⟩ /\ lo <= b /\ b < w.heap.size /\ ∀ i (h : i < ns.length), w.cell? ⟨b, o + i, none⟩ = some (.string ⟨ns[i].toArray⟩)
def RowF (w : World) (lo : Nat) (T : Value -> Ty -> Prop) (ka : Option Addr) (ks : List Ty) : Prop :=
  ks = [] ∨ ∃ b o, ka = some ⟨b, o, none⟩ /\ lo <= b /\ CleanB w b /\ ∀ i (h : i < ks.length), ∃ c0 c1 c2 c3, w.cell? ⟨b, o + i * 4, none⟩ = some c0 /\ w.cell? ⟨b, o + i * 4 + 1, none⟩ = some c1 /\
      w.cell? ⟨b, o + i * 4 + 2, none⟩ = some c2 /\ w.cell? ⟨b, o + i * 4 + 3, none⟩ = some c3 /\ T (.agg #[c0, c1, c2, c3]) ks[i]
/-- The value v is a type, at most n deep, whose tree is D, in memory from block lo on. -/
def TyF (w : World) (lo : Nat) : Nat -> Value -> Ty -> Prop
  | 0, _, _ => False
  | n + 1, v, D => ∃ (k : Int) (nm : ByteArray) (na : Option Addr) (nc : Nat) (ka : Option Addr) (kc : Nat) (ns : List (List UInt8)) (ks : List Ty),
    v = .agg #[.int .i64 k, .string nm, .slice na ns.length nc, .slice ka ks.length kc] /\ D = mkT k nm.data.toList ns ks /\ (Lit.int .i64 k).wf = true /\ nm.size <= reachBytes /\ (∀ s ∈ ns, s.length <= reachBytes) /\
    (ns.length <= nc /\ ns.length <= reachBytes) /\ (ks.length <= kc /\ ks.length <= reachBytes) /\ NamesF w lo na ns /\ RowF w lo (fun v D => TyF w lo n v D) ka ks
abbrev KidsF (w : World) (lo n : Nat) (ka : Option Addr) (ks : List Ty) : Prop := RowF w lo (fun v D => TyF w lo n v D) ka ks
theorem clean_frozen {w : World} {b o : Nat} (h : CleanB w b) : w.frozen? ⟨b, o, none⟩ = false := by
  obtain ⟨cs, t, h⟩ := h
  simp [World.frozen?, h]
theorem clean_lt {w : World} {b : Nat} (h : CleanB w b) : b < w.heap.size := by
  obtain ⟨cs, t, h⟩ := h
  exact lt_of_block h
section
variable {w w' : World} {lo lo' n m : Nat} {v : Value} {D : Ty} {a ka : Option Addr} {ns : List (List UInt8)} {ks : List Ty}
theorem NamesF.at (h : NamesF w lo a ns) : NamesAt w a ns := by
  rcases h with h | ⟨b, o, e, _, hlt, hc⟩
  · exact .inl h
  · exact .inr ⟨b, o, e, hlt, hc⟩
theorem tyF_at (h : TyF w lo n v D) : TyAt w true n v D := by
  induction n generalizing v D with
  | zero => exact h.elim
  | succ n ih =>
    obtain ⟨k, nm, na, nc, ka, kc, ns, ks, h1, h2, h3, h4, h5, h6, h7, h8, h9⟩ := h
    refine ⟨k, nm, na, nc, ka, kc, ns, ks, h1, h2, h3, h4, h5, h6, h7, h8.at, ?_⟩
    rcases h9 with h9 | ⟨b, o, e, _, hcl, hc⟩
    · exact .inl h9
    · refine .inr ⟨b, o, e, clean_lt hcl, clean_frozen hcl, fun _ => hcl, fun i hi => ?_⟩
      obtain ⟨c0, c1, c2, c3, e0, e1, e2, e3, ht⟩ := hc i hi
      exact ⟨c0, c1, c2, c3, e0, e1, e2, e3, ih ht⟩
/-- It stays while blocks from lo on stay. -/
theorem tyF_keep (h : TyF w lo n v D) (hsz : w.heap.size <= w'.heap.size) (hk : ∀ b, lo <= b -> b < w.heap.size -> w'.heap[b]? = w.heap[b]?) : TyF w' lo n v D := by
  induction n generalizing v D with
  | zero => exact h.elim
  | succ n ih =>
    obtain ⟨k, nm, na, nc, ka, kc, ns, ks, h1, h2, h3, h4, h5, h6, h7, h8, h9⟩ := h
    refine ⟨k, nm, na, nc, ka, kc, ns, ks, h1, h2, h3, h4, h5, h6, h7, ?_, ?_⟩
    · rcases h8 with h8 | ⟨b, o, e, hl, hlt, hc⟩
      · exact .inl h8
      · exact .inr ⟨b, o, e, hl, Nat.lt_of_lt_of_le hlt hsz, fun i hi => (World.cell?_of_block (w := w) (a := ⟨b, o + i, none⟩) (hk b hl hlt)).trans (hc i hi)⟩
    · rcases h9 with h9 | ⟨b, o, e, hl, hcl, hc⟩
      · exact .inl h9
      · have hlt := clean_lt hcl
        have hcl' : CleanB w' b := by
          obtain ⟨cs, t, hh⟩ := hcl
          exact ⟨cs, t, (hk b hl hlt).trans hh⟩
        refine .inr ⟨b, o, e, hl, hcl', fun i hi => ?_⟩
        obtain ⟨c0, c1, c2, c3, e0, e1, e2, e3, ht⟩ := hc i hi
        have hcell : ∀ j, w'.cell? ⟨b, j, none⟩ = w.cell? ⟨b, j, none⟩ := fun j => World.cell?_of_block (w := w) (a := ⟨b, j, none⟩) (hk b hl hlt)
        exact ⟨c0, c1, c2, c3, (hcell _).trans e0, (hcell _).trans e1, (hcell _).trans e2, (hcell _).trans e3, ih ht⟩
theorem tyF_below (h : TyF w lo n v D) (hb : Below w.heap.size w w') : TyF w' lo n v D := tyF_keep h hb.size fun b _ hlt => hb.block b hlt
theorem tyF_lower (h : TyF w lo n v D) (hl : lo' <= lo) : TyF w lo' n v D := by
  induction n generalizing v D with
  | zero => exact h.elim
  | succ n ih =>
    obtain ⟨k, nm, na, nc, ka, kc, ns, ks, h1, h2, h3, h4, h5, h6, h7, h8, h9⟩ := h
    refine ⟨k, nm, na, nc, ka, kc, ns, ks, h1, h2, h3, h4, h5, h6, h7, ?_, ?_⟩
    · rcases h8 with h8 | ⟨b, o, e, hb, hlt, hc⟩
      · exact .inl h8
      · exact .inr ⟨b, o, e, by omega, hlt, hc⟩
    · rcases h9 with h9 | ⟨b, o, e, hb, hcl, hc⟩
      · exact .inl h9
      · refine .inr ⟨b, o, e, by omega, hcl, fun i hi => ?_⟩
        obtain ⟨c0, c1, c2, c3, e0, e1, e2, e3, ht⟩ := hc i hi
        exact ⟨c0, c1, c2, c3, e0, e1, e2, e3, ih ht⟩
theorem tyF_mono (h : TyF w lo n v D) (hm : n <= m) : TyF w lo m v D := by
  induction n generalizing m v D with
  | zero => exact h.elim
  | succ n ih =>
    obtain ⟨m, rfl⟩ : ∃ p, m = p + 1 := ⟨m - 1, by omega⟩
    obtain ⟨k, nm, na, nc, ka, kc, ns, ks, h1, h2, h3, h4, h5, h6, h7, h8, h9⟩ := h
    refine ⟨k, nm, na, nc, ka, kc, ns, ks, h1, h2, h3, h4, h5, h6, h7, h8, ?_⟩
    rcases h9 with h9 | ⟨b, o, e, hb, hcl, hc⟩
    · exact .inl h9
    · refine .inr ⟨b, o, e, hb, hcl, fun i hi => ?_⟩
      obtain ⟨c0, c1, c2, c3, e0, e1, e2, e3, ht⟩ := hc i hi
      exact ⟨c0, c1, c2, c3, e0, e1, e2, e3, ih ht (by omega)⟩
/-- A fresh type is a value of four cells. -/
theorem tyF_form (h : TyF w lo n v D) : ∃ (k : Int) (nm : ByteArray) (na : Option Addr) (nl nc : Nat) (ka : Option Addr) (kl kc : Nat), v = .agg #[.int .i64 k, .string nm, .slice na nl nc, .slice ka kl kc] /\ kindT D = k := by
  cases n with
  | zero => exact h.elim
  | succ n =>
    obtain ⟨k, nm, na, nc, ka, kc, ns, ks, h1, h2, _⟩ := h
    exact ⟨k, nm, na, _, nc, ka, _, kc, h1, by rw [h2]; rfl⟩
theorem kidF_at (h : KidsF w lo n ka ks) {i : Nat} (hi : i < ks.length) :
    ∃ b o k nm na nl nc la ll lc, ka = some ⟨b, o, none⟩ /\ b < w.heap.size /\ w.cell? ⟨b, o + i * 4, none⟩ = some (.int .i64 k) /\ w.cell? ⟨b, o + i * 4 + 1, none⟩ = some (.string nm) /\ w.cell? ⟨b, o + i * 4 + 2, none⟩ = some (.slice na nl nc) /\
      w.cell? ⟨b, o + i * 4 + 3, none⟩ = some (.slice la ll lc) /\ TyF w lo n (.agg #[.int .i64 k, .string nm, .slice na nl nc, .slice la ll lc]) ks[i] := by
  rcases h with rfl | ⟨b, o, rfl, _, hcl, hc⟩
  · cases hi
  · obtain ⟨c0, c1, c2, c3, q0, q1, q2, q3, ht⟩ := hc i hi
    obtain ⟨k, nm, na, nl, nc, ka, kl, kc, e, _⟩ := tyF_form ht
    injection e with e
    injection e with e
    injection e with e0 e
    injection e with e1 e
    injection e with e2 e
    injection e with e3 _
    subst e0 e1 e2 e3
    exact ⟨b, o, k, nm, na, nl, nc, ka, kl, kc, rfl, clean_lt hcl, q0, q1, q2, q3, ht⟩
end
/-- The cells of a type. -/
abbrev Cells := Int × ByteArray × Option Addr × Nat × Nat × Option Addr × Nat × Nat
def Cells.list (c : Cells) : List Value := [.int .i64 c.1, .string c.2.1, .slice c.2.2.1 c.2.2.2.1 c.2.2.2.2.1, .slice c.2.2.2.2.2.1 c.2.2.2.2.2.2.1 c.2.2.2.2.2.2.2]
def Cells.val (c : Cells) : Value := .agg c.list.toArray
theorem tyF_cells {w : World} {lo n : Nat} {v : Value} {D : Ty} (h : TyF w lo n v D) : ∃ c : Cells, v = c.val /\ kindT D = c.1 := by
  obtain ⟨k, nm, na, nl, nc, ka, kl, kc, e, e2⟩ := tyF_form h
  exact ⟨(k, nm, na, nl, nc, ka, kl, kc), e, e2⟩
theorem cells_flat : ∀ (cs : List Cells) (i : Nat) (hi : i < cs.length) (j : Nat), j < 4 -> (cs.flatMap Cells.list)[i * 4 + j]? = cs[i].list[j]?
  | [], _, hi, _, _ => by cases hi
  | c :: cs, 0, _, j, hj => by
    rw [List.flatMap_cons, List.getElem?_append_left (by simp [Cells.list]; omega)]
    simp
  | c :: cs, i + 1, hi, j, hj => by
    rw [List.flatMap_cons, List.getElem?_append_right (by simp [Cells.list]; omega)]
    have := cells_flat cs i (by simpa using hi) j hj
    simp only [List.getElem_cons_succ]
    rw [<- this]
    congr 1
    simp [Cells.list]
    omega
/-- Rows that the call owns, as rows of fresh types. -/
theorem kidsF_of_owns {w : World} {base lo t n : Nat} {v : Value} {cs : List Cells} {ks : List Ty} (h : w.ownsRow base t 4 v cs.length (cs.flatMap Cells.list)) (hl : lo <= base) (hlen : ks.length = cs.length)
    (hk : ∀ i (h1 : i < cs.length) (h2 : i < ks.length), TyF w lo n cs[i].val ks[i]) : ∃ a cap, v = .slice a ks.length cap /\ ks.length <= cap /\ KidsF w lo n a ks := by
  rcases h.2 with ⟨rfl, h0⟩ | ⟨g, cap, cur, rfl, hg, hh, hcap, _, _, hcur⟩
  · have : ks = [] := List.length_eq_zero_iff.1 (by omega)
    exact ⟨none, 0, by rw [this]; rfl, by rw [this]; exact Nat.le_refl _, .inl this⟩
  · refine ⟨some ⟨g, 0, none⟩, cap, by rw [hlen], by omega, .inr ⟨g, 0, rfl, by omega, ⟨_, _, hh⟩, fun i hi => ?_⟩⟩
    have hi' : i < cs.length := by omega
    have hcell : ∀ j, j < 4 -> w.cell? ⟨g, 0 + i * 4 + j, none⟩ = cs[i].list[j]? := by
      intro j hj
      have h1 := h.cellAt (i * 4 + j) (by omega)
      rw [show 0 + i * 4 + j = i * 4 + j by omega, h1]
      exact cells_flat cs i hi' j hj
    exact ⟨_, _, _, _, hcell 0 (by omega), hcell 1 (by omega), hcell 2 (by omega), hcell 3 (by omega), hk i hi' hi⟩
end Go.Proofs.YtgblonhfidoleaaDoor
/- Small facts of memory that the contracts share; of whatever functions. -/
namespace Go.Proofs.YtgblonhfidoleaaDoor
open Go.Proofs.Tryd
open Go.RowKit
abbrev zTy : Value := .agg #[.int .i64 0, .string ⟨#[]⟩, .slice none 0 0, .slice none 0 0]
theorem results_cell_tmp {fn : Func} {p u : Tmp} {ty : TypeId} (h : fn.results = #[.cell p ty, .tmp u]) (tmps : Array Value) {P : Program} {w : World} {g : Nat} {t : TypeId} {cs : Array Value} {fr : Nat × Nat} {fs : Array Field}
    (hp : tmps.getD p undef = .pointer (some ⟨g, 0, none⟩)) (hg : w.heap[g]? = some (.cells cs t fr))
    (hu : P.underlying ty = some (.struct fs)) (hi : (P.info? ty).map (·.size) = some cs.size) :
    (results fn tmps).run P w = .ok (.tuple #[.agg cs, tmps.getD u undef]) w := by
  have hp' : tmps[p]?.getD undef = .pointer (some ⟨g, 0, none⟩) := by simpa using hp
  simp [results, h, hp', asAddr, run_loadVar_row w g t ty cs fr _ hg hu rfl hi]
theorem ty_size : (prog.info? 118).map (·.size) = some 4 := by kernel_rfl
theorem info_ty : (prog.info? 118).map (fun i => (i.zero, i.size, i.bytes)) = some (some zTy, 4, 72) := by kernel_rfl
theorem info_str : (prog.info? 9).map (fun i => (i.zero, i.size, i.bytes)) = some (some (.string ⟨#[]⟩), 1, 16) := by kernel_rfl
theorem cells_setCell {w : World} {b o : Nat} {cs : Array Value} {u : Value} {t : TypeId} {fr : Nat × Nat} (h : w.heap[b]? = some (.cells cs t fr)) : (w.setCell ⟨b, o, none⟩ u).heap[b]? = some (.cells (cs.setIfInBounds o u) t fr) := by
  simp [World.setCell, Array.getElem?_modify, h]
/-- Four cells stored into a row of four. -/
theorem set4 {w : World} {b : Nat} {y0 y1 y2 y3 : Value} {t : TypeId} {fr : Nat × Nat} (h : w.heap[b]? = some (.cells #[y0, y1, y2, y3] t fr)) (x0 x1 x2 x3 : Value) :
    ((((w.setCell ⟨b, 0, none⟩ x0).setCell ⟨b, 1, none⟩ x1).setCell ⟨b, 2, none⟩ x2).setCell ⟨b, 3, none⟩ x3).heap[b]? = some (.cells #[x0, x1, x2, x3] t fr) :=
  cells_setCell (cells_setCell (cells_setCell (cells_setCell h)))
theorem below_set4 {B : Nat} {a w : World} {b : Nat} (h : Below B a w) (hb : B <= b) (x0 x1 x2 x3 : Value) : Below B a ((((w.setCell ⟨b, 0, none⟩ x0).setCell ⟨b, 1, none⟩ x1).setCell ⟨b, 2, none⟩ x2).setCell ⟨b, 3, none⟩ x3) :=
  (((h.setCell hb _).setCell hb _).setCell hb _).setCell hb _
/-- .. and all other rows stay. -/
theorem other_set4 {w : World} {b i : Nat} (hi : i ≠ b) (x0 x1 x2 x3 : Value) : ((((w.setCell ⟨b, 0, none⟩ x0).setCell ⟨b, 1, none⟩ x1).setCell ⟨b, 2, none⟩ x2).setCell ⟨b, 3, none⟩ x3).heap[i]? = w.heap[i]? := by
  rw [Below.heap_setCell _ _ _ _ hi, Below.heap_setCell _ _ _ _ hi, Below.heap_setCell _ _ _ _ hi, Below.heap_setCell _ _ _ _ hi]
theorem heap_at1 (w : World) (o1 o2 : Obj) : ((w.alloc o1).alloc o2).heap[w.heap.size + 1]? = some o2 := by
  have := heap_alloc_last (w.alloc o1) o2
  simpa using this
/-- The result's row, ahead of what is stored: four cells of the call's own. -/
theorem res_facts {w1 : World} {b : Nat} {y0 y1 y2 y3 : Value} {t : TypeId} (h : w1.heap[b]? = some (.cells #[y0, y1, y2, y3] t)) :
    (w1.cell? ⟨b, 0, none⟩ = some y0 /\ w1.cell? ⟨b, 1, none⟩ = some y1 /\ w1.cell? ⟨b, 2, none⟩ = some y2 /\ w1.cell? ⟨b, 3, none⟩ = some y3) /\
    (w1.frozen? ⟨b, 0, none⟩ = false /\ w1.frozen? ⟨b, 1, none⟩ = false /\ w1.frozen? ⟨b, 2, none⟩ = false /\ w1.frozen? ⟨b, 3, none⟩ = false) /\ b < w1.heap.size := by
  refine ⟨⟨?_, ?_, ?_, ?_⟩, ⟨?_, ?_, ?_, ?_⟩, lt_of_block h⟩
  all_goals first | (rw [cell_of_row _ _ _ _ _ _ h]; rfl) | simp [World.frozen?, h]
theorem size_set4 (w : World) (b : Nat) (x0 x1 x2 x3 : Value) : ((((w.setCell ⟨b, 0, none⟩ x0).setCell ⟨b, 1, none⟩ x1).setCell ⟨b, 2, none⟩ x2).setCell ⟨b, 3, none⟩ x3).heap.size = w.heap.size := by simp [World.setCell]
end Go.Proofs.YtgblonhfidoleaaDoor
/- The grammar of layer 5 by its own words: what a list of tokens is, or what is wrong with it first; without a program in sight. -/
namespace Go.Proofs.YtgblonhfidoleaaDoor
open Go.Proofs.Tryd
/-- An expression: its kind, text, number, place, types, names, the expressions within it; as a tree of data. -/
def mkE (k : Int) (tx : List UInt8) (N : Int) (l c : Nat) (ts : List Ty) (ns : List (List UInt8)) (ks : List Ty) : Ty :=
  .agg [.lit (.int .i64 k), .lit (.string tx), .lit (.int .i64 N), .lit (.int .i64 l), .lit (.int .i64 c), .agg ts, .agg (ns.map fun s => .lit (.string s)), .agg ks]
/-- What is read, and where it goes on; or what is wrong, and where. -/
abbrev Pr (α : Type) := (α × Nat) ⊕ (Int × Nat × Nat)
def Pr.go {α β : Type} (r : Pr α) (f : α -> Nat -> Pr β) : Pr β :=
  match r with
  | .inl (x, a) => f x a
  | .inr e => .inr e
section
variable (ts : List Tok)
def tkA (a : Nat) : Tok := ts.getD a ⟨0, [], 0, 0⟩
def badA {α : Type} (e : Int) (a : Nat) : Pr α := .inr (e, (tkA ts a).line, (tkA ts a).col)
def seesA (a : Nat) (s : List UInt8) : Bool := ((tkA ts a).kind == 2 || (tkA ts a).kind == 5) && (tkA ts a).text == s
def wantA (a : Nat) (s : List UInt8) : Pr Unit := if seesA ts a s then .inl ((), a + 1) else badA ts 7 a
def nameA (a : Nat) : Pr (List UInt8) := if (tkA ts a).kind == 1 then .inl ((tkA ts a).text, a + 1) else badA ts 7 a
/-- One and more, with this between two. -/
def manyA {α : Type} (one : Nat -> Pr α) (sep : List UInt8) : Nat -> Nat -> Pr (List α)
  | 0, a => badA ts 7 a
  | f + 1, a => (one a).go fun x a => if seesA ts a sep then (manyA one sep f (a + 1)).go fun l a => .inl (x :: l, a) else .inl ([x], a)
def fieldA {α : Type} (K : Nat -> Pr α) (a : Nat) : Pr (List UInt8 × α) := (nameA ts a).go fun s a => (wantA ts a [58]).go fun _ a => (K a).go fun t a => .inl ((s, t), a)
def primA (K : Nat -> Pr Ty) (f a : Nat) : Pr Ty :=
  if seesA ts a (baseV 0) then .inl (mkT 0 [] [] [], a + 1)
  else if seesA ts a (baseV 1) then .inl (mkT 1 [] [] [], a + 1)
  else if seesA ts a (baseV 2) then .inl (mkT 2 [] [] [], a + 1)
  else if seesA ts a (baseV 3) then .inl (mkT 3 [] [] [], a + 1)
  else if seesA ts a (baseV 4) then .inl (mkT 4 [] [] [], a + 1)
  else if seesA ts a [40] then (K (a + 1)).go fun t a => (wantA ts a [41]).go fun _ a => .inl (t, a)
  else if seesA ts a [123] then
    if seesA ts (a + 1) [125] then .inl (mkT 5 [] [] [], a + 2)
    else (manyA ts (fieldA ts K) [44] f (a + 1)).go fun l a => (wantA ts a [125]).go fun _ a => .inl (mkT 5 [] (l.map (·.1)) (l.map (·.2)), a)
  else (nameA ts a).go fun s a => .inl (mkT 8 s [] [], a)
def altA (K : Nat -> Pr Ty) (f a : Nat) : Pr Ty := (manyA ts (primA ts K f) [124] f a).go fun l a => match l with
  | [t] => .inl (t, a)
  | l => .inl (mkT 7 [] [] l, a)
/-- type, that stands within d others; n: what is left of the depth. -/
def kindA (f : Nat) : Nat -> Nat -> Nat -> Pr Ty
  | 0, _, a => badA ts 6 a
  | n + 1, d, a => if 100 <= d then badA ts 6 a else (altA ts (kindA f n (d + 1)) f a).go fun t a => if seesA ts a [45, 62] then (kindA f n (d + 1) (a + 1)).go fun r a => .inl (mkT 6 [] [] [t, r], a) else .inl (t, a)
/-- A type behind a colon, if there is one. -/
def noteA (K : Nat -> Pr Ty) (a : Nat) : Pr (List Ty) := if seesA ts a [58] then (K (a + 1)).go fun t a => .inl ([t], a) else .inl ([], a)
def headA (K : Nat -> Pr Ty) (a : Nat) : Pr (List UInt8 × List Ty) := (wantA ts a [40]).go fun _ a => (nameA ts a).go fun s a => (noteA ts K a).go fun x a => (wantA ts a [41]).go fun _ a => (noteA ts K a).go fun y a => .inl ((s, (if x.isEmpty then [mkT 0 [] [] []] else x) ++ y), a)
def lineA (a : Nat) : Nat := (tkA ts a).line
def colA (a : Nat) : Nat := (tkA ts a).col
/-- Operations of one rank, from the left. -/
def leftA (signs : List (List UInt8)) (sub : Nat -> Pr Ty) : Nat -> Ty -> Nat -> Pr Ty
  | 0, _, a => badA ts 7 a
  | f + 1, x, a => match signs.find? (seesA ts a) with
    | none => .inl (x, a)
    | some s => (sub (a + 1)).go fun y b => leftA signs sub f (mkE 14 s 0 (lineA ts a) (colA ts a) [] [] [x, y]) b
def ranksL : List (List (List UInt8)) := [[[111, 114]], [[97, 110, 100]], [[60], [60, 61], [61, 61]], [[43, 43]], [[43], [45], [94]], [[42], [47], [37], [38], [60, 60], [62, 62]]]
def tagsA : List (List UInt8) := [[110, 117, 108, 108], [98, 111, 111, 108], [105, 110, 116], [115, 116, 114], [114, 101, 99, 111, 114, 100], [102, 117, 110, 99, 116, 105, 111, 110]]
def cmpA (K : Nat -> Pr Ty) (sub : Nat -> Pr Ty) (a : Nat) : Pr Ty := (sub a).go fun x a => match ([[60], [60, 61], [61, 61]] : List (List UInt8)).find? (seesA ts a) with
  | some s => (sub (a + 1)).go fun y b => .inl (mkE 14 s 0 (lineA ts a) (colA ts a) [] [] [x, y], b)
  | none =>
    if seesA ts a [97, 115] then (K (a + 1)).go fun t b => .inl (mkE 13 [] 0 (lineA ts a) (colA ts a) [t] [] [x], b)
    else if seesA ts a [105, 115] then match tagsA.findIdx? (seesA ts (a + 1)) with
      | some i => .inl (mkE 12 [] i (lineA ts a) (colA ts a) [] [] [x], a + 2)
      | none => badA ts 7 (a + 1)
    else .inl (x, a)
/-- or, and, cmp, cat, sum, term; U: unary. -/
def termA (U : Nat -> Pr Ty) (f a : Nat) : Pr Ty := (U a).go fun x a => leftA ts [[42], [47], [37], [38], [60, 60], [62, 62]] U f x a
def sumA (U : Nat -> Pr Ty) (f a : Nat) : Pr Ty := (termA ts U f a).go fun x a => leftA ts [[43], [45], [94]] (termA ts U f) f x a
def catA (U : Nat -> Pr Ty) (f a : Nat) : Pr Ty := (sumA ts U f a).go fun x a => leftA ts [[43, 43]] (sumA ts U f) f x a
def andA (K U : Nat -> Pr Ty) (f a : Nat) : Pr Ty := (cmpA ts K (catA ts U f) a).go fun x a => leftA ts [[97, 110, 100]] (cmpA ts K (catA ts U f)) f x a
def orA (K U : Nat -> Pr Ty) (f a : Nat) : Pr Ty := (andA ts K U f a).go fun x a => leftA ts [[111, 114]] (andA ts K U f) f x a
/-- expr, behind its depth: E: an expr within. -/
def exprA (K E U : Nat -> Pr Ty) (f a : Nat) : Pr Ty :=
  if seesA ts a [108, 101, 116] then (nameA ts (a + 1)).go fun s b => (noteA ts K b).go fun t b => (wantA ts b [61]).go fun _ b => (E b).go fun v b => (wantA ts b [59]).go fun _ b => (E b).go fun r b => .inl (mkE 5 s 0 (lineA ts a) (colA ts a) t [] [v, r], b)
  else if seesA ts a [105, 102] then (E (a + 1)).go fun c b => (wantA ts b [116, 104, 101, 110]).go fun _ b => (E b).go fun x b => (wantA ts b [101, 108, 115, 101]).go fun _ b => (E b).go fun y b => .inl (mkE 11 [] 0 (lineA ts a) (colA ts a) [] [] [c, x, y], b)
  else if seesA ts a [102, 110] then (headA ts K (a + 1)).go fun h b => (wantA ts b [61, 62]).go fun _ b => (E b).go fun x b => .inl (mkE 6 h.1 0 (lineA ts a) (colA ts a) h.2 [] [x], b)
  else orA ts K U f a
/-- A record, or a record with a field, behind its bracket, which stands at a. -/
def recA (E : Nat -> Pr Ty) (f a : Nat) : Pr Ty :=
  if seesA ts (a + 1) [125] then .inl (mkE 8 [] 0 (lineA ts a) (colA ts a) [] [] [], a + 2)
  else if (tkA ts (a + 1)).kind == 1 && ((tkA ts (a + 2)).kind == 5 && (tkA ts (a + 2)).text == [58]) then (manyA ts (fieldA ts E) [44] f (a + 1)).go fun l b => (wantA ts b [125]).go fun _ b => .inl (mkE 8 [] 0 (lineA ts a) (colA ts a) [] (l.map (·.1)) (l.map (·.2)), b)
  else (E (a + 1)).go fun x b => (wantA ts b [119, 105, 116, 104]).go fun _ b => (nameA ts b).go fun s b => (wantA ts b [58]).go fun _ b => (E b).go fun y b => (wantA ts b [125]).go fun _ b => .inl (mkE 10 s 0 (lineA ts a) (colA ts a) [] [] [x, y], b)
def atomA (K E : Nat -> Pr Ty) (f a : Nat) : Pr Ty :=
  if (tkA ts a).kind == 3 then .inl (mkE 0 [] ((parseV (tkA ts a).text).getD 0) (lineA ts a) (colA ts a) [] [] [], a + 1)
  else if (tkA ts a).kind == 4 then .inl (mkE 1 (tkA ts a).text 0 (lineA ts a) (colA ts a) [] [] [], a + 1)
  else if seesA ts a [116, 114, 117, 101] then .inl (mkE 2 [] 1 (lineA ts a) (colA ts a) [] [] [], a + 1)
  else if seesA ts a [102, 97, 108, 115, 101] then .inl (mkE 2 [] 0 (lineA ts a) (colA ts a) [] [] [], a + 1)
  else if seesA ts a [110, 117, 108, 108] then .inl (mkE 3 [] 0 (lineA ts a) (colA ts a) [] [] [], a + 1)
  else if seesA ts a [114, 101, 97, 100] then (wantA ts (a + 1) [40]).go fun _ b => (wantA ts b [41]).go fun _ b => .inl (mkE 18 [] 0 (lineA ts a) (colA ts a) [] [] [], b)
  else if seesA ts a [112, 114, 105, 110, 116] then (wantA ts (a + 1) [40]).go fun _ b => (E b).go fun x b => (wantA ts b [41]).go fun _ b => .inl (mkE 17 [] 0 (lineA ts a) (colA ts a) [] [] [x], b)
  else if seesA ts a [40] then (E (a + 1)).go fun x b => (wantA ts b [41]).go fun _ b => .inl (x, b)
  else if seesA ts a [123] then recA ts E f a
  else (nameA ts a).go fun s b => if seesA ts b [91] then (manyA ts K [44] f (b + 1)).go fun l b => (wantA ts b [93]).go fun _ b => .inl (mkE 19 s 0 (lineA ts a) (colA ts a) l [] [], b) else .inl (mkE 4 s 0 (lineA ts a) (colA ts a) [] [] [], b)
/-- What stands behind an atom. -/
def postA (E : Nat -> Pr Ty) : Nat -> Ty -> Nat -> Pr Ty
  | 0, _, a => badA ts 7 a
  | f + 1, x, a =>
    if seesA ts a [40] then (E (a + 1)).go fun y b => (wantA ts b [41]).go fun _ b => postA E f (mkE 7 [] 0 (lineA ts a) (colA ts a) [] [] [x, y]) b
    else if seesA ts a [46] then (nameA ts (a + 1)).go fun s b => postA E f (mkE 9 s 0 (lineA ts a) (colA ts a) [] [] [x]) b
    else .inl (x, a)
/-- expr (false), unary (true), that stands within d others. -/
def deepA (f : Nat) : Nat -> Bool -> Nat -> Nat -> Pr Ty
  | 0, _, _, a => badA ts 6 a
  | n + 1, u, d, a => if 100 <= d then badA ts 6 a else
    match u with
    | false => exprA ts (kindA ts f 101 (d + 1)) (deepA f n false (d + 1)) (deepA f n true (d + 1)) f a
    | true =>
      if seesA ts a [45] then (deepA f n true (d + 1) (a + 1)).go fun x b => .inl (mkE 16 [] 0 (lineA ts a) (colA ts a) [] [] [x], b)
      else if seesA ts a [110, 111, 116] then (deepA f n true (d + 1) (a + 1)).go fun x b => .inl (mkE 15 [] 0 (lineA ts a) (colA ts a) [] [] [x], b)
      else (atomA ts (kindA ts f 101 (d + 1)) (deepA f n false (d + 1)) f a).go fun x b => postA ts (deepA f n false (d + 1)) f x b
def varA (K : Nat -> Pr Ty) (a : Nat) : Pr (List UInt8 × Ty) := (nameA ts a).go fun s b => if seesA ts b [60, 58] then (K (b + 1)).go fun t b => .inl ((s, t), b) else .inl ((s, mkT 0 [] [] []), b)
def varsA (K : Nat -> Pr Ty) (f a : Nat) : Pr (List (List UInt8 × Ty)) := if seesA ts a [91] then (manyA ts (varA ts K) [44] f (a + 1)).go fun l b => (wantA ts b [93]).go fun _ b => .inl (l, b) else .inl ([], a)
/-- Imports: from, names, place. -/
def mkI (from' : List UInt8) (ns : List (List UInt8)) (l c : Nat) : Ty := .agg [.lit (.string from'), .agg (ns.map fun s => .lit (.string s)), .lit (.int .i64 l), .lit (.int .i64 c)]
/-- Functions: name, whether exported, variables, parameter, types, body, place. -/
def mkD (nm : List UInt8) (ex : Bool) (vs : List (List UInt8 × Ty)) (pm : List UInt8) (tys : List Ty) (body : Ty) (l c : Nat) : Ty := .agg [.lit (.string nm), .lit (.bool ex), .agg (vs.map fun v => .agg [.lit (.string v.1), v.2]), .lit (.string pm), .agg tys, body, .lit (.int .i64 l), .lit (.int .i64 c)]
def importsA : Nat -> Nat -> Pr (List Ty)
  | 0, a => badA ts 7 a
  | f + 1, a => if seesA ts a [105, 109, 112, 111, 114, 116] then (nameA ts (a + 1)).go fun s b => (wantA ts b [58]).go fun _ b => (manyA ts (nameA ts) [44] ts.length b).go fun l b => (wantA ts b [59]).go fun _ b => (importsA f b).go fun r b => .inl (mkI s l (lineA ts a) (colA ts a) :: r, b) else .inl ([], a)
def declA (a : Nat) : Pr Ty :=
  let ex := seesA ts a [101, 120, 112, 111, 114, 116]
  let a := if ex then a + 1 else a
  (wantA ts a [102, 110]).go fun _ b => (nameA ts b).go fun s b => (varsA ts (kindA ts ts.length 101 0) ts.length b).go fun vs b => (headA ts (kindA ts ts.length 101 0) b).go fun h b => (wantA ts b [61]).go fun _ b => (deepA ts ts.length 101 false 0 b).go fun x b => (wantA ts b [59]).go fun _ b =>
    .inl (mkD s ex vs h.1 (if h.2.length = 1 then h.2 ++ [mkT 0 [] [] []] else h.2) x (lineA ts a) (colA ts a), b)
def declsA : Nat -> Nat -> Pr (List Ty)
  | 0, a => badA ts 7 a
  | f + 1, a => if (tkA ts a).kind == 0 then .inl ([], a) else (declA ts a).go fun d b => (declsA f b).go fun r b => .inl (d :: r, b)
def moduleA : Pr (List Ty × List Ty) := (importsA ts ts.length 0).go fun i a => (declsA ts (ts.length + 1) a).go fun d a => .inl ((i, d), a)
def endA {α : Type} (r : Pr α) : Pr α := r.go fun x a => if (tkA ts a).kind == 0 then .inl (x, a) else badA ts 7 a
end
/-- A whole text that is one type, or one expression. -/
def typeTextV (l : List UInt8) : Ty ⊕ (Int × Nat × Nat) := match lexV l with
  | .inr e => .inr e
  | .inl ts => match endA ts (kindA ts ts.length 101 0 0) with
    | .inl (t, _) => .inl t
    | .inr e => .inr e
def exprTextV (l : List UInt8) : Ty ⊕ (Int × Nat × Nat) := match lexV l with
  | .inr e => .inr e
  | .inl ts => match endA ts (deepA ts ts.length 101 false 0 0) with
    | .inl (t, _) => .inl t
    | .inr e => .inr e
def moduleTextV (l : List UInt8) : (List Ty × List Ty) ⊕ (Int × Nat × Nat) := match lexV l with
  | .inr e => .inr e
  | .inl ts => match endA ts (moduleA ts) with
    | .inl (t, _) => .inl t
    | .inr e => .inr e
end Go.Proofs.YtgblonhfidoleaaDoor
