/- A row of types whose cells are turned one type at a time: what types.ownCopy's loop keeps of its row; few names and kids; what ownCopy's loop keeps. -/
import Derived.Test.YtmpcjcjacpjilaaDoorTyCl
import Derived.Test.YtmpcjcjacpjilaaDoorTyMore
namespace Go.Proofs.YtmpcjcjacpjilaaDoor
open Go.RowKit

/-- Not too many names or kids at any node. -/
def FewT : Nat → Ty → Prop
  | 0, _ => True
  | n + 1, D => (namesT D).length ≤ 1000000 ∧ (kidsT D).length ≤ 1000000 ∧ ∀ x ∈ kidsT D, FewT n x

/-- The block g is a clean row whose first K types have these cells. -/
def RowC (w : World) (g K : Nat) (f : Nat → Cells) : Prop := ∃ cur, w.heap[g]? = some (.cells cur 25) ∧ ∀ i, i < K → ∀ r, r < 4 → cur[i * 4 + r]? = (f i).list[r]?

theorem rowC_grow {w w' : World} {g K : Nat} {f : Nat → Cells} (h : RowC w g K f) (hb : Below w.heap.size w w') : RowC w' g K f := by
  obtain ⟨cur, h1, h2⟩ := h
  exact ⟨cur, (hb.block _ (lt_of_block h1)).trans h1, h2⟩

theorem rowC_cell {w : World} {g K : Nat} {f : Nat → Cells} (h : RowC w g K f) {i : Nat} (hi : i < K) {r : Nat} (hr : r < 4) : w.cell? ⟨g, i * 4 + r, none⟩ = (f i).list[r]? := by
  obtain ⟨cur, h1, h2⟩ := h
  rw [cell_of_row w g _ _ _ _ h1]
  exact h2 i hi r hr

theorem rowC_free {w : World} {g K : Nat} {f : Nat → Cells} (h : RowC w g K f) (o : Nat) : w.frozen? ⟨g, o, none⟩ = false := by
  obtain ⟨cur, h1, _⟩ := h
  simp [World.frozen?, h1]

/-- One type of the row is turned. -/
theorem rowC_put {w : World} {g K : Nat} {f : Nat → Cells} (h : RowC w g K f) {i : Nat} (hi : i < K) (c : Cells) :
    RowC ((((w.setCell ⟨g, i * 4, none⟩ (.int .i64 c.1)).setCell ⟨g, i * 4 + 1, none⟩ (.string c.2.1)).setCell ⟨g, i * 4 + 2, none⟩ (.slice c.2.2.1 c.2.2.2.1 c.2.2.2.2.1)).setCell ⟨g, i * 4 + 3, none⟩ (.slice c.2.2.2.2.2.1 c.2.2.2.2.2.2.1 c.2.2.2.2.2.2.2)) g K (fun j => if j = i then c else f j) := by
  obtain ⟨cur, h1, h2⟩ := h
  have hsz : i * 4 + 3 < cur.size := by
    have := h2 i hi 3 (by omega)
    by_cases hc : i * 4 + 3 < cur.size
    · exact hc
    · rw [Array.getElem?_eq_none (by omega)] at this
      simp [Cells.list] at this
  refine ⟨_, cells_setCell (cells_setCell (cells_setCell (cells_setCell h1))), fun j hj r hr => ?_⟩
  by_cases e : j = i
  · subst e
    simp only [if_true]
    have : r = 0 ∨ r = 1 ∨ r = 2 ∨ r = 3 := by omega
    rcases this with rfl | rfl | rfl | rfl
    · rw [Array.getElem?_setIfInBounds_ne (by omega), Array.getElem?_setIfInBounds_ne (by omega), Array.getElem?_setIfInBounds_ne (by omega), Nat.add_zero, Array.getElem?_setIfInBounds_self_of_lt (by omega)]
      rfl
    · rw [Array.getElem?_setIfInBounds_ne (by omega), Array.getElem?_setIfInBounds_ne (by omega), Array.getElem?_setIfInBounds_self_of_lt (by simp; omega)]
      rfl
    · rw [Array.getElem?_setIfInBounds_ne (by omega), Array.getElem?_setIfInBounds_self_of_lt (by simp; omega)]
      rfl
    · rw [Array.getElem?_setIfInBounds_self_of_lt (by simp; omega)]
      rfl
  · simp only [if_neg e]
    rw [Array.getElem?_setIfInBounds_ne (by omega), Array.getElem?_setIfInBounds_ne (by omega), Array.getElem?_setIfInBounds_ne (by omega), Array.getElem?_setIfInBounds_ne (by omega)]
    exact h2 j hj r hr

/-- A row of fresh types. -/
theorem rowC_kids {w : World} {g K lo n : Nat} {f : Nat → Cells} {ks : List Ty} (h : RowC w g K f) (hlo : lo ≤ g) (hk : ks.length = K) (ht : ∀ i (h : i < ks.length), TyF w lo n (f i).val ks[i]) : KidsF w lo n (some ⟨g, 0, none⟩) ks := by
  refine .inr ⟨g, 0, rfl, hlo, ?_, fun i hi => ?_⟩
  · obtain ⟨cur, h1, _⟩ := h
    exact ⟨_, _, h1⟩
  · have hc : ∀ r, r < 4 → w.cell? ⟨g, 0 + i * 4 + r, none⟩ = (f i).list[r]? := fun r hr => by
      rw [show 0 + i * 4 + r = i * 4 + r by omega]
      exact rowC_cell h (by omega) hr
    exact ⟨_, _, _, _, hc 0 (by omega), hc 1 (by omega), hc 2 (by omega), hc 3 (by omega), ht i hi⟩
end Go.Proofs.YtmpcjcjacpjilaaDoor

namespace Go.Proofs.YtmpcjcjacpjilaaDoor

theorem rise_six {ks : List Ty} (hp : ks.Pairwise fun a b => kindT a < kindT b) (hk : ∀ x ∈ ks, 1 ≤ kindT x ∧ kindT x ≤ 6) : ks.length ≤ 6 := by
  have hp2 : (ks.map kindT).Pairwise (· < ·) := by rw [List.pairwise_map]; exact hp
  have hnd : (ks.map kindT).Nodup := hp2.imp fun h e => by omega
  have hsub : (ks.map kindT) ⊆ [1, 2, 3, 4, 5, 6] := fun z hz => by
    obtain ⟨x, hx1, rfl⟩ := List.mem_map.1 hz
    have := hk x hx1
    have : kindT x = 1 ∨ kindT x = 2 ∨ kindT x = 3 ∨ kindT x = 4 ∨ kindT x = 5 ∨ kindT x = 6 := by omega
    simp
    exact this
  have := List.Nodup.length_le_of_subset hnd hsub
  simpa using this

theorem few_mk {n : Nat} {k : Int} {nm : List UInt8} {ns : List (List UInt8)} {ks : List Ty} (h1 : ns.length ≤ 1000000) (h2 : ks.length ≤ 1000000) (h : ∀ x ∈ ks, FewT n x) : FewT (n + 1) (mkT k nm ns ks) :=
  ⟨by rw [names_mk]; exact h1, by rw [kids_mk]; exact h2, by rw [kids_mk]; exact h⟩

theorem few_norm {n : Nat} {E : Ty} (h : NormT n E) : FewT n E := by
  induction n generalizing E with
  | zero => exact trivial
  | succ n ih =>
    rcases h with ⟨k, _, _, rfl⟩ | ⟨ns, ks, rfl, h2, h3, _, _, h6⟩ | ⟨a, b, rfl, ha, hb⟩ | ⟨ks, rfl, _, h3, h4⟩
    · exact few_mk (by simp) (by simp) (by simp)
    · exact few_mk (by omega) (by omega) fun x hx => ih (h6 x hx)
    · refine few_mk (by simp) (by simp) fun x hx => ?_
      simp at hx
      rcases hx with rfl | rfl
      · exact ih ha
      · exact ih hb
    · have := rise_six h4 fun x hx => (h3 x hx).2
      exact few_mk (by simp) (by omega) fun x hx => ih (h3 x hx).1

theorem few_more {n : Nat} {D : Ty} (hi : IsT n D) (h : FewT n D) : FewT (n + 1) D := by
  induction n generalizing D with
  | zero => exact hi.elim
  | succ n ih => exact ⟨h.1, h.2.1, fun x hx => ih (hi.2 x hx) (h.2.2 x hx)⟩

theorem few_of_members {n : Nat} {D : Ty} (hi : IsT n D) (h : FewT n D) : ∀ x ∈ membersT D, FewT n x := by
  intro x hx
  cases n with
  | zero => exact trivial
  | succ n =>
    unfold membersT at hx
    by_cases hk : kindT D = 7
    · rw [if_pos hk] at hx
      exact few_more (hi.2 x hx) (h.2.2 x hx)
    · rw [if_neg hk, List.mem_singleton] at hx
      rw [hx]
      exact h
end Go.Proofs.YtmpcjcjacpjilaaDoor

namespace Go.Proofs.YtmpcjcjacpjilaaDoor
open Go.RowKit

theorem owns_rowC {w : World} {base K : Nat} {v : Value} {cl : List Cells} (h : w.ownsRow base 25 4 v K (cl.flatMap Cells.list)) (hcl : cl.length = K) :
    ∃ ka kc, v = .slice ka K kc ∧ K ≤ kc ∧ (K = 0 ∨ ∃ g, ka = some ⟨g, 0, none⟩ ∧ base ≤ g ∧ RowC w g K fun i => cl.getD i (0, ⟨#[]⟩, none, 0, 0, none, 0, 0)) := by
  rcases h.2 with ⟨rfl, h0⟩ | ⟨g, cap, cur, rfl, hg, hh, hcap, _, _, hcur⟩
  · exact ⟨none, 0, by rw [h0], by omega, .inl h0⟩
  · refine ⟨_, _, rfl, hcap, .inr ⟨g, rfl, hg, cur, hh, fun i hi r hr => ?_⟩⟩
    have h1 := h.cellAt (i * 4 + r) (by omega)
    rw [cell_of_row w g _ _ _ _ hh] at h1
    rw [h1, cells_flat cl i (by omega) r hr]
    show _ = (cl.getD i _).list[r]?
    rw [List.getD_eq_getElem?_getD, List.getElem?_eq_getElem (l := cl) (i := i) (by omega)]
    rfl

def zC : Obj := .cells #[.int .i64 0, .string ⟨#[]⟩, .slice none 0 0, .slice none 0 0] 25

structure CI (w wx : World) (n B : Nat) (bx : Obj) (na' ka' : Option Addr) (ns : List (List UInt8)) (ks : List Ty) (f : Nat → Cells) (j : Nat) : Prop where
  bl : Below w.heap.size w wx
  hx : wx.heap[w.heap.size]? = some bx
  rs : wx.heap[w.heap.size + 1]? = some zC
  sz : B ≤ wx.heap.size
  nf : ns = [] ∨ ∃ b o, na' = some ⟨b, o, none⟩ ∧ w.heap.size + 2 ≤ b ∧ b < B ∧ ∀ i (h : i < ns.length), wx.cell? ⟨b, o + i, none⟩ = some (.string ⟨ns[i].toArray⟩)
  rw : ks.length = 0 ∨ ∃ g, ka' = some ⟨g, 0, none⟩ ∧ B ≤ g ∧ RowC wx g ks.length f ∧ ∀ i (h : i < ks.length), i < j → TyF wx (g + 1) n (f i).val ks[i]
  td : ∀ i (h : i < ks.length), j ≤ i → TyAt w false n (f i).val ks[i]

theorem CI.grow {w wx wx' : World} {n B : Nat} {bx : Obj} {na' ka' : Option Addr} {ns : List (List UInt8)} {ks : List Ty} {f : Nat → Cells} {j : Nat} (h : CI w wx n B bx na' ka' ns ks f j) (hb : Below wx.heap.size wx wx') : CI w wx' n B bx na' ka' ns ks f j where
  bl := below_next h.bl hb
  hx := (hb.block _ (lt_of_block h.hx)).trans h.hx
  rs := (hb.block _ (lt_of_block h.rs)).trans h.rs
  sz := Nat.le_trans h.sz hb.size
  nf := by
    rcases h.nf with h0 | ⟨b, o, e, h1, h2, h3⟩
    · exact .inl h0
    · exact .inr ⟨b, o, e, h1, h2, fun i hi => (hb.cell (p := ⟨b, o + i, none⟩) (Nat.lt_of_lt_of_le h2 h.sz)).trans (h3 i hi)⟩
  rw := by
    rcases h.rw with h0 | ⟨g, e, h1, h2, h3⟩
    · exact .inl h0
    · exact .inr ⟨g, e, h1, rowC_grow h2 hb, fun i hi hj => tyF_below (h3 i hi hj) hb⟩
  td := h.td

theorem CI.put {w wx : World} {n B g : Nat} {bx : Obj} {na' : Option Addr} {ns : List (List UInt8)} {ks : List Ty} {f : Nat → Cells} {j : Nat} (h : CI w wx n B bx na' (some ⟨g, 0, none⟩) ns ks f j) (hB : w.heap.size + 2 ≤ B) (hj : j < ks.length) {c : Cells} (hc : TyF wx (g + 1) n c.val ks[j]) :
    CI w ((((wx.setCell ⟨g, j * 4, none⟩ (.int .i64 c.1)).setCell ⟨g, j * 4 + 1, none⟩ (.string c.2.1)).setCell ⟨g, j * 4 + 2, none⟩ (.slice c.2.2.1 c.2.2.2.1 c.2.2.2.2.1)).setCell ⟨g, j * 4 + 3, none⟩ (.slice c.2.2.2.2.2.1 c.2.2.2.2.2.2.1 c.2.2.2.2.2.2.2)) n B bx na' (some ⟨g, 0, none⟩) ns ks (fun i => if i = j then c else f i) (j + 1) := by
  obtain ⟨h0, ⟨g', e, h1, h2, h3⟩⟩ : (¬ ks.length = 0) ∧ ∃ g', some (⟨g, 0, none⟩ : Addr) = some ⟨g', 0, none⟩ ∧ B ≤ g' ∧ RowC wx g' ks.length f ∧ ∀ i (h : i < ks.length), i < j → TyF wx (g' + 1) n (f i).val ks[i] := by
    rcases h.rw with h0 | h1
    · omega
    · exact ⟨by omega, h1⟩
  injection e with e
  injection e with e
  subst e
  have hoth : ∀ b, b ≠ g → ((((wx.setCell ⟨g, j * 4, none⟩ (.int .i64 c.1)).setCell ⟨g, j * 4 + 1, none⟩ (.string c.2.1)).setCell ⟨g, j * 4 + 2, none⟩ (.slice c.2.2.1 c.2.2.2.1 c.2.2.2.2.1)).setCell ⟨g, j * 4 + 3, none⟩ (.slice c.2.2.2.2.2.1 c.2.2.2.2.2.2.1 c.2.2.2.2.2.2.2)).heap[b]? = wx.heap[b]? := fun b hb => by
    rw [Below.heap_setCell _ _ _ _ hb, Below.heap_setCell _ _ _ _ hb, Below.heap_setCell _ _ _ _ hb, Below.heap_setCell _ _ _ _ hb]
  have hsz : ((((wx.setCell ⟨g, j * 4, none⟩ (.int .i64 c.1)).setCell ⟨g, j * 4 + 1, none⟩ (.string c.2.1)).setCell ⟨g, j * 4 + 2, none⟩ (.slice c.2.2.1 c.2.2.2.1 c.2.2.2.2.1)).setCell ⟨g, j * 4 + 3, none⟩ (.slice c.2.2.2.2.2.1 c.2.2.2.2.2.2.1 c.2.2.2.2.2.2.2)).heap.size = wx.heap.size := by simp [World.setCell]
  refine ⟨?_, (hoth _ (by omega)).trans h.hx, (hoth _ (by omega)).trans h.rs, by rw [hsz]; exact h.sz, ?_, ?_, ?_⟩
  · exact (((h.bl.setCell (p := ⟨g, j * 4, none⟩) (by show w.heap.size ≤ g; omega) _).setCell (p := ⟨g, j * 4 + 1, none⟩) (by show w.heap.size ≤ g; omega) _).setCell (p := ⟨g, j * 4 + 2, none⟩) (by show w.heap.size ≤ g; omega) _).setCell (p := ⟨g, j * 4 + 3, none⟩) (by show w.heap.size ≤ g; omega) _
  · rcases h.nf with e0 | ⟨b, o, e, n1, n2, n3⟩
    · exact .inl e0
    · exact .inr ⟨b, o, e, n1, n2, fun i hi => (World.cell?_of_block (w := wx) (a := ⟨b, o + i, none⟩) (hoth b (by omega))).trans (n3 i hi)⟩
  · refine .inr ⟨g, rfl, h1, rowC_put h2 hj c, fun i hi hij => ?_⟩
    by_cases e : i = j
    · subst e
      simp only [if_true]
      exact tyF_keep hc (by rw [hsz]; exact Nat.le_refl _) fun b hb _ => hoth b (by omega)
    · simp only [if_neg e]
      exact tyF_keep (h3 i hi (by omega)) (by rw [hsz]; exact Nat.le_refl _) fun b hb _ => hoth b (by omega)
  · intro i hi hij
    simp only [if_neg (show ¬ i = j by omega)]
    exact h.td i hi (by omega)

def CopyAt (n : Nat) : Prop := ∀ (v : Value) (D : Ty) (w : World), TyAt w false n v D → FewT n D → Calls Tryd.prog 25 #[v] w fun e w' => ∃ v', e = .returned v' ∧ TyF w' w.heap.size n v' D ∧ Below w.heap.size w w'

end Go.Proofs.YtmpcjcjacpjilaaDoor
