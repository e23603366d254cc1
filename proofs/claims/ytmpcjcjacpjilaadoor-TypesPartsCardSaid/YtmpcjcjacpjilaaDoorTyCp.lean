/- What types.ownCopy's loop keeps. -/
import Derived.Test.YtmpcjcjacpjilaaDoorTyCp0
namespace Go.Proofs.YtmpcjcjacpjilaaDoor
open Go.RowKit

theorem owns_rowC {w : World} {base K : Nat} {v : Value} {cl : List Cells} (h : w.ownsRow base 25 4 v K (cl.flatMap Cells.list)) (hcl : cl.length = K) :
    ∃ ka kc, v = .slice ka K kc ∧ K ≤ kc ∧ (K = 0 ∨ ∃ g, ka = some ⟨g, 0, none⟩ ∧ base ≤ g ∧ RowC w g K fun i => cl.getD i (0, ⟨#[]⟩, none, 0, 0, none, 0, 0)) := by
  rcases h.2 with ⟨rfl, h0⟩ | ⟨g, cap, cur, rfl, hg, hh, hcap, _, _, hcur⟩
  · exact ⟨none, 0, by rw [h0], by omega, .inl h0⟩
  · refine ⟨_, _, rfl, hcap, .inr ⟨g, rfl, hg, cur, hh, fun i hi r hr => ?_⟩⟩
    have h1 := h.cellAt (i * 4 + r) (by omega)
    rw [cell_of_row w g _ _ _ _ hh] at h1
    rw [h1, cells_flat cl i (by omega) r hr]
    show _ = (cl.getD i _).list[r]?
    rw [List.getD_eq_getElem?_getD, List.getElem?_eq_getElem (l := cl) (i := i) (by omega)]
    rfl

def zC : Obj := .cells #[.int .i64 0, .string ⟨#[]⟩, .slice none 0 0, .slice none 0 0] 25

structure CI (w wx : World) (n B : Nat) (bx : Obj) (na' ka' : Option Addr) (ns : List (List UInt8)) (ks : List Ty) (f : Nat → Cells) (j : Nat) : Prop where
  bl : Below w.heap.size w wx
  hx : wx.heap[w.heap.size]? = some bx
  rs : wx.heap[w.heap.size + 1]? = some zC
  sz : B ≤ wx.heap.size
  nf : ns = [] ∨ ∃ b o, na' = some ⟨b, o, none⟩ ∧ w.heap.size + 2 ≤ b ∧ b < B ∧ ∀ i (h : i < ns.length), wx.cell? ⟨b, o + i, none⟩ = some (.string ⟨ns[i].toArray⟩)
  rw : ks.length = 0 ∨ ∃ g, ka' = some ⟨g, 0, none⟩ ∧ B ≤ g ∧ RowC wx g ks.length f ∧ ∀ i (h : i < ks.length), i < j → TyF wx (g + 1) n (f i).val ks[i]
  td : ∀ i (h : i < ks.length), j ≤ i → TyAt w false n (f i).val ks[i]

theorem CI.grow {w wx wx' : World} {n B : Nat} {bx : Obj} {na' ka' : Option Addr} {ns : List (List UInt8)} {ks : List Ty} {f : Nat → Cells} {j : Nat} (h : CI w wx n B bx na' ka' ns ks f j) (hb : Below wx.heap.size wx wx') : CI w wx' n B bx na' ka' ns ks f j where
  bl := below_next h.bl hb
  hx := (hb.block _ (lt_of_block h.hx)).trans h.hx
  rs := (hb.block _ (lt_of_block h.rs)).trans h.rs
  sz := Nat.le_trans h.sz hb.size
  nf := by
    rcases h.nf with h0 | ⟨b, o, e, h1, h2, h3⟩
    · exact .inl h0
    · exact .inr ⟨b, o, e, h1, h2, fun i hi => (hb.cell (p := ⟨b, o + i, none⟩) (Nat.lt_of_lt_of_le h2 h.sz)).trans (h3 i hi)⟩
  rw := by
    rcases h.rw with h0 | ⟨g, e, h1, h2, h3⟩
    · exact .inl h0
    · exact .inr ⟨g, e, h1, rowC_grow h2 hb, fun i hi hj => tyF_below (h3 i hi hj) hb⟩
  td := h.td

theorem CI.put {w wx : World} {n B g : Nat} {bx : Obj} {na' : Option Addr} {ns : List (List UInt8)} {ks : List Ty} {f : Nat → Cells} {j : Nat} (h : CI w wx n B bx na' (some ⟨g, 0, none⟩) ns ks f j) (hB : w.heap.size + 2 ≤ B) (hj : j < ks.length) {c : Cells} (hc : TyF wx (g + 1) n c.val ks[j]) :
    CI w ((((wx.setCell ⟨g, j * 4, none⟩ (.int .i64 c.1)).setCell ⟨g, j * 4 + 1, none⟩ (.string c.2.1)).setCell ⟨g, j * 4 + 2, none⟩ (.slice c.2.2.1 c.2.2.2.1 c.2.2.2.2.1)).setCell ⟨g, j * 4 + 3, none⟩ (.slice c.2.2.2.2.2.1 c.2.2.2.2.2.2.1 c.2.2.2.2.2.2.2)) n B bx na' (some ⟨g, 0, none⟩) ns ks (fun i => if i = j then c else f i) (j + 1) := by
  obtain ⟨h0, ⟨g', e, h1, h2, h3⟩⟩ : (¬ ks.length = 0) ∧ ∃ g', some (⟨g, 0, none⟩ : Addr) = some ⟨g', 0, none⟩ ∧ B ≤ g' ∧ RowC wx g' ks.length f ∧ ∀ i (h : i < ks.length), i < j → TyF wx (g' + 1) n (f i).val ks[i] := by
    rcases h.rw with h0 | h1
    · omega
    · exact ⟨by omega, h1⟩
  injection e with e
  injection e with e
  subst e
  have hoth : ∀ b, b ≠ g → ((((wx.setCell ⟨g, j * 4, none⟩ (.int .i64 c.1)).setCell ⟨g, j * 4 + 1, none⟩ (.string c.2.1)).setCell ⟨g, j * 4 + 2, none⟩ (.slice c.2.2.1 c.2.2.2.1 c.2.2.2.2.1)).setCell ⟨g, j * 4 + 3, none⟩ (.slice c.2.2.2.2.2.1 c.2.2.2.2.2.2.1 c.2.2.2.2.2.2.2)).heap[b]? = wx.heap[b]? := fun b hb => by
    rw [Below.heap_setCell _ _ _ _ hb, Below.heap_setCell _ _ _ _ hb, Below.heap_setCell _ _ _ _ hb, Below.heap_setCell _ _ _ _ hb]
  have hsz : ((((wx.setCell ⟨g, j * 4, none⟩ (.int .i64 c.1)).setCell ⟨g, j * 4 + 1, none⟩ (.string c.2.1)).setCell ⟨g, j * 4 + 2, none⟩ (.slice c.2.2.1 c.2.2.2.1 c.2.2.2.2.1)).setCell ⟨g, j * 4 + 3, none⟩ (.slice c.2.2.2.2.2.1 c.2.2.2.2.2.2.1 c.2.2.2.2.2.2.2)).heap.size = wx.heap.size := by simp [World.setCell]
  refine ⟨?_, (hoth _ (by omega)).trans h.hx, (hoth _ (by omega)).trans h.rs, by rw [hsz]; exact h.sz, ?_, ?_, ?_⟩
  · exact (((h.bl.setCell (p := ⟨g, j * 4, none⟩) (by show w.heap.size ≤ g; omega) _).setCell (p := ⟨g, j * 4 + 1, none⟩) (by show w.heap.size ≤ g; omega) _).setCell (p := ⟨g, j * 4 + 2, none⟩) (by show w.heap.size ≤ g; omega) _).setCell (p := ⟨g, j * 4 + 3, none⟩) (by show w.heap.size ≤ g; omega) _
  · rcases h.nf with e0 | ⟨b, o, e, n1, n2, n3⟩
    · exact .inl e0
    · exact .inr ⟨b, o, e, n1, n2, fun i hi => (World.cell?_of_block (w := wx) (a := ⟨b, o + i, none⟩) (hoth b (by omega))).trans (n3 i hi)⟩
  · refine .inr ⟨g, rfl, h1, rowC_put h2 hj c, fun i hi hij => ?_⟩
    by_cases e : i = j
    · subst e
      simp only [if_true]
      exact tyF_keep hc (by rw [hsz]; exact Nat.le_refl _) fun b hb _ => hoth b (by omega)
    · simp only [if_neg e]
      exact tyF_keep (h3 i hi (by omega)) (by rw [hsz]; exact Nat.le_refl _) fun b hb _ => hoth b (by omega)
  · intro i hi hij
    simp only [if_neg (show ¬ i = j by omega)]
    exact h.td i hi (by omega)

def CopyAt (n : Nat) : Prop := ∀ (v : Value) (D : Ty) (w : World), TyAt w false n v D → FewT n D → Calls Tryd.prog 25 #[v] w fun e w' => ∃ v', e = .returned v' ∧ TyF w' w.heap.size n v' D ∧ Below w.heap.size w w'

end Go.Proofs.YtmpcjcjacpjilaaDoor
