/- The tokens of a list that Lex made, as a walk asks for them. -/
import Derived.Test.YtgoppgopnhmhfaaDoorAwakeL
namespace Go.Proofs.YtgoppgopnhmhfaaDoor
open Go.RowKit

/-- The tokens ts lie in block g. -/
def ToksAt (w : World) (g : Nat) (ts : List Tok) : Prop := ∀ i (hi : i < ts.length), w.cell? ⟨g, i * 4, none⟩ = some (.int .i64 ts[i].kind) ∧ w.cell? ⟨g, i * 4 + 1, none⟩ = some (.string ⟨ts[i].text.toArray⟩) ∧
    w.cell? ⟨g, i * 4 + 2, none⟩ = some (.int .i64 ts[i].line) ∧ w.cell? ⟨g, i * 4 + 3, none⟩ = some (.int .i64 ts[i].col)

theorem toksAt {w : World} {B e g cap n : Nat} {ts : List Tok} (h : w.ownsRow B e 4 (.slice (some ⟨g, 0, none⟩) n cap) n (tokCells ts)) : ToksAt w g ts := fun i hi => by
  have q := tok_at h i hi
  rw [Nat.mul_comm 4 i] at q
  exact q

theorem ToksAt.below {w w' : World} {g : Nat} {ts : List Tok} (h : ToksAt w g ts) (hb : Below w.heap.size w w') (hg : g < w.heap.size) : ToksAt w' g ts := fun i hi => by
  obtain ⟨q0, q1, q2, q3⟩ := h i hi
  exact ⟨(hb.cell (p := ⟨g, i * 4, none⟩) hg).trans q0, (hb.cell (p := ⟨g, i * 4 + 1, none⟩) hg).trans q1, (hb.cell (p := ⟨g, i * 4 + 2, none⟩) hg).trans q2, (hb.cell (p := ⟨g, i * 4 + 3, none⟩) hg).trans q3⟩
end Go.Proofs.YtgoppgopnhmhfaaDoor
