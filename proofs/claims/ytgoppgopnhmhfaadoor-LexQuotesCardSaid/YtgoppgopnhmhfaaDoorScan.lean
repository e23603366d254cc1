/- The scanner in memory: its five cells, and what a store turns. -/
import Derived.Test.YtgoppgopnhmhfaaDoorRowEnd
import Derived.Test.YtgoppgopnhmhfaaDoorSigns
import Derived.OneCell
import Derived.Maps.RangeWalk
import Derived.Maps.AppendAt
import Derived.Deep.QuietTactic
import Derived.BigQuiet
namespace Go.Proofs.YtgoppgopnhmhfaaDoor
open Go.RowKit

/-- Block sb is a scanner over the text S: the first byte that is not read, the line, where it begins, the map of signs. -/
def Scan (w : World) (sb : Nat) (S : ByteArray) (k li ls : Int) (mb : Nat) : Prop :=
  w.heap[sb]? = some (.cells #[.string S, .int .i64 k, .int .i64 li, .int .i64 ls, .map (some mb)] 40 (0, 0))

section
variable {w : World} {sb : Nat} {S : ByteArray} {k li ls : Int} {mb : Nat}

theorem Scan.c0 (h : Scan w sb S k li ls mb) : w.cell? ⟨sb, 0, none⟩ = some (.string S) := by unfold Scan at h; simp [World.cell?, h]
theorem Scan.c1 (h : Scan w sb S k li ls mb) : w.cell? ⟨sb, 1, none⟩ = some (.int .i64 k) := by unfold Scan at h; simp [World.cell?, h]
theorem Scan.c2 (h : Scan w sb S k li ls mb) : w.cell? ⟨sb, 2, none⟩ = some (.int .i64 li) := by unfold Scan at h; simp [World.cell?, h]
theorem Scan.c3 (h : Scan w sb S k li ls mb) : w.cell? ⟨sb, 3, none⟩ = some (.int .i64 ls) := by unfold Scan at h; simp [World.cell?, h]
theorem Scan.c4 (h : Scan w sb S k li ls mb) : w.cell? ⟨sb, 4, none⟩ = some (.map (some mb)) := by unfold Scan at h; simp [World.cell?, h]
theorem Scan.fz (h : Scan w sb S k li ls mb) (o : Nat) : w.frozen? ⟨sb, o, none⟩ = false := by unfold Scan at h; simp [World.frozen?, h]
theorem Scan.lt (h : Scan w sb S k li ls mb) : sb < w.heap.size := lt_of_block h
theorem Scan.drew (h : Scan w sb S k li ls mb) : Scan w.drew sb S k li ls mb := h

theorem cells_setCell {w : World} {b o : Nat} {cs : Array Value} {u : Value} {t : TypeId} {fr : Nat × Nat} (h : w.heap[b]? = some (.cells cs t fr)) : (w.setCell ⟨b, o, none⟩ u).heap[b]? = some (.cells (cs.setIfInBounds o u) t fr) := by
  have hlt := lt_of_block h
  have h' : w.heap[b] = .cells cs t fr := by simpa [Array.getElem?_eq_getElem hlt] using h
  show (w.heap.modify b _)[b]? = _
  rw [Array.getElem?_eq_getElem (by simpa using hlt), Array.getElem_modify_self, h']
  rfl

theorem Scan.set1 (h : Scan w sb S k li ls mb) (v : Int) : Scan (w.setCell ⟨sb, 1, none⟩ (.int .i64 v)) sb S v li ls mb := cells_setCell h
theorem Scan.set2 (h : Scan w sb S k li ls mb) (v : Int) : Scan (w.setCell ⟨sb, 2, none⟩ (.int .i64 v)) sb S k v ls mb := cells_setCell h
theorem Scan.set3 (h : Scan w sb S k li ls mb) (v : Int) : Scan (w.setCell ⟨sb, 3, none⟩ (.int .i64 v)) sb S k li v mb := cells_setCell h

/-- Another block is written, or new ones are laid. -/
theorem Scan.kept {w' : World} {row : Option Nat} (h : Scan w sb S k li ls mb) (hg : w.grownBy w' row) (hne : some sb ≠ row) : Scan w' sb S k li ls mb := by
  unfold Scan at *
  rw [hg.block sb (lt_of_block h) hne]
  exact h
end

/-- Block tb is a token. -/
def TokB (w : World) (tb : Nat) (kind : Int) (text : ByteArray) (li co : Int) : Prop :=
  w.heap[tb]? = some (.cells #[.int .i64 kind, .string text, .int .i64 li, .int .i64 co] 35 (0, 0))

section
variable {w : World} {tb : Nat} {kind : Int} {text : ByteArray} {li co : Int}
theorem TokB.c0 (h : TokB w tb kind text li co) : w.cell? ⟨tb, 0, none⟩ = some (.int .i64 kind) := by unfold TokB at h; simp [World.cell?, h]
theorem TokB.c1 (h : TokB w tb kind text li co) : w.cell? ⟨tb, 1, none⟩ = some (.string text) := by unfold TokB at h; simp [World.cell?, h]
theorem TokB.c2 (h : TokB w tb kind text li co) : w.cell? ⟨tb, 2, none⟩ = some (.int .i64 li) := by unfold TokB at h; simp [World.cell?, h]
theorem TokB.c3 (h : TokB w tb kind text li co) : w.cell? ⟨tb, 3, none⟩ = some (.int .i64 co) := by unfold TokB at h; simp [World.cell?, h]
theorem TokB.fz (h : TokB w tb kind text li co) (o : Nat) : w.frozen? ⟨tb, o, none⟩ = false := by unfold TokB at h; simp [World.frozen?, h]
theorem TokB.lt (h : TokB w tb kind text li co) : tb < w.heap.size := lt_of_block h
theorem TokB.set0 (h : TokB w tb kind text li co) (v : Int) : TokB (w.setCell ⟨tb, 0, none⟩ (.int .i64 v)) tb v text li co := cells_setCell h
theorem TokB.set1 (h : TokB w tb kind text li co) (v : ByteArray) : TokB (w.setCell ⟨tb, 1, none⟩ (.string v)) tb kind v li co := cells_setCell h
theorem TokB.kept {w' : World} {row : Option Nat} (h : TokB w tb kind text li co) (hg : w.grownBy w' row) (hne : some tb ≠ row) : TokB w' tb kind text li co := by
  unfold TokB at *
  rw [hg.block tb (lt_of_block h) hne]
  exact h
end

theorem grown_drew {a w : World} {row : Option Nat} (h : a.grownBy w row) : a.grownBy w.drew row := ⟨h.os, h.tape, h.output, h.size, h.block⟩
theorem grown_drewN {a w : World} {row : Option Nat} (h : a.grownBy w row) (n : Nat) : a.grownBy (w.drewN n) row := ⟨h.os, h.tape, h.output, h.size, h.block⟩

theorem grown_set {a w : World} {b : Nat} (h : a.grownBy w (some b)) (o : Nat) (v : Value) : a.grownBy (w.setCell ⟨b, o, none⟩ v) (some b) :=
  ⟨h.os, h.tape, h.output, by simpa using h.size, fun k hk hne => (Below.heap_setCell w _ v k (fun e => hne (by rw [e]))).trans (h.block k hk hne)⟩

theorem grown_setCell (w : World) (a : Addr) (v : Value) : w.grownBy (w.setCell a v) (some a.block) :=
  ⟨rfl, rfl, rfl, by simp, fun k _ hne => Below.heap_setCell w a v k (fun e => hne (by rw [e]))⟩
end Go.Proofs.YtgoppgopnhmhfaaDoor
