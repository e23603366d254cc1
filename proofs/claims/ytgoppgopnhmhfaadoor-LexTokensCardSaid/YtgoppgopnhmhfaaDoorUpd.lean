/- Worlds of which two blocks alone are written; rows of bytes that a call has made. -/
import Derived.Test.YtgoppgopnhmhfaaDoorHere
import Derived.Laws.BytesArg
namespace Go.Proofs.YtgoppgopnhmhfaaDoor
open Go.RowKit

/-- Nothing that was there has changed but the blocks a and b. -/
structure Upd (w w' : World) (a b : Nat) : Prop where
  os : w'.os = w.os
  tape : w'.tape = w.tape
  output : w'.output = w.output
  size : w.heap.size ≤ w'.heap.size
  block : ∀ i, i < w.heap.size → i ≠ a → i ≠ b → w'.heap[i]? = w.heap[i]?

theorem Upd.refl (w : World) (a b : Nat) : Upd w w a b := ⟨rfl, rfl, rfl, Nat.le_refl _, fun _ _ _ _ => rfl⟩
theorem Upd.trans {w w1 w2 : World} {a b : Nat} (h : Upd w w1 a b) (k : Upd w1 w2 a b) : Upd w w2 a b :=
  ⟨k.os.trans h.os, k.tape.trans h.tape, k.output.trans h.output, Nat.le_trans h.size k.size, fun i hi ha hb => (k.block i (Nat.lt_of_lt_of_le hi h.size) ha hb).trans (h.block i hi ha hb)⟩
theorem Upd.ofNone {w w' : World} (h : w.grownBy w' none) (a b : Nat) : Upd w w' a b := ⟨h.os, h.tape, h.output, h.size, fun i hi _ _ => h.block i hi (by simp)⟩
theorem Upd.ofL {w w' : World} {a : Nat} (h : w.grownBy w' (some a)) (b : Nat) : Upd w w' a b := ⟨h.os, h.tape, h.output, h.size, fun i hi ha _ => h.block i hi (by simpa using ha)⟩
theorem Upd.ofR {w w' : World} {b : Nat} (h : w.grownBy w' (some b)) (a : Nat) : Upd w w' a b := ⟨h.os, h.tape, h.output, h.size, fun i hi _ hb => h.block i hi (by simpa using hb)⟩
theorem Upd.setL {w w' : World} {a b : Nat} (h : Upd w w' a b) (o : Nat) (v : Value) : Upd w (w'.setCell ⟨a, o, none⟩ v) a b := h.trans (.ofL (grown_set (World.grownBy.refl _ _) o v) b)
theorem Upd.setR {w w' : World} {a b : Nat} (h : Upd w w' a b) (o : Nat) (v : Value) : Upd w (w'.setCell ⟨b, o, none⟩ v) a b := h.trans (.ofR (grown_set (World.grownBy.refl _ _) o v) a)
theorem Upd.drewN {w w' : World} {a b : Nat} (h : Upd w w' a b) (n : Nat) : Upd w (w'.drewN n) a b := ⟨h.os, h.tape, h.output, h.size, h.block⟩
theorem Upd.drew {w w' : World} {a b : Nat} (h : Upd w w' a b) : Upd w w'.drew a b := ⟨h.os, h.tape, h.output, h.size, h.block⟩
theorem Upd.below {w w' : World} {a b B : Nat} (h : Upd w w' a b) (hB : B ≤ w.heap.size) (ha : B ≤ a) (hb : B ≤ b) : Below B w w' :=
  ⟨h.os, h.tape, h.output, h.size, fun i hi => h.block i (by omega) (by omega) (by omega)⟩
theorem Upd.words {w w' : World} {a b : Nat} (h : Upd w w' a b) (hw : Words w) (ha : 0 ≠ a) (hb : 0 ≠ b) : Words w' := fun i hi => by
  have := hw i hi
  rw [World.cell?_of_block (w := w) (h.block 0 hw.lt ha hb)]
  exact this
theorem Upd.map {w w' : World} {a b mb n : Nat} {D : DataW Unit} (h : Upd w w' a b) (ho : w.ownsMap Tryd.prog 52 unitElem mb n D) (ha : mb ≠ a) (hb : mb ≠ b) : w'.ownsMap Tryd.prog 52 unitElem mb n D := by
  have hlt := ho.lt
  obtain ⟨es, clock, hh, r⟩ := ho
  exact ⟨es, clock, by rw [h.block mb hlt ha hb]; exact hh, r⟩
theorem Upd.owns {w w' : World} {a b base e size n : Nat} {v : Value} {xs : List Value} (h : Upd w w' a b) (ho : w.ownsRow base e size v n xs) (ha : v.ownBlock ≠ some a) (hb : v.ownBlock ≠ some b) : w'.ownsRow base e size v n xs := by
  obtain ⟨h1, h2⟩ := ho
  refine ⟨h1, ?_⟩
  rcases h2 with h2 | ⟨g, cap, cur, rfl, hg, hh, r⟩
  · exact .inl h2
  · refine .inr ⟨g, cap, cur, rfl, hg, ?_, r⟩
    rw [h.block g (lt_of_block hh) (fun e => ha (by simp [Value.ownBlock, e])) (fun e => hb (by simp [Value.ownBlock, e]))]
    exact hh

/-- Bytes as cells. -/
def bcs (l : List UInt8) : List Value := l.map fun b => .int .u8 b.toNat

theorem bcs_len (l : List UInt8) : (bcs l).length = l.length := by simp [bcs]
theorem bcs_snoc (l : List UInt8) (b : UInt8) : bcs (l ++ [b]) = bcs l ++ [.int .u8 b.toNat] := by simp [bcs]

theorem strOf_bytes (l : List UInt8) : strOfNums (l.map fun b => (b.toNat : Int)) = ⟨l.toArray⟩ := by
  unfold strOfNums
  congr 1
  simp [Function.comp_def]

/-- A row of the call's own as a string. -/
theorem conv_bytes {w : World} {B n : Nat} {v : Value} {l : List UInt8} (h : w.ownsRow B 5 1 v n (bcs l)) : (convert 50 9 v).run Tryd.prog w = .ok (.string ⟨l.toArray⟩) w := by
  have hl : l.length = n := by
    have := h.1
    rw [bcs_len] at this
    omega
  rw [← strOf_bytes]
  rcases h.2 with ⟨rfl, h0⟩ | ⟨g, cap, cur, rfl, _⟩
  · have : l = [] := List.eq_nil_of_length_eq_zero (by omega)
    rw [this]
    exact run_convert_bytes_nil w 50 5 Tryd.underlying50 Tryd.underlying5 0 0 9 Tryd.underlying9
  · refine run_convert_bytes_arg w 50 5 Tryd.underlying50 Tryd.underlying5 g 0 n cap _ (by simpa using hl) ?_ 9 Tryd.underlying9
    intro i hi
    have := h.cells (g := g) rfl i (.int .u8 ((l.map fun b => (b.toNat : Int)).getD i 0)) (by simp [bcs, List.getD, show i < l.length by omega])
    have hadd : (⟨g, 0, none⟩ : Addr).add i = ⟨g, 0 + i, none⟩ := by unfold Addr.add; split <;> simp_all
    rw [hadd] at this
    exact this

theorem cell_new1 (W : World) (x : Int) (t : TypeId) : ∀ j u, [Value.int .u8 x][j]? = some u → (W.alloc (.cells #[.int .u8 x] t)).cell? ((⟨W.heap.size, 0, none⟩ : Addr).add j) = some u := by
  intro j u hj
  match j, hj with
  | 0, hj =>
    simp at hj
    subst hj
    simp [Addr.add]

theorem one_cell (x : Int) : ∀ u ∈ [Value.int .u8 x], u.oneCell' = true := by
  intro u hu
  simp at hu
  subst hu
  rfl

theorem info_byte : (Tryd.prog.info? 5).map (fun i => (i.zero, i.size, i.bytes)) = some (some (.int .u8 0), 1, 1) := by kernel_rfl
end Go.Proofs.YtgoppgopnhmhfaaDoor
