/- The program's arena while it marks. -/
import Derived.Test.YtcpmdbdppdnkkaaHcQ
import Derived.Test.YtcpmdbdppdnkkaaHcK
namespace Go.Proofs.Ytcpmdbdppdnkkaa
open Go.RowKit

abbrev reachFn (bx lb rb : Nat) : Value := .func (.func 31) #[] #[.pointer (some ⟨bx, 0, none⟩), .pointer (some ⟨lb, 0, none⟩), .pointer (some ⟨rb, 0, none⟩)]
/-- What stands fast while it marks: the three boxes lie beyond the arena's blocks. -/
structure MkB (F : Nat → Prop) (N bx lb rb : Nat) : Prop where
  low : ∀ b, F b → b < N
  b1 : N ≤ bx
  b2 : N ≤ lb
  b3 : N ≤ rb
  n1 : bx ≠ lb
  n2 : rb ≠ lb
  n3 : bx ≠ rb
/-- The world while it marks: m is marked, L comes later. -/
structure MkS (B : Nat) (F : Nat → Prop) (w0 : World) (kb : Nat) (room free used : Int) (os : List Int) (C : List CellV) (Q : List Ob) (bx lb rb : Nat) (W : World) (m : Int → Bool) (L : List Int) : Prop where
  arena : ∃ C1, Like C C1 ∧ StQ C1 Q m ∧ KeptT B F W kb room C1 free used os
  k : W.cell? ⟨bx, 0, none⟩ = some (.pointer (some ⟨kb, 0, none⟩))
  r : W.cell? ⟨rb, 0, none⟩ = some (reachFn bx lb rb)
  l : ∃ v3, W.heap[lb]? = some (.cells #[v3] 31) ∧ W.ownsRow w0.heap.size 3 1 v3 L.length (L.map (Value.int .i64)) ∧ ∀ q, v3.ownBlock = some q → q ≠ bx ∧ q ≠ lb ∧ q ≠ rb
  ch : Ch F w0 W
  h0 : W.cell? ⟨kb, 0, none⟩ = w0.cell? ⟨kb, 0, none⟩
section
variable {B kb bx lb rb : Nat} {F : Nat → Prop} {w0 W V2 : World} {room free used : Int} {os : List Int} {C : List CellV} {Q : List Ob} {m : Int → Bool} {L : List Int}
theorem MkS.no {W1 : World} (h : MkS B F w0 kb room free used os C Q bx lb rb W m L) (hc : Ch noB W W1) : MkS B F w0 kb room free used os C Q bx lb rb W1 m L := by
  obtain ⟨⟨C1, h1, h2, h3⟩, h4, h5, ⟨v3, h6, h7, h8⟩, h9, h10⟩ := h
  obtain ⟨_, _, _, _, ⟨x0, _⟩, _⟩ := KR.look h3
  exact ⟨⟨C1, h1, h2, KR.ch h3 hc fun _ _ h => h⟩, hc.cell h4 fun h => h, hc.cell h5 fun h => h, ⟨v3, hc.obj h6 fun h => h, hc.row h7 fun _ _ h => h, h8⟩, h9.trans hc fun _ _ h => h.elim, by rw [hc.cell x0 fun h => h, ← x0]; exact h10⟩
/-- One is marked. -/
theorem MkS.mark (hB : MkB F w0.heap.size bx lb rb) (h : MkS B F w0 kb room free used os C Q bx lb rb W m L) {o : Ob} {c : CellV} (hc : C[o.p]? = some c) {q n c1 : Nat} (ha : W.cell? ⟨kb, 0, none⟩ = some (.slice (some ⟨q, 0, none⟩) n c1)) :
    MkS B F w0 kb room free used os C Q bx lb rb (W.setCell ⟨q, o.p * 5 + 4, none⟩ (.bool true)) (markM m (o.p : Int)) L := by
  obtain ⟨⟨C1, h1, h2, h3⟩, h4, h5, ⟨v3, h6, h7, h8⟩, h9, h10⟩ := h
  obtain ⟨b, hb⟩ := h1.2 _ _ hc
  obtain ⟨m1, m2, m3⟩ := KR.put4 h3 ha hb true
  have hFq : F q := by
    obtain ⟨q', e, hF, _⟩ := KeptT.at h3 hb ha
    injection e with e
    injection e with e _ _
    exact e ▸ hF
  have hq : q < w0.heap.size := hB.low q hFq
  have hch : Ch (fun b => b = q) W (W.setCell ⟨q, o.p * 5 + 4, none⟩ (.bool true)) := (Ch.refl (fun b => b = q) W).set (fun _ => rfl) _ _
  have e1 := hB.b1
  have e2 := hB.b2
  have e3 := hB.b3
  refine ⟨⟨_, h1.trans (like_set hb true), fun o' ho' d hd => ?_, m1⟩, hch.cell h4 (by show bx ≠ q; omega), hch.cell h5 (by show rb ≠ q; omega), ⟨v3, hch.obj h6 (by show lb ≠ q; omega), hch.row h7 fun q' hq' e => by have := (h7.lt q' hq').1; have : q' = q := e; omega, h8⟩, h9.trans m2 fun _ _ h => h, by rw [m3, ← ha]; exact h10⟩
  by_cases e : o.p = o'.p
  · rw [← e, List.getElem?_set_self (List.getElem?_eq_some_iff.1 hb).1] at hd
    cases hd
    rw [e]
    simp [markM]
  · rw [List.getElem?_set_ne e] at hd
    rw [h2 o' ho' d hd]
    have : (o'.p : Int) ≠ (o.p : Int) := by omega
    simp [markM, this]
/-- One comes later. -/
theorem MkS.push (hB : MkB F w0.heap.size bx lb rb) (h : MkS B F w0 kb room free used os C Q bx lb rb W m L) {v3 v' : Value} {x : Int} {obj : Obj} (hl : W.heap[lb]? = some (.cells #[v3] 31)) (hg : (W.alloc obj).grownBy V2 v3.ownBlock) (ho : V2.ownsRow w0.heap.size 3 1 v' (L.length + 1) (L.map (Value.int .i64) ++ [.int .i64 x])) (hb : v'.ownBlock = v3.ownBlock ∨ v'.ownBlock = some (W.alloc obj).heap.size) :
    (V2.heap[lb]? = some (.cells #[v3] 31)) ∧ MkS B F w0 kb room free used os C Q bx lb rb (V2.setCell ⟨lb, 0, none⟩ v') m (L ++ [x]) := by
  obtain ⟨⟨C1, h1, h2, h3⟩, h4, h5, ⟨v3', h6, h7, h8⟩, h9, h10⟩ := h
  obtain ⟨_, _, _, _, ⟨x0, _⟩, _⟩ := KR.look h3
  rw [hl] at h6
  injection h6 with h6
  injection h6 with h6 _
  have e3 : v3 = v3' := by simpa using h6
  subst e3
  have hc : Ch (fun b => v3.ownBlock = some b) W V2 := ((Ch.refl _ W).alloc obj).grown hg fun q hq _ => hq
  have hc2 : Ch (fun b => b = lb ∨ v3.ownBlock = some b) W (V2.setCell ⟨lb, 0, none⟩ v') := (hc.mono fun _ _ h => .inr h).set (fun _ => .inl rfl) _ _
  have hlb := hc.obj hl fun e => (h8 lb e).2.1 rfl
  have z1 := World.block_lt_of_cell? _ _ h4
  have z2 := World.block_lt_of_cell? _ _ h5
  have z3 := lt_of_block hl
  have e1 := hB.b1
  have e2 := hB.b2
  have e3 := hB.b3
  have hS : ∀ b, b < w0.heap.size → ¬ (b = lb ∨ v3.ownBlock = some b) := fun b hb2 hs => by
    rcases hs with hs | hs
    · omega
    · have := (h7.lt b hs).1; omega
  have hnew : ∀ q, v'.ownBlock = some q → v3.ownBlock = some q ∨ W.heap.size ≤ q := fun q hq => by
    rcases hb with e | e
    · exact .inl (e ▸ hq)
    · rw [e, World.size_alloc] at hq
      injection hq with hq
      exact .inr (by omega)
  have hob := cells_setCell (o := 0) (u := v') hlb
  simp only [List.setIfInBounds_toArray, List.set_cons_zero] at hob
  have hlen : (L ++ [x]).length = L.length + 1 := by simp
  have hmap : (L ++ [x]).map (Value.int .i64) = L.map (Value.int .i64) ++ [.int .i64 x] := by simp
  have hsep : ∀ q, v'.ownBlock = some q → q ≠ bx ∧ q ≠ lb ∧ q ≠ rb := fun q hq => by
    rcases hnew q hq with h | h
    · exact h8 q h
    · have : bx < W.heap.size := z1
      have : rb < W.heap.size := z2
      exact ⟨by omega, by omega, by omega⟩
  refine ⟨hlb, ⟨C1, h1, h2, KR.ch h3 hc2 fun b hb2 => hS b (hB.low b hb2)⟩, hc2.cell h4 fun hs => ?_, hc2.cell h5 fun hs => ?_, ⟨v', hob, ?_, hsep⟩, h9.trans hc2 fun b hb2 hs => absurd hs (hS b hb2), by rw [hc2.cell x0 (hS kb (hB.low kb (KR.self h3))), ← x0]; exact h10⟩
  · rcases hs with hs | hs
    · exact hB.n1 hs
    · exact (h8 bx hs).1 rfl
  · rcases hs with hs | hs
    · exact hB.n2 hs
    · exact (h8 rb hs).2.2 rfl
  · rw [hlen, hmap]
    exact ((Ch.refl (fun b => b = lb) V2).set (fun _ => rfl) _ _).row ho fun q hq e => (hsep q hq).2.1 e
/-- How much of a chain is left. -/
def leftOf : List Nat → Int → Nat
  | [], _ => 0
  | p :: ps, x => if x = (p : Int) then ps.length + 1 else leftOf ps x
theorem left_at : ∀ (a rest : List Nat) (x : Int), (a ++ rest).Nodup → Path C x rest → leftOf (a ++ rest) x = rest.length
  | [], [], _, _, _ => rfl
  | [], p :: ps, x, _, h => by
    show (if x = (p : Int) then ps.length + 1 else leftOf ps x) = ps.length + 1
    rw [if_pos h.1]
  | b :: a, rest, x, hn, h => by
    rw [List.cons_append, List.nodup_cons] at hn
    show (if x = (b : Int) then (a ++ rest).length + 1 else leftOf (a ++ rest) x) = rest.length
    rw [if_neg, left_at a rest x hn.2 h]
    intro e
    cases rest with
    | nil => have : x = -1 := h; omega
    | cons p ps =>
      have : x = (p : Int) := h.1
      have : p = b := by omega
      exact hn.1 (by rw [← this]; exact List.mem_append_right _ (List.mem_cons_self ..))
end
end Go.Proofs.Ytcpmdbdppdnkkaa
