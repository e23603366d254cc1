/- The program's cells in memory. -/
import Derived.Test.YtcpmdbdppdnkkaaHpE
import Derived.Test.YtcpmdbdppdnkkaaHcV
namespace Go.Proofs.Ytcpmdbdppdnkkaa
open Go.RowKit

abbrev cellC (c : CellV) : List Value := [.int .i64 c.n, .int .i64 c.next, .bool c.ref, .bool c.first, .bool c.stays]
theorem cellC_len (C : List CellV) : (C.flatMap cellC).length = C.length * 5 := by
  induction C with
  | nil => rfl
  | cons d l ih => simp only [List.flatMap_cons, List.length_append, ih, List.length_cons, List.length_nil]; omega
theorem cellC_one (C : List CellV) : ∀ u ∈ C.flatMap cellC, u.oneCell' = true := fun u hu => by
  obtain ⟨d, _, hd⟩ := List.mem_flatMap.1 hu
  simp only [cellC, List.mem_cons, List.mem_nil_iff, or_false] at hd
  rcases hd with rfl | rfl | rfl | rfl | rfl <;> rfl
theorem cellC_get : ∀ (C : List CellV) (p : Nat) (c : CellV), C[p]? = some c → (C.flatMap cellC)[p * 5]? = some (.int .i64 c.n) ∧ (C.flatMap cellC)[p * 5 + 1]? = some (.int .i64 c.next) ∧ (C.flatMap cellC)[p * 5 + 2]? = some (.bool c.ref) ∧ (C.flatMap cellC)[p * 5 + 3]? = some (.bool c.first) ∧ (C.flatMap cellC)[p * 5 + 4]? = some (.bool c.stays)
  | [], _, _, h => by simp at h
  | d :: C, 0, c, h => by
    have e : d = c := by simpa using h
    subst e
    exact ⟨rfl, rfl, rfl, rfl, rfl⟩
  | d :: C, p + 1, c, h => by
    have := cellC_get C p c (by simpa using h)
    have e : (p + 1) * 5 = p * 5 + 1 + 1 + 1 + 1 + 1 := by omega
    rw [e]
    simpa using this
theorem cellC_set : ∀ (C : List CellV) (p : Nat) (c : CellV), p < C.length → ((((((C.flatMap cellC).set (p * 5) (.int .i64 c.n)).set (p * 5 + 1) (.int .i64 c.next)).set (p * 5 + 2) (.bool c.ref)).set (p * 5 + 3) (.bool c.first)).set (p * 5 + 4) (.bool c.stays)) = (C.set p c).flatMap cellC
  | [], _, _, h => by simp at h
  | d :: C, 0, c, _ => rfl
  | d :: C, p + 1, c, h => by
    have := cellC_set C p c (by simpa using h)
    have e : (p + 1) * 5 = p * 5 + 1 + 1 + 1 + 1 + 1 := by omega
    rw [e]
    simpa using this
theorem cellC_set4 : ∀ (C : List CellV) (p : Nat) (c : CellV) (b : Bool), C[p]? = some c → (C.flatMap cellC).set (p * 5 + 4) (.bool b) = (C.set p { c with stays := b }).flatMap cellC
  | [], _, _, _, h => by simp at h
  | d :: C, 0, c, b, h => by
    have e : d = c := by simpa using h
    subst e
    rfl
  | d :: C, p + 1, c, b, h => by
    have := cellC_set4 C p c b (by simpa using h)
    have e : (p + 1) * 5 = p * 5 + 1 + 1 + 1 + 1 + 1 := by omega
    rw [e]
    simpa using this
theorem info_cell : (Try.prog.info? 70).map (fun i => (i.zero, i.size, i.bytes)) = some (some (.agg #[.int .i64 0, .int .i64 0, .bool false, .bool false, .bool false]), 5, 24) := by kernel_rfl

/-- What an arena has, in block kb; all its blocks are of F. -/
def KR (B : Nat) (F : Nat → Prop) (w : World) (kb : Nat) (f r u : Int) (n : Nat) (xs : List Value) (os : List Int) : Prop := ∃ v1 v2,
  w.heap[kb]? = some (.cells #[v1, .int .i64 f, .int .i64 r, .int .i64 u, v2] 56) ∧ w.ownsRow B 70 5 v1 n xs ∧ w.ownsRow B 3 1 v2 os.length (os.map (Value.int .i64)) ∧
  F kb ∧ (∀ q, v1.ownBlock = some q → F q ∧ q ≠ kb ∧ v2.ownBlock ≠ some q) ∧ (∀ q, v2.ownBlock = some q → F q ∧ q ≠ kb) ∧ ∀ b, F b → B ≤ b ∧ b < w.heap.size
abbrev KeptT (B : Nat) (F : Nat → Prop) (w : World) (kb : Nat) (room : Int) (C : List CellV) (free used : Int) (os : List Int) : Prop := KR B F w kb free room used C.length (C.flatMap cellC) os
theorem box5 {W : World} {b : Nat} {x0 x1 x2 x3 x4 : Value} {t : TypeId} (h : W.heap[b]? = some (.cells #[x0, x1, x2, x3, x4] t)) : (W.cell? ⟨b, 0, none⟩ = some x0 ∧ W.cell? ⟨b, 1, none⟩ = some x1 ∧ W.cell? ⟨b, 2, none⟩ = some x2 ∧ W.cell? ⟨b, 3, none⟩ = some x3 ∧ W.cell? ⟨b, 4, none⟩ = some x4) ∧ (∀ o, W.frozen? ⟨b, o, none⟩ = false) ∧ b < W.heap.size := by
  refine ⟨⟨?_, ?_, ?_, ?_, ?_⟩, fun o => ?_, lt_of_block h⟩
  all_goals first | (rw [cell_of_row _ _ _ _ _ _ h]; rfl) | simp [World.frozen?, h]
/-- A cell of an own row turns. -/
theorem own_put {w : World} {B et k n g cap j : Nat} {xs : List Value} {u : Value} (h : w.ownsRow B et k (.slice (some ⟨g, 0, none⟩) n cap) n xs) : (w.setCell ⟨g, j, none⟩ u).ownsRow B et k (.slice (some ⟨g, 0, none⟩) n cap) n (xs.set j u) := by
  rcases h.2 with ⟨e, _⟩ | ⟨g', cap', cur, e, hg, hb, hc1, hc2, hc3, hc4⟩
  · injection e with e; cases e
  · injection e with e _ e2
    injection e with e
    injection e with e _ _
    subst e e2
    refine ⟨by rw [List.length_set]; exact h.1, .inr ⟨g, cap, cur.setIfInBounds j u, rfl, hg, cells_setCell hb, hc1, hc2, ?_, ?_⟩⟩
    · rw [Array.size_setIfInBounds]; exact hc3
    · rw [Array.toList_setIfInBounds, List.take_set, hc4]
section
variable {B kb n : Nat} {F S : Nat → Prop} {w w' : World} {f r u : Int} {xs : List Value} {os : List Int} {C : List CellV}
theorem KR.ch (h : KR B F w kb f r u n xs os) (hc : Ch S w w') (hs : ∀ b, F b → ¬ S b) : KR B F w' kb f r u n xs os := by
  obtain ⟨v1, v2, h1, h2, h3, h4, h5, h6, h7⟩ := h
  exact ⟨v1, v2, hc.obj h1 (hs kb h4), hc.row h2 fun q hq => hs q (h5 q hq).1, hc.row h3 fun q hq => hs q (h6 q hq).1, h4, h5, h6, fun b hb => ⟨(h7 b hb).1, Nat.lt_of_lt_of_le (h7 b hb).2 hc.size⟩⟩
theorem KR.lt (h : KR B F w kb f r u n xs os) : ∀ b, F b → B ≤ b ∧ b < w.heap.size := by obtain ⟨v1, v2, h1, h2, h3, h4, h5, h6, h7⟩ := h; exact h7
theorem KR.self (h : KR B F w kb f r u n xs os) : F kb := by obtain ⟨v1, v2, h1, h2, h3, h4, h5, h6, h7⟩ := h; exact h4
theorem own_base {B' et k : Nat} {v : Value} (h : w.ownsRow B et k v n xs) (hB : B' ≤ B) : w.ownsRow B' et k v n xs := by
  refine ⟨h.1, ?_⟩
  rcases h.2 with h | ⟨g, cap, cur, e, hg, rest⟩
  · exact .inl h
  · exact .inr ⟨g, cap, cur, e, Nat.le_trans hB hg, rest⟩
theorem KR.base {B' : Nat} (h : KR B F w kb f r u n xs os) (hB : B' ≤ B) : KR B' F w kb f r u n xs os := by
  obtain ⟨v1, v2, h1, h2, h3, h4, h5, h6, h7⟩ := h
  exact ⟨v1, v2, h1, own_base h2 hB, own_base h3 hB, h4, h5, h6, fun b hb => ⟨Nat.le_trans hB (h7 b hb).1, (h7 b hb).2⟩⟩
theorem KR.look (h : KR B F w kb f r u n xs os) : ∃ a1 c1 a2 c2, (w.cell? ⟨kb, 0, none⟩ = some (.slice a1 n c1) ∧ w.cell? ⟨kb, 1, none⟩ = some (.int .i64 f) ∧ w.cell? ⟨kb, 2, none⟩ = some (.int .i64 r) ∧ w.cell? ⟨kb, 3, none⟩ = some (.int .i64 u) ∧ w.cell? ⟨kb, 4, none⟩ = some (.slice a2 os.length c2)) ∧ (∀ o, w.frozen? ⟨kb, o, none⟩ = false) ∧ kb < w.heap.size ∧
    (0 < n → ∃ q, a1 = some ⟨q, 0, none⟩ ∧ F q ∧ q ≠ kb ∧ (∀ j, j < n * 5 → w.cell? ⟨q, j, none⟩ = xs[j]?) ∧ (∀ o, w.frozen? ⟨q, o, none⟩ = false) ∧ q < w.heap.size) ∧
    (0 < os.length → ∃ q, a2 = some ⟨q, 0, none⟩ ∧ F q ∧ q ≠ kb ∧ ∀ i (hi : i < os.length), w.cell? ⟨q, i, none⟩ = some (.int .i64 os[i])) := by
  obtain ⟨v1, v2, h1, h2, h3, h4, h5, h6, h7⟩ := h
  obtain ⟨a1, c1, rfl⟩ := row_shape h2
  obtain ⟨a2, c2, rfl⟩ := row_shape h3
  obtain ⟨hb1, hb2, hb3⟩ := box5 h1
  refine ⟨a1, c1, a2, c2, hb1, hb2, hb3, fun hn => ?_, fun hn => ?_⟩
  · have hh := h2
    rcases h2.2 with ⟨_, h0⟩ | ⟨g, cap', cur, e, hg, hb, _⟩
    · omega
    · injection e with e _ _
      subst e
      obtain ⟨g1, g2, _⟩ := h5 g rfl
      exact ⟨g, rfl, g1, g2, fun j hj => hh.cellAt j hj, fun o => by simp [World.frozen?, hb], lt_of_block hb⟩
  · have hh := h3
    rcases h3.2 with ⟨_, h0⟩ | ⟨g, cap', cur, e, hg, hb, _⟩
    · omega
    · injection e with e _ _
      subst e
      obtain ⟨g1, g2⟩ := h6 g rfl
      refine ⟨g, rfl, g1, g2, fun i hi => ?_⟩
      rw [hh.cellAt i (by omega), List.getElem?_map, List.getElem?_eq_getElem hi]
      rfl
theorem KeptT.at {room free used : Int} (h : KeptT B F w kb room C free used os) {p : Nat} {c : CellV} (hc : C[p]? = some c) {a1 : Option Addr} {m c1 : Nat} (ha : w.cell? ⟨kb, 0, none⟩ = some (.slice a1 m c1)) : ∃ q, a1 = some ⟨q, 0, none⟩ ∧ F q ∧ q ≠ kb ∧ (w.cell? ⟨q, p * 5, none⟩ = some (.int .i64 c.n) ∧ w.cell? ⟨q, p * 5 + 1, none⟩ = some (.int .i64 c.next) ∧ w.cell? ⟨q, p * 5 + 2, none⟩ = some (.bool c.ref) ∧ w.cell? ⟨q, p * 5 + 3, none⟩ = some (.bool c.first) ∧ w.cell? ⟨q, p * 5 + 4, none⟩ = some (.bool c.stays)) ∧ (∀ o, w.frozen? ⟨q, o, none⟩ = false) ∧ q < w.heap.size := by
  obtain ⟨a1', c1', a2, c2, ⟨x0, _⟩, _, _, k, _⟩ := h.look
  have hp := (List.getElem?_eq_some_iff.1 hc).1
  obtain ⟨q, rfl, k1, k2, k3, k4, k5⟩ := k (by omega)
  rw [ha] at x0
  injection x0 with x0
  injection x0 with e _ _
  obtain ⟨y0, y1, y2, y3, y4⟩ := cellC_get C p c hc
  exact ⟨q, e, k1, k2, ⟨(k3 _ (by omega)).trans y0, (k3 _ (by omega)).trans y1, (k3 _ (by omega)).trans y2, (k3 _ (by omega)).trans y3, (k3 _ (by omega)).trans y4⟩, k4, k5⟩
theorem KR.putC (h : KR B F w kb f r u n xs os) {q m c1 : Nat} (ha : w.cell? ⟨kb, 0, none⟩ = some (.slice (some ⟨q, 0, none⟩) m c1)) (j : Nat) (x : Value) : KR B F (w.setCell ⟨q, j, none⟩ x) kb f r u n (xs.set j x) os ∧ (w.setCell ⟨q, j, none⟩ x).cell? ⟨kb, 0, none⟩ = some (.slice (some ⟨q, 0, none⟩) m c1) ∧ Ch F w (w.setCell ⟨q, j, none⟩ x) := by
  obtain ⟨v1, v2, h1, h2, h3, h4, h5, h6, h7⟩ := h
  have e := (box5 h1).1.1
  rw [ha] at e
  injection e with e
  subst e
  obtain ⟨a, c, e⟩ := row_shape h2
  injection e with e1 e2 e3
  subst e2
  obtain ⟨g1, g2, g3⟩ := h5 q rfl
  have hch : Ch (fun b => b = q) w (w.setCell ⟨q, j, none⟩ x) := (Ch.refl (fun b => b = q) w).set (fun _ => rfl) _ _
  have hob := hch.obj h1 fun e => g2 e.symm
  exact ⟨⟨_, v2, hob, own_put h2, hch.row h3 fun q' hq e => g3 (e ▸ hq), h4, h5, h6, fun b hb => ⟨(h7 b hb).1, by rw [size_set]; exact (h7 b hb).2⟩⟩, (box5 hob).1.1, hch.mono fun b _ e => e ▸ g1⟩
theorem KR.setF (h : KR B F w kb f r u n xs os) (x : Int) : KR B F (w.setCell ⟨kb, 1, none⟩ (.int .i64 x)) kb x r u n xs os ∧ Ch F w (w.setCell ⟨kb, 1, none⟩ (.int .i64 x)) ∧ ∀ y, w.cell? ⟨kb, 0, none⟩ = some y → (w.setCell ⟨kb, 1, none⟩ (.int .i64 x)).cell? ⟨kb, 0, none⟩ = some y := by
  obtain ⟨v1, v2, h1, h2, h3, h4, h5, h6, h7⟩ := h
  have hch : Ch (fun b => b = kb) w (w.setCell ⟨kb, 1, none⟩ (.int .i64 x)) := (Ch.refl (fun b => b = kb) w).set (fun _ => rfl) _ _
  have hob := cells_setCell (o := 1) (u := .int .i64 x) h1
  simp only [List.setIfInBounds_toArray, List.set_cons_succ, List.set_cons_zero] at hob
  refine ⟨⟨v1, v2, hob, hch.row h2 fun q hq e => (h5 q hq).2.1 e, hch.row h3 fun q hq e => (h6 q hq).2 e, h4, h5, h6, fun b hb => ⟨(h7 b hb).1, by rw [size_set]; exact (h7 b hb).2⟩⟩, hch.mono fun b _ e => e ▸ h4, fun y hy => ?_⟩
  rw [(box5 h1).1.1] at hy
  rw [(box5 hob).1.1]
  exact hy
theorem KR.setU (h : KR B F w kb f r u n xs os) (x : Int) : KR B F (w.setCell ⟨kb, 3, none⟩ (.int .i64 x)) kb f r x n xs os ∧ Ch F w (w.setCell ⟨kb, 3, none⟩ (.int .i64 x)) ∧ ∀ y, w.cell? ⟨kb, 0, none⟩ = some y → (w.setCell ⟨kb, 3, none⟩ (.int .i64 x)).cell? ⟨kb, 0, none⟩ = some y := by
  obtain ⟨v1, v2, h1, h2, h3, h4, h5, h6, h7⟩ := h
  have hch : Ch (fun b => b = kb) w (w.setCell ⟨kb, 3, none⟩ (.int .i64 x)) := (Ch.refl (fun b => b = kb) w).set (fun _ => rfl) _ _
  have hob := cells_setCell (o := 3) (u := .int .i64 x) h1
  simp only [List.setIfInBounds_toArray, List.set_cons_succ, List.set_cons_zero] at hob
  refine ⟨⟨v1, v2, hob, hch.row h2 fun q hq e => (h5 q hq).2.1 e, hch.row h3 fun q hq e => (h6 q hq).2 e, h4, h5, h6, fun b hb => ⟨(h7 b hb).1, by rw [size_set]; exact (h7 b hb).2⟩⟩, hch.mono fun b _ e => e ▸ h4, fun y hy => ?_⟩
  rw [(box5 h1).1.1] at hy
  rw [(box5 hob).1.1]
  exact hy
end
section
variable {B kb n m : Nat} {F : Nat → Prop} {V V2 : World} {v1 v2 v' : Value} {f r u : Int} {xs xs' : List Value} {os os' : List Int} {obj : Obj}
theorem grown_kb (h1 : V.heap[kb]? = some (.cells #[v1, .int .i64 f, .int .i64 r, .int .i64 u, v2] 56)) {vo : Option Nat} (hg : (V.alloc obj).grownBy V2 vo) (hq : vo ≠ some kb) : V2.heap[kb]? = some (.cells #[v1, .int .i64 f, .int .i64 r, .int .i64 u, v2] 56) :=
  (((Ch.refl (fun b => vo = some b) V).alloc obj).grown hg fun _ hq _ => hq).obj h1 hq
/-- The row of cells has grown. -/
theorem kr_grow (h1 : V.heap[kb]? = some (.cells #[v1, .int .i64 f, .int .i64 r, .int .i64 u, v2] 56)) (h3 : V.ownsRow B 3 1 v2 os.length (os.map (Value.int .i64)))
    (h4 : F kb) (h5 : ∀ q, v1.ownBlock = some q → F q ∧ q ≠ kb ∧ v2.ownBlock ≠ some q) (h6 : ∀ q, v2.ownBlock = some q → F q ∧ q ≠ kb) (h7 : ∀ b, F b → B ≤ b ∧ b < V.heap.size)
    (hg : (V.alloc obj).grownBy V2 v1.ownBlock) (ho : V2.ownsRow B 70 5 v' m xs') (hb : v'.ownBlock = v1.ownBlock ∨ v'.ownBlock = some (V.alloc obj).heap.size) :
    ∃ F', KR B F' (V2.setCell ⟨kb, 0, none⟩ v') kb f r u m xs' os ∧ (∀ b, F' b → F b ∨ V.heap.size ≤ b) ∧ Ch F V (V2.setCell ⟨kb, 0, none⟩ v') := by
  have hk := grown_kb h1 hg fun e => (h5 kb e).2.1 rfl
  have hc : Ch (fun b => v1.ownBlock = some b) V V2 := ((Ch.refl _ V).alloc obj).grown hg fun q hq _ => hq
  have hc2 : Ch (fun b => b = kb ∨ v1.ownBlock = some b) V (V2.setCell ⟨kb, 0, none⟩ v') := (hc.mono fun _ _ h => .inr h).set (fun _ => .inl rfl) _ _
  have hkl := (h7 kb h4).2
  have hs := hc.size
  have hnew : ∀ q, v'.ownBlock = some q → v1.ownBlock = some q ∨ (V.heap.size ≤ q ∧ q < V2.heap.size) := fun q hq => by
    rcases hb with e | e
    · exact .inl (e ▸ hq)
    · have := (ho.lt q hq).2
      rw [e, World.size_alloc] at hq
      injection hq with hq
      exact .inr ⟨by omega, this⟩
  have hob := cells_setCell (o := 0) (u := v') hk
  simp only [List.setIfInBounds_toArray, List.set_cons_zero] at hob
  refine ⟨fun b => F b ∨ (V.heap.size ≤ b ∧ b < V2.heap.size), ⟨v', v2, hob, ?_, ?_, .inl h4, fun q hq => ?_, fun q hq => ⟨.inl (h6 q hq).1, (h6 q hq).2⟩, fun b hb => ?_⟩, fun b hb => hb.imp id And.left, hc2.mono fun b _ hs => ?_⟩
  · exact ((Ch.refl (fun b => b = kb) V2).set (fun _ => rfl) _ _).row ho fun q hq e => by
      rcases hnew q hq with h | h
      · exact (h5 q h).2.1 e
      · omega
  · exact hc2.row h3 fun q hq e => by
      rcases e with e | e
      · exact (h6 q hq).2 e
      · exact (h5 q e).2.2 hq
  · rcases hnew q hq with h | h
    · exact ⟨.inl (h5 q h).1, (h5 q h).2.1, (h5 q h).2.2⟩
    · exact ⟨.inr h, by omega, fun e => by have := (h7 q (h6 q e).1).2; omega⟩
  · rw [size_set]
    rcases hb with hb | hb
    · exact ⟨(h7 b hb).1, by have := (h7 b hb).2; omega⟩
    · exact ⟨by have := (h7 kb h4).1; omega, hb.2⟩
  · rcases hs with hs | hs
    · exact hs ▸ h4
    · exact (h5 b hs).1
/-- The row of objects has grown. -/
theorem kr_growO (h1 : V.heap[kb]? = some (.cells #[v1, .int .i64 f, .int .i64 r, .int .i64 u, v2] 56)) (h2 : V.ownsRow B 70 5 v1 n xs)
    (h4 : F kb) (h5 : ∀ q, v1.ownBlock = some q → F q ∧ q ≠ kb ∧ v2.ownBlock ≠ some q) (h6 : ∀ q, v2.ownBlock = some q → F q ∧ q ≠ kb) (h7 : ∀ b, F b → B ≤ b ∧ b < V.heap.size)
    (hg : (V.alloc obj).grownBy V2 v2.ownBlock) (ho : V2.ownsRow B 3 1 v' os'.length (os'.map (Value.int .i64))) (hb : v'.ownBlock = v2.ownBlock ∨ v'.ownBlock = some (V.alloc obj).heap.size) :
    ∃ F', KR B F' (V2.setCell ⟨kb, 4, none⟩ v') kb f r u n xs os' ∧ (∀ b, F' b → F b ∨ V.heap.size ≤ b) ∧ Ch F V (V2.setCell ⟨kb, 4, none⟩ v') := by
  have hk := grown_kb h1 hg fun e => (h6 kb e).2 rfl
  have hc : Ch (fun b => v2.ownBlock = some b) V V2 := ((Ch.refl _ V).alloc obj).grown hg fun q hq _ => hq
  have hc2 : Ch (fun b => b = kb ∨ v2.ownBlock = some b) V (V2.setCell ⟨kb, 4, none⟩ v') := (hc.mono fun _ _ h => .inr h).set (fun _ => .inl rfl) _ _
  have hkl := (h7 kb h4).2
  have hs := hc.size
  have hnew : ∀ q, v'.ownBlock = some q → v2.ownBlock = some q ∨ (V.heap.size ≤ q ∧ q < V2.heap.size) := fun q hq => by
    rcases hb with e | e
    · exact .inl (e ▸ hq)
    · have := (ho.lt q hq).2
      rw [e, World.size_alloc] at hq
      injection hq with hq
      exact .inr ⟨by omega, this⟩
  have hob := cells_setCell (o := 4) (u := v') hk
  simp only [List.setIfInBounds_toArray, List.set_cons_succ, List.set_cons_zero] at hob
  refine ⟨fun b => F b ∨ (V.heap.size ≤ b ∧ b < V2.heap.size), ⟨v1, v', hob, ?_, ?_, .inl h4, fun q hq => ⟨.inl (h5 q hq).1, (h5 q hq).2.1, fun e => ?_⟩, fun q hq => ?_, fun b hb => ?_⟩, fun b hb => hb.imp id And.left, hc2.mono fun b _ hs => ?_⟩
  · exact hc2.row h2 fun q hq e => by
      rcases e with e | e
      · exact (h5 q hq).2.1 e
      · exact (h5 q hq).2.2 e
  · exact ((Ch.refl (fun b => b = kb) V2).set (fun _ => rfl) _ _).row ho fun q hq e => by
      rcases hnew q hq with h | h
      · exact (h6 q h).2 e
      · omega
  · rcases hnew q e with h | h
    · exact (h5 q hq).2.2 h
    · have := (h7 q (h5 q hq).1).2
      omega
  · rcases hnew q hq with h | h
    · exact ⟨.inl (h6 q h).1, (h6 q h).2⟩
    · exact ⟨.inr h, by omega⟩
  · rw [size_set]
    rcases hb with hb | hb
    · exact ⟨(h7 b hb).1, by have := (h7 b hb).2; omega⟩
    · exact ⟨by have := (h7 kb h4).1; omega, hb.2⟩
  · rcases hs with hs | hs
    · exact hs ▸ h4
    · exact (h6 b hs).1
end
/-- What a call leaves. -/
def KTr (B : Nat) (F : Nat → Prop) (w : World) (kb : Nat) (room : Int) (C : List CellV) (free used : Int) (os : List Int) (w' : World) : Prop := ∃ F', KeptT B F' w' kb room C free used os ∧ (∀ b, F' b → F b ∨ w.heap.size ≤ b) ∧ Ch F w w'
section
variable {B kb : Nat} {F : Nat → Prop} {w w1 w' : World} {room free used free' used' : Int} {C C' : List CellV} {os os' : List Int}
theorem KTr.same (h : KeptT B F w kb room C free used os) : KTr B F w kb room C free used os w := ⟨F, h, fun _ h => .inl h, Ch.refl _ _⟩
theorem KTr.put (h : KeptT B F w' kb room C' free' used' os') (hc : Ch F w w') : KTr B F w kb room C' free' used' os' w' := ⟨F, h, fun _ h => .inl h, hc⟩
theorem ktr_trans {F1 : Nat → Prop} (h2 : ∀ b, F1 b → F b ∨ w.heap.size ≤ b) (h3 : Ch F w w1) (k : KTr B F1 w1 kb room C' free' used' os' w') : KTr B F w kb room C' free' used' os' w' := by
  obtain ⟨F2, k1, k2, k3⟩ := k
  refine ⟨F2, k1, fun b hb => ?_, h3.trans k3 fun b hb hs => ?_⟩
  · rcases k2 b hb with h | h
    · exact h2 b h
    · exact .inr (Nat.le_trans h3.size h)
  · rcases h2 b hs with h | h
    · exact h
    · omega
end
end Go.Proofs.Ytcpmdbdppdnkkaa
