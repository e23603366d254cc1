/- What the second loop of types.normRecord keeps: the record under way. -/
import Derived.Test.YtmpcjcjacpjilaaDoorTyNr
import Derived.Maps.AppendAt
namespace Go.Proofs.YtmpcjcjacpjilaaDoor
open Go.RowKit

structure R2 (w2 wx : World) (l : List Fd) (a b : Nat) (vN vK : Value) : Prop where
  bl : Below w2.heap.size w2 wx
  hx : wx.heap[w2.heap.size]? = some (.cells #[.int .i64 5, .string ⟨#[]⟩, vN, vK] 25)
  oN : wx.ownsRow (w2.heap.size + 1) 9 1 vN a ((l.take a).map fun f => .string f.1)
  oK : wx.ownsRow (w2.heap.size + 1) 25 4 vK b ((l.take b).flatMap fun f => f.2.1.list)
  ne : vN.ownBlock = none ∨ vN.ownBlock ≠ vK.ownBlock

section
variable {w2 wx wx' : World} {l : List Fd} {a b : Nat} {vN vK : Value}

theorem own_none {w : World} {base t k n : Nat} {v : Value} {xs : List Value} (h : w.ownsRow base t k v n xs) (h0 : v.ownBlock = none) : v = .slice none 0 0 ∧ n = 0 := by
  rcases h.2 with h1 | ⟨g, cap, cur, h1, _⟩
  · exact h1
  · rw [h1] at h0
    cases h0

theorem R2.lt (h : R2 w2 wx l a b vN vK) : w2.heap.size < wx.heap.size := lt_of_block h.hx

theorem R2.grow (h : R2 w2 wx l a b vN vK) (hb : Below wx.heap.size wx wx') : R2 w2 wx' l a b vN vK where
  bl := below_next h.bl hb
  hx := (hb.block _ h.lt).trans h.hx
  oN := h.oN.kept ⟨hb.os, hb.tape, hb.output, hb.size, fun k hk _ => hb.block k hk⟩ (row := none) (by cases vN.ownBlock <;> simp)
  oK := h.oK.kept ⟨hb.os, hb.tape, hb.output, hb.size, fun k hk _ => hb.block k hk⟩ (row := none) (by cases vK.ownBlock <;> simp)
  ne := h.ne

/-- The record's row and any elder one, behind an append. -/
theorem R2.kept (h : R2 w2 wx l a b vN vK) {o : Obj} {w4 : World} {v : Value} {t k n : Nat} {xs : List Value} (hv : wx.ownsRow (w2.heap.size + 1) t k v n xs) (hg : (wx.alloc o).grownBy w4 v.ownBlock) :
    w4.heap[w2.heap.size]? = some (.cells #[.int .i64 5, .string ⟨#[]⟩, vN, vK] 25) ∧ ∀ q, q < wx.heap.size → some q ≠ v.ownBlock → w4.heap[q]? = wx.heap[q]? := by
  have h1 : ∀ q, q < wx.heap.size → some q ≠ v.ownBlock → w4.heap[q]? = wx.heap[q]? := fun q hq hne => (hg.block q (by simp; omega) hne).trans (Below.heap_alloc _ _ _ hq)
  exact ⟨(h1 _ h.lt fun e => by have := (hv.lt _ e.symm).1; omega).trans h.hx, h1⟩

theorem R2.names (h : R2 w2 wx l a b vN vK) {o : Obj} {w4 : World} {v : Value} {s : ByteArray} (ha : a < l.length) (hs : s = l[a].1) (ho : w4.ownsRow (w2.heap.size + 1) 9 1 v (a + 1) (((l.take a).map fun f => .string f.1) ++ [.string s])) (hg : (wx.alloc o).grownBy w4 vN.ownBlock)
    (hloc : v.ownBlock = vN.ownBlock ∨ v.ownBlock = some (wx.alloc o).heap.size) : R2 w2 (w4.setCell ⟨w2.heap.size, 2, none⟩ v) l (a + 1) b v vK := by
  have hlt := h.lt
  obtain ⟨h1, h2⟩ := h.kept h.oN hg
  have hKb : vK.ownBlock = none ∨ vK.ownBlock ≠ vN.ownBlock := by
    rcases h.ne with e | e
    · cases hk : vK.ownBlock with
      | none => exact .inl rfl
      | some q => rw [e]; exact .inr (by simp)
    · exact .inr fun e2 => e e2.symm
  refine ⟨?_, cells_setCell h1, ?_, ?_, ?_⟩
  · refine Below.setCell (p := ⟨w2.heap.size, 2, none⟩) ?_ (Nat.le_refl _) _
    exact (h.bl.alloc (Nat.le_of_lt hlt) o).grown hg (by simp; omega) fun q e => by have := (h.oN.lt _ e).1; omega
  · rw [List.take_succ_eq_append_getElem ha, List.map_append]
    have := ownsRow_setCell_below ho (a := ⟨w2.heap.size, 2, none⟩) (Nat.lt_succ_self _) v
    rw [hs] at this
    exact this
  · refine ownsRow_setCell_below ?_ (a := ⟨w2.heap.size, 2, none⟩) (Nat.lt_succ_self _) v
    exact (h.oK.alloc o).kept hg hKb
  · refine .inr fun e => ?_
    rcases hloc with e1 | e1
    · rw [e1] at e
      rcases h.ne with e2 | e2
      · rw [e2] at e1
        have := own_none ho e1
        omega
      · exact e2 e
    · rw [e1] at e
      have := (h.oK.lt _ e.symm).2
      simp at this
      omega

theorem R2.kids (h : R2 w2 wx l a b vN vK) {o : Obj} {w4 : World} {v : Value} {c : Cells} (hb : b < l.length) (hc : c = l[b].2.1) (ho : w4.ownsRow (w2.heap.size + 1) 25 4 v (b + 1) (((l.take b).flatMap fun f => f.2.1.list) ++ c.list)) (hg : (wx.alloc o).grownBy w4 vK.ownBlock)
    (hloc : v.ownBlock = vK.ownBlock ∨ v.ownBlock = some (wx.alloc o).heap.size) : R2 w2 (w4.setCell ⟨w2.heap.size, 3, none⟩ v) l a (b + 1) vN v := by
  have hlt := h.lt
  obtain ⟨h1, h2⟩ := h.kept h.oK hg
  refine ⟨?_, cells_setCell h1, ?_, ?_, ?_⟩
  · refine Below.setCell (p := ⟨w2.heap.size, 3, none⟩) ?_ (Nat.le_refl _) _
    exact (h.bl.alloc (Nat.le_of_lt hlt) o).grown hg (by simp; omega) fun q e => by have := (h.oK.lt _ e).1; omega
  · refine ownsRow_setCell_below ?_ (a := ⟨w2.heap.size, 3, none⟩) (Nat.lt_succ_self _) v
    exact (h.oN.alloc o).kept hg h.ne
  · rw [List.take_succ_eq_append_getElem hb, List.flatMap_append]
    have := ownsRow_setCell_below ho (a := ⟨w2.heap.size, 3, none⟩) (Nat.lt_succ_self _) v
    rw [hc] at this
    simpa using this
  · rcases h.ne with e | e
    · exact .inl e
    · refine .inr fun e2 => ?_
      rcases hloc with e1 | e1
      · exact e (e2.trans e1)
      · rw [e1] at e2
        have := (h.oN.lt _ e2).2
        simp at this
        omega
end

theorem one_newN (W : World) {N : Nat} (hN : N = W.heap.size) (x : Value) (t : TypeId) : ∀ j u, ([x] : List Value)[j]? = some u → (W.alloc (.cells #[x] t)).cell? ((⟨N, 0, none⟩ : Addr).add j) = some u := by
  subst hN
  intro j u hj
  cases j with
  | zero =>
    have hadd : (⟨W.heap.size, 0, none⟩ : Addr).add 0 = ⟨W.heap.size, 0, none⟩ := by simp [Addr.add]
    rw [hadd, cell_of_row _ _ 0 _ t (0, 0) (heap_alloc_last W _)]
    simpa using hj
  | succ j => simp at hj

/-- The record, made. -/
theorem R2.made {w2 wx : World} {l : List Fd} {vN vK : Value} {lo n : Nat} (h : R2 w2 wx l l.length l.length vN vK) (hlo : lo ≤ w2.heap.size) (h16 : l.length ≤ 16) (hs : ∀ f ∈ l, f.1.size ≤ reachBytes) (hty : ∀ f ∈ l, ∃ E, f.2.2 = [E] ∧ TyF wx lo n f.2.1.val E) :
    ∃ na nc ka kc, vN = .slice na l.length nc ∧ vK = .slice ka l.length kc ∧ TyF wx lo (n + 1) (.agg #[.int .i64 5, .string ⟨#[]⟩, vN, vK]) (recT (l.map pairF)) := by
  have hoN := h.oN
  have hoK := h.oK
  rw [List.take_of_length_le (Nat.le_refl _)] at hoN hoK
  obtain ⟨ka, kc, hk1, hk2, hk3⟩ := kidsF_of_owns (lo := lo) (n := n) (cs := l.map fun f => f.2.1) (ks := l.map fun f => (pairF f).2) (by simpa [List.flatMap_map] using hoK) (by omega) (by simp) (fun i h1 h2 => by
    have hi : i < l.length := by simpa using h1
    obtain ⟨E, e1, e2⟩ := hty (l[i]'hi) (List.getElem_mem hi)
    simp only [List.getElem_map, pairF, e1]
    exact e2)
  have hN : ∃ na nc, vN = .slice na l.length nc ∧ l.length ≤ nc ∧ NamesF wx lo na (l.map fun f => (pairF f).1) := by
    rcases hoN.2 with ⟨h1, h0⟩ | ⟨g, cap, cur, h1, hg, hh, hcap, _⟩
    · exact ⟨none, 0, by rw [h0]; exact h1, by omega, .inl (by rw [List.length_eq_zero_iff.1 h0]; rfl)⟩
    · refine ⟨_, _, h1, hcap, .inr ⟨g, 0, rfl, by omega, lt_of_block hh, fun i hi => ?_⟩⟩
      have hi' : i < l.length := by simpa using hi
      have := hoN.cells (g := g) (by rw [h1]; rfl) i (.string l[i].1) (by simp [hi'])
      have hadd : (⟨g, 0, none⟩ : Addr).add i = ⟨g, 0 + i, none⟩ := by unfold Addr.add; split <;> simp_all
      rw [hadd] at this
      rw [this]
      simp [pairF]
  obtain ⟨na, nc, hn1, hn2, hn3⟩ := hN
  have hk1' : vK = .slice ka l.length kc := by simpa using hk1
  refine ⟨na, nc, ka, kc, hn1, hk1', 5, ⟨#[]⟩, na, nc, ka, kc, l.map fun f => (pairF f).1, l.map fun f => (pairF f).2, ?_, ?_, by decide, by decide, ?_, ⟨by simpa using hn2, by unfold reachBytes; simp; omega⟩, ⟨by simpa using hk2, by unfold reachBytes; simp; omega⟩, hn3, hk3⟩
  · rw [hn1, hk1']
    simp
  · unfold recT
    simp [List.map_map, Function.comp_def]
  · intro s hs'
    obtain ⟨f, hf, rfl⟩ := List.mem_map.1 hs'
    have := hs f hf
    simpa [pairF] using this
end Go.Proofs.YtmpcjcjacpjilaaDoor
