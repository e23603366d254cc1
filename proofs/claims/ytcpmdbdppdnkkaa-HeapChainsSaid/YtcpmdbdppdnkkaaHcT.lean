/- The program's arena: what is an object; a cell is taken. -/
import Derived.Test.YtcpmdbdppdnkkaaHcM
import Derived.Deep.Cut
namespace Go.Proofs.Ytcpmdbdppdnkkaa
open Go.RowKit

def hasC (C : List CellV) (x : Int) : Bool := match C[x.toNat]? with | some c => decide (0 ≤ x) && c.first | none => false
theorem Kp.hasB {C : List CellV} {free x : Int} {Q : List Ob} {fr : List Nat} (h : Kp C free Q fr []) : hasC C x = true ↔ hasM (hpO Q) x := by
  unfold hasC
  constructor
  · intro e
    cases hc : C[x.toNat]? with
    | none => rw [hc] at e; cases e
    | some c =>
      rw [hc] at e
      simp at e
      have := (h.has hc).1 e.2
      rw [Int.toNat_of_nonneg e.1] at this
      exact this
  · intro hm
    obtain ⟨o, ho, rfl⟩ := hp_has.1 hm
    obtain ⟨c, h1, h2, _⟩ := h.objs o ho
    rw [Int.toNat_natCast, h1]
    simp [h2]
set_option maxRecDepth 100000 in
set_option maxHeartbeats 4000000 in
theorem has_c (B kb : Nat) (F : Nat → Prop) (room free used : Int) (C : List CellV) (os : List Int) (x : Int) (w : World) (h : KeptT B F w kb room C free used os) (hx : x ≤ 9223372036854775807) :
    Calls Try.prog 25 #[.pointer (some ⟨kb, 0, none⟩), .int .i64 x] w fun e w' => e = .returned (.bool (hasC C x)) ∧ w' = w := by
  obtain ⟨a1, c1, a2, c2, ⟨x0, _⟩, _, _, _⟩ := h.look
  have H := hideP h
  clear h
  by_cases h0 : 0 ≤ x
  · obtain ⟨n, rfl⟩ := Int.eq_ofNat_of_zero_le h0
    have hn0 : (0 : Int) ≤ (n : Int) := by omega
    by_cases hn : n < C.length
    · have hnl : (n : Int) < (C.length : Int) := by omega
      obtain ⟨q, rfl, _, _, ⟨_, _, _, y3, _⟩, _⟩ := KeptT.at H.out (List.getElem?_eq_getElem hn) x0
      have e : hasC C n = C[n].first := by
        unfold hasC
        rw [Int.toNat_natCast, List.getElem?_eq_getElem hn]
        simp
      rw [e]
      obtain ⟨g, hgg⟩ : ∃ g, g = C[n].first := ⟨_, rfl⟩
      rw [← hgg] at y3 ⊢
      clear e hgg
      go_enter Try.func25, Try.ntmps25
      go_wp2_with fail
      go_ret
      exact ⟨rfl, rfl⟩
    · have hnl : ¬ (n : Int) < (C.length : Int) := by omega
      have e : hasC C n = false := by
        unfold hasC
        rw [Int.toNat_natCast, List.getElem?_eq_none (by omega)]
      rw [e]
      clear e
      go_enter Try.func25, Try.ntmps25
      go_wp2_with fail
      go_ret
      exact ⟨rfl, rfl⟩
  · have e : hasC C x = false := by
      unfold hasC
      cases C[x.toNat]? with
      | none => rfl
      | some c => simp [h0]
    rw [e]
    clear e
    go_enter Try.func25, Try.ntmps25
    go_wp2_with fail
    go_ret
    exact ⟨rfl, rfl⟩
set_option maxRecDepth 100000 in
set_option maxHeartbeats 4000000 in
theorem own_c (a kb : Nat) (w : World) (h : w.heap[a]? = some (.cells #[.pointer (some ⟨kb, 0, none⟩)] 58)) :
    Calls Try.prog 22 #[.pointer (some ⟨a, 0, none⟩)] w fun e w' => e = .returned (.pointer (some ⟨kb, 0, none⟩)) ∧ w' = w := by
  obtain ⟨b1, _, _⟩ := box1 h
  clear h
  go_enter Try.func22, Try.ntmps22
  go_wp2_with fail
  go_ret
  exact ⟨rfl, rfl⟩
/-- A cell is taken: which, and what there is then. -/
def TakeR (C : List CellV) (free : Int) (c : CellV) (p : Nat) (C' : List CellV) (free' : Int) : Prop := (free = -1 ∧ p = C.length ∧ C' = C ++ [c] ∧ free' = -1) ∨ (free = (p : Int) ∧ C' = C.set p c ∧ ∃ c0, C[p]? = some c0 ∧ free' = c0.next)
theorem KR.put5 {B kb n : Nat} {F : Nat → Prop} {w : World} {f r u : Int} {C : List CellV} {os : List Int} (h : KR B F w kb f r u C.length (C.flatMap cellC) os) {q m c1 p : Nat} (ha : w.cell? ⟨kb, 0, none⟩ = some (.slice (some ⟨q, 0, none⟩) m c1)) (hp : p < C.length) (c : CellV) (hn : n = p * 5) :
    KR B F (((((w.setCell ⟨q, n, none⟩ (.int .i64 c.n)).setCell ⟨q, n + 1, none⟩ (.int .i64 c.next)).setCell ⟨q, n + 2, none⟩ (.bool c.ref)).setCell ⟨q, n + 3, none⟩ (.bool c.first)).setCell ⟨q, n + 4, none⟩ (.bool c.stays)) kb f r u (C.set p c).length ((C.set p c).flatMap cellC) os ∧
    Ch F w (((((w.setCell ⟨q, n, none⟩ (.int .i64 c.n)).setCell ⟨q, n + 1, none⟩ (.int .i64 c.next)).setCell ⟨q, n + 2, none⟩ (.bool c.ref)).setCell ⟨q, n + 3, none⟩ (.bool c.first)).setCell ⟨q, n + 4, none⟩ (.bool c.stays)) := by
  subst hn
  obtain ⟨h1, a1, t1⟩ := h.putC ha (p * 5) (.int .i64 c.n)
  obtain ⟨h2, a2, t2⟩ := h1.putC a1 (p * 5 + 1) (.int .i64 c.next)
  obtain ⟨h3, a3, t3⟩ := h2.putC a2 (p * 5 + 2) (.bool c.ref)
  obtain ⟨h4, a4, t4⟩ := h3.putC a3 (p * 5 + 3) (.bool c.first)
  obtain ⟨h5, a5, t5⟩ := h4.putC a4 (p * 5 + 4) (.bool c.stays)
  rw [cellC_set C p c hp] at h5
  rw [List.length_set]
  exact ⟨h5, (((t1.trans t2 fun _ _ h => h).trans t3 fun _ _ h => h).trans t4 fun _ _ h => h).trans t5 fun _ _ h => h⟩
set_option maxRecDepth 100000 in
set_option maxHeartbeats 4000000 in
theorem take_c (B kb : Nat) (F : Nat → Prop) (room free used : Int) (C : List CellV) (os : List Int) (c : CellV) (w : World) (h : KeptT B F w kb room C free used os) (hu0 : 0 ≤ used) (hu1 : used ≤ 4000000000) (hC : C.length ≤ 4000000000) (hf : free = -1 ∨ ∃ (p : Nat) (c0 : CellV), free = (p : Int) ∧ C[p]? = some c0) :
    Calls Try.prog 33 #[.pointer (some ⟨kb, 0, none⟩), .agg #[.int .i64 c.n, .int .i64 c.next, .bool c.ref, .bool c.first, .bool c.stays]] w fun e w' => ∃ p C' free', e = .returned (.int .i64 (p : Nat)) ∧ TakeR C free c p C' free' ∧ KTr B F w kb room C' free' (used + 1) os w' := by
  obtain ⟨a1, c1, a2, c2, ⟨x0, x1, x2, x3, x4⟩, xf, xl, _, _⟩ := h.look
  have f1 := xf 1
  have f3 := xf 3
  have f0 := xf 0
  have H := hideP h
  clear h xf
  obtain ⟨i0, hi, hz0, hz1, hz2⟩ := info_parts info_cell
  rcases hf with rfl | ⟨p, c0, rfl, hc⟩
  · obtain ⟨V, hV⟩ : ∃ V, V = (w.setCell ⟨kb, 3, none⟩ (.int .i64 (used + 1))).alloc (.cells #[.int .i64 c.n, .int .i64 c.next, .bool c.ref, .bool c.first, .bool c.stays] 70) := ⟨_, rfl⟩
    have HVs : Hid (V.heap.size = w.heap.size + 1) := by rw [hV, World.size_alloc, size_set]; exact rfl
    have HK1 : Hid (KR B F V kb (-1) room (used + 1) C.length (C.flatMap cellC) os ∧ Ch F w V) := by
      obtain ⟨k1, k2, _⟩ := H.out.setU (used + 1)
      rw [hV]
      exact ⟨k1.ch ((Ch.refl noB _).alloc _) fun _ _ h => h, k2.alloc _⟩
    have HV := hideP hV
    obtain ⟨v1, v2, h1, h2, h3, h4, h5, h6, h7⟩ := HK1.out.1
    obtain ⟨a3, c3, rfl⟩ := row_shape h2
    obtain ⟨⟨y0, _, _, _, _⟩, yf, yl⟩ := box5 h1
    have gf := yf 0
    obtain ⟨⟨z0, z1, z2, z3, z4⟩, _⟩ := box5 (show V.heap[w.heap.size]? = some (.cells #[.int .i64 c.n, .int .i64 c.next, .bool c.ref, .bool c.first, .bool c.stays] 70) by rw [hV]; have := heap_alloc_last (w.setCell ⟨kb, 3, none⟩ (.int .i64 (used + 1))) (.cells #[.int .i64 c.n, .int .i64 c.next, .bool c.ref, .bool c.first, .bool c.stays] 70); rw [size_set] at this; exact this)
    have H1 := hideP h1
    have H2 := hideP h2
    have HR := hideP (And.intro h3 (And.intro h4 (And.intro h5 (And.intro h6 h7))))
    clear h1 h2 h3 h4 h5 h6 h7 yf
    go_enter Try.func33, Try.ntmps33
    go_upto_region 4 with fail
    rw [← hV]
    clear hV x0 x1 x2 x3 x4 f0 f1 f3
    go_region_law (refine step_append_at rfl (.tmp 23) (.tmp 25) 54 rfl B 70 i0 _ 5 24 Try.underlying54 hi hz0 hz1 hz2 rfl (by decide) _ C.length _ (by first | rfl | simp [Act.eval, Act.put]) ((show V.drew.ownsRow B 70 5 (.slice a3 C.length c3) C.length (C.flatMap cellC) from H2.out).alloc _) ⟨V.heap.size, 0, none⟩ 1 1 (cellC c) (by first | rfl | simp [Act.eval, Act.put]) rfl (cells_newK _ _ _) (by simp [Value.oneCell']) (by unfold maxLen; omega) (by omega) (by have := (HR.out.2.2.2.2 kb HR.out.2.1).1; show B ≤ (V.alloc _).heap.size; rw [World.size_alloc]; omega) ?_; intro v' V2 hown' hgrow hblk; obtain ⟨a4, c4, rfl⟩ := row_shape hown'; have GR : Hid ((V.alloc (.cells #[.int .i64 c.n, .int .i64 c.next, .bool c.ref, .bool c.first, .bool c.stays] 70)).grownBy V2 (Value.ownBlock (.slice a3 C.length c3))) := ⟨hgrow.os, hgrow.tape, hgrow.output, hgrow.size, hgrow.block⟩; have HO2 := hideP hown'; have HB2 := hideP hblk; obtain ⟨_, gk, gl⟩ := box5 (grown_kb H1.out GR.out fun e => (HR.out.2.2.1 kb e).2.1 rfl); have gk0 := gk 0; clear hown' hgrow hblk gk)
    all_goals
      go_wp2_with fail
      go_ret
      obtain ⟨F2, k1, k2, k3⟩ := kr_grow H1.out HR.out.1 HR.out.2.1 HR.out.2.2.1 HR.out.2.2.2.1 HR.out.2.2.2.2 GR.out HO2.out HB2.out
      have e1 : (C ++ [c]).length = C.length + 1 := by simp
      have e2 : (C ++ [c]).flatMap cellC = C.flatMap cellC ++ cellC c := by simp [List.flatMap_append]
      refine ⟨C.length, C ++ [c], -1, rfl, .inl ⟨rfl, rfl, rfl, rfl⟩, F2, ?_, fun b hb => (k2 b hb).imp id fun h => by have := HVs.out; omega, HK1.out.2.trans k3 fun _ _ h => h⟩
      unfold KeptT
      rw [e1, e2]
      exact k1
  · have hp := (List.getElem?_eq_some_iff.1 hc).1
    obtain ⟨q, rfl, _, hqk, ⟨_, y1, _, _, _⟩, yf, yl⟩ := KeptT.at H.out hc x0
    have hpl : (p : Int) < (C.length : Int) := by omega
    have hp0 : (0 : Int) ≤ (p : Int) := by omega
    have hpz : ¬ (p : Int) = -1 := by omega
    have g0 := yf (p * 5)
    have g1 := yf (p * 5 + 1)
    have g2 := yf (p * 5 + 2)
    have g3 := yf (p * 5 + 3)
    have g4 := yf (p * 5 + 4)
    clear yf
    go_enter Try.func33, Try.ntmps33
    go_wp2_with fail
    go_region
    go_wp2_with fail
    go_ret
    obtain ⟨k1, t1, e1⟩ := H.out.setU (used + 1)
    obtain ⟨k2, t2, e2⟩ := k1.setF c0.next
    obtain ⟨k3, t3⟩ := KR.put5 k2 (e2 _ (e1 _ x0)) hp c rfl
    have t4 := ((t1.trans t2 fun _ _ h => h).trans t3 fun _ _ h => h)
    exact ⟨p, C.set p c, c0.next, rfl, .inr ⟨rfl, rfl, c0, hc, rfl⟩, KTr.put (k3.ch ((Ch.refl noB _).alloc _).drew fun _ _ h => h) (t4.alloc _).drew⟩
end Go.Proofs.Ytcpmdbdppdnkkaa
