/- The program's arena: what is not marked goes. -/
import Derived.Test.YtcpmdbdppdnkkaaHcD
namespace Go.Proofs.Ytcpmdbdppdnkkaa
open Go.RowKit

/-- An append that writes within a row. -/
theorem wpList_append_mid {P : Program} (w : World) {ops : Array Oper} {rest : List Oper} {o : Oper} {a : Act} {Q : Exit → Act → World → Prop} (hgd : o.guard = none) (s x : Operand) (t : TypeId)
    (hop : o.op = .call { callee := .builtin .append, args := #[s, x], argTypes := #[t, t] }) (base : Nat) (e : TypeId) (i : TypeInfo) (ht : P.underlying t = some (.slice e)) (hi : P.info? e = some i) (hsize : i.size = 1)
    (g k n cap : Nat) (xs : List Value) (hs : a.eval s = .slice (some ⟨g, 0, none⟩) k cap) (hown : w.ownsRow base e 1 (.slice (some ⟨g, 0, none⟩) n cap) n xs)
    (ad : Addr) (c : Nat) (u : Value) (hx : a.eval x = .slice (some ad) 1 c) (hnews : ∀ j v, [u][j]? = some v → w.cell? (ad.add j) = some v) (h1 : u.oneCell' = true) (hk : k < n)
    (h : ∀ w', w'.ownsRow base e 1 (.slice (some ⟨g, 0, none⟩) n cap) n (xs.set k u) → w.grownBy w' (some g) → wpList P ops Q rest (a.put o.dst (.slice (some ⟨g, 0, none⟩) (k + 1) cap)) w') : wpList P ops Q (o :: rest) a w := by
  refine wpList_plain hgd fun K hK => ?_
  rcases hown.2 with ⟨h0, _⟩ | ⟨g', cap', cur, hv, hbg, hg, hnc, hcm, hcs, htake⟩
  · cases h0
  · injection hv with e1 _ e2
    injection e1 with e1
    injection e1 with e1 _ _
    subst e1 e2
    rw [Nat.mul_one] at hcs htake
    have hfit : k * i.size + [u].length ≤ cur.size := by rw [hsize, Nat.mul_one]; show k + 1 ≤ cur.size; omega
    have hr := run_append_room (P := P) w t o.type e i ht hi g k cap cur hg ad 1 c [u] (by rw [hsize]; rfl) hnews (by simpa using h1) (by omega) hfit
    have hset : (cur.toList.take (k * i.size) ++ [u] ++ cur.toList.drop (k * i.size + [u].length)) = cur.toList.set k u := by
      rw [hsize, Nat.mul_one, List.set_eq_take_append_cons_drop, if_pos (by rw [Array.length_toList]; omega)]
      simp
    rw [hset] at hr
    have hown2 : (w.setRow g (cur.toList.set k u).toArray).ownsRow base e 1 (.slice (some ⟨g, 0, none⟩) n cap) n (xs.set k u) := by
      refine ⟨by rw [List.length_set]; exact hown.1, .inr ⟨g, cap, (cur.toList.set k u).toArray, rfl, hbg, setRow_heap w g cur _ e _ hg, hnc, hcm, ?_, ?_⟩⟩
      · rw [List.size_toArray, List.length_set, Array.length_toList, Nat.mul_one]
        exact hcs
      · rw [Nat.mul_one, List.take_set, htake]
    have hgr : w.grownBy (w.setRow g (cur.toList.set k u).toArray) (some g) := ⟨rfl, rfl, rfl, by simp, fun q _ hq => setRow_other w g q _ (fun e => hq (by simp [e]))⟩
    unfold Oper.wp
    simp [execOp, hop, resolve, invoke, builtin, hs, hx, hr, Result.andThen]
    exact hK _ _ (h _ hown2 hgr)
section
variable {B kb n : Nat} {F : Nat → Prop} {V V2 : World} {f r u : Int} {xs : List Value} {os os' : List Int} {obj : Obj} {g c2 : Nat} {a2 : Option Addr}
/-- Within the row of objects something has turned. -/
theorem kr_mid (h : KR B F V kb f r u n xs os) (ha : V.cell? ⟨kb, 4, none⟩ = some (.slice (some ⟨g, 0, none⟩) os.length c2)) (hl : os'.length = os.length) (hg : (V.alloc obj).grownBy V2 (some g)) (ho : V2.ownsRow B 3 1 (.slice (some ⟨g, 0, none⟩) os.length c2) os.length (os'.map (Value.int .i64))) :
    KR B F V2 kb f r u n xs os' ∧ Ch F V V2 ∧ V2.cell? ⟨kb, 4, none⟩ = some (.slice (some ⟨g, 0, none⟩) os.length c2) := by
  obtain ⟨v1, v2, h1, h2, h3, h4, h5, h6, h7⟩ := h
  have e := (box5 h1).1.2.2.2.2
  rw [ha] at e
  injection e with e
  subst e
  obtain ⟨g1, g2⟩ := h6 g rfl
  have hc : Ch (fun b => b = g) V V2 := ((Ch.refl _ V).alloc obj).grown hg fun q hq _ => by injection hq with hq; exact hq.symm
  have hob := hc.obj h1 fun e => g2 e.symm
  refine ⟨⟨v1, _, hob, hc.row h2 fun q hq e => (h5 q hq).2.2 (by rw [e]; rfl), by rw [hl]; exact ho, h4, h5, h6, fun b hb => ⟨(h7 b hb).1, Nat.lt_of_lt_of_le (h7 b hb).2 hc.size⟩⟩, hc.mono fun b _ e => e ▸ g1, (box5 hob).1.2.2.2.2⟩
/-- The row of objects is cut. -/
theorem kr_cut (h : KR B F V kb f r u n xs os) (ha : V.cell? ⟨kb, 4, none⟩ = some (.slice a2 os.length c2)) {k : Nat} (hk : k ≤ os.length) : KR B F (V.setCell ⟨kb, 4, none⟩ (.slice a2 k c2)) kb f r u n xs (os.take k) ∧ Ch F V (V.setCell ⟨kb, 4, none⟩ (.slice a2 k c2)) := by
  obtain ⟨v1, v2, h1, h2, h3, h4, h5, h6, h7⟩ := h
  have e := (box5 h1).1.2.2.2.2
  rw [ha] at e
  injection e with e
  subst e
  have hch : Ch (fun b => b = kb) V (V.setCell ⟨kb, 4, none⟩ (.slice a2 k c2)) := (Ch.refl (fun b => b = kb) V).set (fun _ => rfl) _ _
  have hob := cells_setCell (o := 4) (u := .slice a2 k c2) h1
  simp only [List.setIfInBounds_toArray, List.set_cons_succ, List.set_cons_zero] at hob
  have hlen : (os.take k).length = k := by rw [List.length_take]; omega
  have h6' : ∀ q, (Value.slice a2 k c2).ownBlock = some q → F q ∧ q ≠ kb := fun q hq => h6 q (by cases a2 with | none => cases hq | some ad => exact hq)
  have h3' : V.ownsRow B 3 1 (.slice a2 k c2) k ((os.take k).map (Value.int .i64)) := by
    refine ⟨by rw [List.length_map, hlen, Nat.mul_one], ?_⟩
    rcases h3.2 with ⟨e, h0⟩ | ⟨g, cap, cur, e, hg, hb, hc1, hc2, hc3, hc4⟩
    · injection e with e1 e2 e3
      subst e1 e3
      have : k = 0 := by omega
      subst this
      exact .inl ⟨rfl, rfl⟩
    · injection e with e1 e2 e3
      subst e1 e3
      refine .inr ⟨g, c2, cur, rfl, hg, hb, by omega, hc2, hc3, ?_⟩
      rw [Nat.mul_one] at hc4 ⊢
      rw [List.map_take, ← hc4, List.take_take, Nat.min_eq_left hk]
  refine ⟨⟨v1, _, hob, hch.row h2 fun q hq e => (h5 q hq).2.1 e, ?_, h4, fun q hq => ⟨(h5 q hq).1, (h5 q hq).2.1, fun e => (h5 q hq).2.2 (by cases a2 with | none => cases e | some ad => exact e)⟩, h6', fun b hb => ⟨(h7 b hb).1, by rw [size_set]; exact (h7 b hb).2⟩⟩, hch.mono fun b _ e => e ▸ h4⟩
  rw [hlen]
  exact hch.row h3' fun q hq e => (h6' q hq).2 e
end
theorem KR.put4 {B kb : Nat} {F : Nat → Prop} {w : World} {f r u : Int} {C : List CellV} {os : List Int} (h : KR B F w kb f r u C.length (C.flatMap cellC) os) {q m c1 p : Nat} {c : CellV} (ha : w.cell? ⟨kb, 0, none⟩ = some (.slice (some ⟨q, 0, none⟩) m c1)) (hc : C[p]? = some c) (b : Bool) :
    KR B F (w.setCell ⟨q, p * 5 + 4, none⟩ (.bool b)) kb f r u (C.set p { c with stays := b }).length ((C.set p { c with stays := b }).flatMap cellC) os ∧ Ch F w (w.setCell ⟨q, p * 5 + 4, none⟩ (.bool b)) ∧ (w.setCell ⟨q, p * 5 + 4, none⟩ (.bool b)).cell? ⟨kb, 0, none⟩ = some (.slice (some ⟨q, 0, none⟩) m c1) := by
  obtain ⟨h1, a1, t1⟩ := h.putC ha (p * 5 + 4) (.bool b)
  rw [cellC_set4 C p c b hc] at h1
  rw [List.length_set]
  exact ⟨h1, t1, a1⟩
/-- What has stayed of the first i. -/
def keptQ (Q : List Ob) (m : Int → Bool) (i : Nat) : List Ob := (Q.take i).filter fun o => m (o.p : Int)
theorem keptQ_len (Q : List Ob) (m : Int → Bool) (i : Nat) : (keptQ Q m i).length ≤ i ∧ (keptQ Q m i).length ≤ Q.length := by
  have h1 := List.length_filter_le (fun o : Ob => m (o.p : Int)) (Q.take i)
  have h2 : (Q.take i).length ≤ i := List.length_take_le i Q
  have h3 : (Q.take i).length ≤ Q.length := by rw [List.length_take]; omega
  unfold keptQ
  omega
theorem keptQ_succ {Q : List Ob} {m : Int → Bool} {i : Nat} (hi : i < Q.length) : keptQ Q m (i + 1) = keptQ Q m i ++ if m ((Q[i]).p : Int) = true then [Q[i]] else [] := by
  unfold keptQ
  rw [List.take_succ_eq_append_getElem hi, List.filter_append]
  congr 1
  cases h : m ((Q[i]).p : Int) <;> simp [h]
def SweepI (B : Nat) (F : Nat → Prop) (w : World) (kb : Nat) (room : Int) (Q : List Ob) (m : Int → Bool) (N : Nat) (a2 : Option Addr) (c2 : Nat) (W : World) (i : Nat) (C : List CellV) (free : Int) (fr : List Nat) (os : List Int) : Prop :=
  Kp C free (keptQ Q m i ++ Q.drop i) fr [] ∧ StQ C (keptQ Q m i) (fun _ => false) ∧ StQ C (Q.drop i) m ∧ C.length = N ∧ os.length = Q.length ∧ (∀ j, j < (keptQ Q m i).length → os[j]? = ((keptQ Q m i)[j]?).map fun o => (o.p : Int)) ∧ (∀ j, i ≤ j → os[j]? = (Q[j]?).map fun o => (o.p : Int)) ∧
  KTr B F w kb room C free ((allO (keptQ Q m i ++ Q.drop i)).length : Nat) os W ∧ W.cell? ⟨kb, 4, none⟩ = some (.slice a2 Q.length c2)
end Go.Proofs.Ytcpmdbdppdnkkaa
