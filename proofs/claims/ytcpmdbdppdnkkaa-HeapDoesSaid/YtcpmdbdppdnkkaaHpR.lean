/- The reference's world in memory: Is, Used, Objects. -/
import Derived.Test.YtcpmdbdppdnkkaaHpW
namespace Go.Proofs.Ytcpmdbdppdnkkaa
open Go.RowKit

/-- A row of slots, in blocks of F. -/
def SltV (F : Nat → Prop) (w : World) (v : Value) (l : List SlotV) : Prop :=
  (∃ ao cap, v = .slice ao 0 cap ∧ l = [] ∧ (ao = none → cap = 0)) ∨ ∃ b o cap, v = .slice (some ⟨b, o, none⟩) l.length cap ∧ F b ∧ b < w.heap.size ∧ ∀ i (h : i < l.length), w.cell? ⟨b, o + i * 2, none⟩ = some (.bool l[i].ref) ∧ w.cell? ⟨b, o + i * 2 + 1, none⟩ = some (.int .i64 l[i].n)
abbrev sltC (s : SlotV) : List Value := [.bool s.ref, .int .i64 s.n]
theorem slt_len (l : List SlotV) : (l.flatMap sltC).length = l.length * 2 := by
  induction l with
  | nil => rfl
  | cons d l ih => simp only [List.flatMap_cons, List.length_append, ih, List.length_cons, List.length_nil]; omega
theorem slt_one (l : List SlotV) : ∀ u ∈ l.flatMap sltC, u.oneCell' = true := fun u hu => by
  obtain ⟨d, _, hd⟩ := List.mem_flatMap.1 hu
  simp only [sltC, List.mem_cons, List.mem_nil_iff, or_false] at hd
  rcases hd with rfl | rfl <;> rfl
theorem slt_get : ∀ (l : List SlotV) (i : Nat) (_ : i < l.length), (l.flatMap sltC)[i * 2]? = some (.bool l[i].ref) ∧ (l.flatMap sltC)[i * 2 + 1]? = some (.int .i64 l[i].n)
  | s :: l, 0, _ => ⟨rfl, rfl⟩
  | s :: l, i + 1, h => by
    have := slt_get l i (by simpa using h)
    have e : (i + 1) * 2 = i * 2 + 1 + 1 := by omega
    rw [e]
    simpa using this
theorem slt_back {l : List SlotV} {j : Nat} {u : Value} (h : (l.flatMap sltC)[j]? = some u) : ∃ i, ∃ hi : i < l.length, (j = i * 2 ∧ u = .bool l[i].ref) ∨ (j = i * 2 + 1 ∧ u = .int .i64 l[i].n) := by
  have hj : j < l.length * 2 := by rw [← slt_len]; exact (List.getElem?_eq_some_iff.1 h).1
  refine ⟨j / 2, by omega, ?_⟩
  obtain ⟨h1, h2⟩ := slt_get l (j / 2) (by omega)
  rcases Nat.mod_two_eq_zero_or_one j with e | e
  · left
    have e2 : j = j / 2 * 2 := by omega
    rw [e2] at h
    rw [h1] at h
    injection h with h
    exact ⟨e2, h.symm⟩
  · right
    have e2 : j = j / 2 * 2 + 1 := by omega
    rw [e2] at h
    rw [h2] at h
    injection h with h
    exact ⟨e2, h.symm⟩
section
variable {F F' S : Nat → Prop} {w w' : World} {v : Value} {l : List SlotV}
theorem SltV.ch (h : SltV F w v l) (hc : Ch S w w') (hs : ∀ b, F b → b < w.heap.size → ¬ S b) : SltV F w' v l := by
  rcases h with h | ⟨b, o, cap, e, hf, hl, h⟩
  · exact .inl h
  · exact .inr ⟨b, o, cap, e, hf, Nat.lt_of_lt_of_le hl hc.size, fun i hi => ⟨hc.cell (h i hi).1 (hs b hf hl), hc.cell (h i hi).2 (hs b hf hl)⟩⟩
theorem SltV.mono (h : SltV F w v l) (hf : ∀ b, b < w.heap.size → F b → F' b) : SltV F' w v l := by
  rcases h with h | ⟨b, o, cap, e, hb, hl, h⟩
  · exact .inl h
  · exact .inr ⟨b, o, cap, e, hf b hl hb, hl, h⟩
theorem SltV.form (h : SltV F w v l) : ∃ ao cap, v = .slice ao l.length cap ∧ (ao = none → l.length = 0 ∧ cap = 0) ∧ (∀ ad, ao = some ad → ∀ j u, (l.flatMap sltC)[j]? = some u → w.cell? (ad.add j) = some u) ∧
    ∀ i (_ : i < l.length), ∃ b o, ao = some ⟨b, o, none⟩ ∧ b < w.heap.size ∧ F b ∧ w.cell? ⟨b, o + i * 2, none⟩ = some (.bool l[i].ref) ∧ w.cell? ⟨b, o + i * 2 + 1, none⟩ = some (.int .i64 l[i].n) := by
  rcases h with ⟨ao, cap, rfl, rfl, h⟩ | ⟨b, o, cap, rfl, hf, hl, h⟩
  · exact ⟨ao, cap, rfl, fun e => ⟨rfl, h e⟩, fun _ _ _ _ h => by simp at h, fun i hi => absurd hi (Nat.not_lt_zero _)⟩
  · refine ⟨_, cap, rfl, fun e => (by cases e), fun ad e j u hj => ?_, fun i hi => ⟨b, o, rfl, hl, hf, (h i hi).1, (h i hi).2⟩⟩
    injection e with e
    subst e
    rw [add0]
    obtain ⟨i, hi, h1 | h1⟩ := slt_back hj
    · rw [h1.1, h1.2]
      exact (h i hi).1
    · rw [h1.1, h1.2]
      exact (h i hi).2
theorem sltV_own {B : Nat} (h : w.ownsRow B 47 2 v l.length (l.flatMap sltC)) (hf : ∀ q, v.ownBlock = some q → F q) : SltV F w v l := by
  have hh := h
  rcases h.2 with ⟨rfl, h0⟩ | ⟨g, cap, cur, rfl, hg, hb, _⟩
  · exact .inl ⟨none, 0, rfl, List.length_eq_zero_iff.1 h0, fun _ => rfl⟩
  · refine .inr ⟨g, 0, cap, rfl, hf g rfl, lt_of_block hb, fun i hi => ?_⟩
    obtain ⟨h1, h2⟩ := slt_get l i hi
    rw [Nat.zero_add]
    exact ⟨(hh.cellAt _ (by omega)).trans h1, (hh.cellAt _ (by omega)).trans h2⟩
end
/-- The reference's world, in block r; all its blocks are of F. -/
def WorldT (B : Nat) (F : Nat → Prop) (w : World) (r : Nat) (cells : Int) (L : Wd) : Prop := ∃ v xs,
  w.heap[r]? = some (.cells #[.int .i64 cells, v] 30) ∧ w.ownsRow B 64 2 v L.length xs ∧
  (∀ i (_ : i < L.length), ∃ u, xs[i * 2]? = some u ∧ xs[i * 2 + 1]? = some (.bool L[i].2) ∧ SltV (fun b => F b ∧ b ≠ r ∧ v.ownBlock ≠ some b) w u L[i].1) ∧
  F r ∧ (∀ q, v.ownBlock = some q → F q ∧ q ≠ r) ∧ ∀ b, F b → B ≤ b ∧ b < w.heap.size
section
variable {B r : Nat} {F S : Nat → Prop} {w w' : World} {cells : Int} {L : Wd}
theorem WorldT.ch (h : WorldT B F w r cells L) (hc : Ch S w w') (hs : ∀ b, F b → ¬ S b) : WorldT B F w' r cells L := by
  obtain ⟨v, xs, h1, h2, h3, h4, h5, h6⟩ := h
  refine ⟨v, xs, hc.obj h1 (hs r h4), hc.row h2 fun q hq => hs q (h5 q hq).1, fun i hi => ?_, h4, h5, fun b hb => ⟨(h6 b hb).1, Nat.lt_of_lt_of_le (h6 b hb).2 hc.size⟩⟩
  obtain ⟨u, hu, hg, hv⟩ := h3 i hi
  exact ⟨u, hu, hg, hv.ch hc fun b hb _ => hs b hb.1⟩
theorem WorldT.lt (h : WorldT B F w r cells L) : ∀ b, F b → B ≤ b ∧ b < w.heap.size := by obtain ⟨v, xs, h1, h2, h3, h4, h5, h6⟩ := h; exact h6
theorem WorldT.self (h : WorldT B F w r cells L) : F r := by obtain ⟨v, xs, h1, h2, h3, h4, h5, h6⟩ := h; exact h4
theorem WorldT.look (h : WorldT B F w r cells L) : ∃ a0 cap, (w.cell? ⟨r, 0, none⟩ = some (.int .i64 cells) ∧ w.cell? ⟨r, 1, none⟩ = some (.slice a0 L.length cap)) ∧
    ∀ k (_ : k < L.length), ∃ q ao c, a0 = some ⟨q, 0, none⟩ ∧ F q ∧ w.cell? ⟨q, k * 2, none⟩ = some (.slice ao L[k].1.length c) ∧ w.cell? ⟨q, k * 2 + 1, none⟩ = some (.bool L[k].2) ∧ (∀ o, w.frozen? ⟨q, o, none⟩ = false) ∧ SltV F w (.slice ao L[k].1.length c) L[k].1 ∧
      ∀ i (_ : i < L[k].1.length), ∃ b o, ao = some ⟨b, o, none⟩ ∧ w.cell? ⟨b, o + i * 2, none⟩ = some (.bool L[k].1[i].ref) ∧ w.cell? ⟨b, o + i * 2 + 1, none⟩ = some (.int .i64 L[k].1[i].n) := by
  obtain ⟨v, xs, h1, h2, h3, h4, h5, h6⟩ := h
  obtain ⟨a0, cap, rfl⟩ := row_shape h2
  refine ⟨a0, cap, (box2 h1).1, fun k hk => ?_⟩
  obtain ⟨u, hu, hg, hv⟩ := h3 k hk
  have hv' : SltV F w u L[k].1 := hv.mono fun b _ hb => hb.1
  obtain ⟨ao, c, rfl, _, _, hf⟩ := hv.form
  have hh := h2
  rcases h2.2 with ⟨e, h0⟩ | ⟨g, cap', cur, e, hgB, hb, _⟩
  · omega
  · injection e with e _ _
    subst e
    refine ⟨g, ao, c, rfl, (h5 g rfl).1, (hh.cellAt _ (by omega)).trans hu, (hh.cellAt _ (by omega)).trans hg, fun o => by simp [World.frozen?, hb], hv', fun i hi => ?_⟩
    obtain ⟨b, o, e, _, _, hc⟩ := hf i hi
    exact ⟨b, o, e, hc⟩
end
/-- Is there an object at a place? -/
def isB (L : Wd) (k : Int) : Bool := match L[k.toNat]? with | some o => decide (0 ≤ k) && !o.2 | none => false
theorem isB_iff {L : Wd} {k : Int} : isB L k = true ↔ isL L k := by
  unfold isB isL
  cases h : L[k.toNat]? with
  | none => simp
  | some o => simp

set_option maxRecDepth 100000 in
set_option maxHeartbeats 4000000 in
theorem is_c (B r : Nat) (F : Nat → Prop) (cells : Int) (L : Wd) (k : Int) (w : World) (h : WorldT B F w r cells L) (hk1 : k ≤ 9223372036854775807) :
    Calls Try.prog 21 #[.pointer (some ⟨r, 0, none⟩), .int .i64 k] w fun e w' => e = .returned (.bool (isB L k)) ∧ w' = w := by
  obtain ⟨a0, cap, ⟨_, hc⟩, hk⟩ := h.look
  have HK := hideP hk
  clear h hk
  by_cases h0 : 0 ≤ k
  · obtain ⟨n, rfl⟩ := Int.eq_ofNat_of_zero_le h0
    have hn0 : (0 : Int) ≤ (n : Int) := by omega
    by_cases hn : n < L.length
    · have hnl : (n : Int) < (L.length : Int) := by omega
      obtain ⟨q, ao, c, rfl, _, _, hg, _⟩ := HK.out n hn
      have e : isB L n = !L[n].2 := by
        unfold isB
        rw [Int.toNat_natCast, List.getElem?_eq_getElem hn]
        simp
      rw [e]
      obtain ⟨g, hgg⟩ : ∃ g, g = L[n].2 := ⟨_, rfl⟩
      rw [← hgg] at hg ⊢
      clear HK e hgg
      go_enter Try.func21, Try.ntmps21
      go_wp2_with fail
      go_ret
      exact ⟨rfl, rfl⟩
    · have hnl : ¬ (n : Int) < (L.length : Int) := by omega
      have e : isB L n = false := by
        unfold isB
        rw [Int.toNat_natCast, List.getElem?_eq_none (by omega)]
      rw [e]
      clear HK e
      go_enter Try.func21, Try.ntmps21
      go_wp2_with fail
      go_ret
      exact ⟨rfl, rfl⟩
  · have e : isB L k = false := by
      cases hb : isB L k with
      | false => rfl
      | true => exact absurd (isB_iff.1 hb).1 h0
    rw [e]
    clear HK e
    go_enter Try.func21, Try.ntmps21
    go_wp2_with fail
    go_ret
    exact ⟨rfl, rfl⟩
def totL (L : Wd) : Nat := (L.map fun o => o.1.length + 1).sum
theorem used_tot : ∀ L : Wd, usedL L ≤ totL L ∧ objsL L ≤ totL L
  | [] => ⟨Nat.le_refl _, Nat.le_refl _⟩
  | (l, b) :: L => by
    have := used_tot L
    cases b <;> simp only [usedL, objsL, totL, List.map_cons, List.sum_cons] at * <;> simp at * <;> omega
theorem used_snoc (L : Wd) (o : List SlotV × Bool) : usedL (L ++ [o]) = usedL L + (if o.2 then 0 else o.1.length + 1) ∧ objsL (L ++ [o]) = objsL L + (if o.2 then 0 else 1) := by
  unfold usedL objsL
  simp
theorem take_snocW (L : Wd) (j : Nat) (h : j < L.length) : L.take (j + 1) = L.take j ++ [L[j]] := by rw [List.take_succ_eq_append_getElem h]
theorem used_take (L : Wd) (j : Nat) : usedL (L.take j) ≤ usedL L ∧ objsL (L.take j) ≤ objsL L := by
  have : L = L.take j ++ L.drop j := (List.take_append_drop j L).symm
  constructor
  · conv => rhs; rw [this]
    unfold usedL
    rw [List.map_append, List.sum_append]
    omega
  · conv => rhs; rw [this]
    unfold objsL
    rw [List.map_append, List.sum_append]
    omega
set_option maxRecDepth 100000 in
set_option maxHeartbeats 4000000 in
theorem used_c (B r : Nat) (F : Nat → Prop) (cells : Int) (L : Wd) (w : World) (h : WorldT B F w r cells L) (hL : L.length ≤ 1000000) (ht : usedL L ≤ 1000000000000) :
    Calls Try.prog 27 #[.pointer (some ⟨r, 0, none⟩)] w fun e w' => e = .returned (.int .i64 (usedL L)) ∧ w' = w := by
  obtain ⟨a0, cap, ⟨_, hc⟩, hk⟩ := h.look
  have HK := hideP hk
  obtain ⟨R, hR⟩ : ∃ R, R = usedL L := ⟨_, rfl⟩
  rw [← hR] at ht ⊢
  have HR := hideP hR
  clear h hk hR
  go_enter Try.func27, Try.ntmps27
  go_wp2_with fail
  go_loopw [3, 4] (fun n i wr => ∃ j m : Nat, j ≤ L.length ∧ i = .int .i64 j ∧ n = .int .i64 m ∧ Hid (m = usedL (L.take j)) ∧ Hid (wr = w)) (fun _ i _ => L.length - (intOf i).toNat)
  case atStart => exact ⟨0, 0, Nat.zero_le _, rfl, rfl, rfl, rfl⟩
  case round =>
    obtain ⟨j, m, hj, rfl, rfl, HM, HW⟩ := hrel
    have hw := HW.out
    subst hw
    clear HW
    by_cases hjl : j < L.length
    · have hjl' : (j : Int) < (L.length : Int) := by omega
      have hj0 : (0 : Int) ≤ (j : Int) := by omega
      obtain ⟨q, ao, c, rfl, _, hs, hg, _⟩ := HK.out j hjl
      have hb := (used_take L j).1
      have hb2 := (used_take L (j + 1)).1
      have hn := (used_snoc (L.take j) L[j]).1
      rw [← take_snocW L j hjl, ← HM.out] at hn
      have hm : m ≤ 1000000000000 := by rw [HM.out]; have := HR.out; omega
      cases hgv : L[j].2 with
      | true =>
        rw [hgv] at hg hn
        have hn2 : usedL (L.take (j + 1)) = m := by simpa using hn
        have HN : Hid (m = usedL (L.take (j + 1))) := hn2.symm
        clear hn hb hb2 hgv hn2 hs
        go_wp2_with fail
        exact ⟨⟨j + 1, m, by omega, by go_num, rfl, HN.out, True.intro⟩, by simp [intOf]; omega⟩
      | false =>
        rw [hgv] at hg hn
        obtain ⟨n, hnl⟩ : ∃ n, n = L[j].1.length := ⟨_, rfl⟩
        rw [← hnl] at hs hn
        have hn2 : usedL (L.take (j + 1)) = m + (n + 1) := by simpa using hn
        have hnb : n ≤ 1000000000000 := by have := HR.out; omega
        have HN : Hid (m + n + 1 = usedL (L.take (j + 1))) := by rw [hn2]; show _ = _; omega
        clear hn hb hb2 hgv hn2 hnl
        go_wp2_with fail
        exact ⟨⟨j + 1, m + n + 1, by omega, by go_num, by go_num, HN.out, True.intro⟩, by simp [intOf]; omega⟩
    · have hjl' : ¬ (j : Int) < (L.length : Int) := by omega
      have e : R = m := by rw [HM.out, List.take_of_length_le (by omega)]; exact HR.out
      subst e
      go_wp2_with fail
      go_ret
      exact ⟨rfl, rfl⟩
set_option maxRecDepth 100000 in
set_option maxHeartbeats 4000000 in
theorem objs_c (B r : Nat) (F : Nat → Prop) (cells : Int) (L : Wd) (w : World) (h : WorldT B F w r cells L) (hL : L.length ≤ 1000000) (ht : objsL L ≤ 1000000000000) :
    Calls Try.prog 28 #[.pointer (some ⟨r, 0, none⟩)] w fun e w' => e = .returned (.int .i64 (objsL L)) ∧ w' = w := by
  obtain ⟨a0, cap, ⟨_, hc⟩, hk⟩ := h.look
  have HK := hideP hk
  obtain ⟨R, hR⟩ : ∃ R, R = objsL L := ⟨_, rfl⟩
  rw [← hR] at ht ⊢
  have HR := hideP hR
  clear h hk hR
  go_enter Try.func28, Try.ntmps28
  go_wp2_with fail
  go_loopw [3, 4] (fun n i wr => ∃ j m : Nat, j ≤ L.length ∧ i = .int .i64 j ∧ n = .int .i64 m ∧ Hid (m = objsL (L.take j)) ∧ Hid (wr = w)) (fun _ i _ => L.length - (intOf i).toNat)
  case atStart => exact ⟨0, 0, Nat.zero_le _, rfl, rfl, rfl, rfl⟩
  case round =>
    obtain ⟨j, m, hj, rfl, rfl, HM, HW⟩ := hrel
    have hw := HW.out
    subst hw
    clear HW
    by_cases hjl : j < L.length
    · have hjl' : (j : Int) < (L.length : Int) := by omega
      have hj0 : (0 : Int) ≤ (j : Int) := by omega
      obtain ⟨q, ao, c, rfl, _, hs, hg, _⟩ := HK.out j hjl
      have hb := (used_take L j).2
      have hn := (used_snoc (L.take j) L[j]).2
      rw [← take_snocW L j hjl, ← HM.out] at hn
      have hm : m ≤ 1000000000000 := by rw [HM.out]; have := HR.out; omega
      cases hgv : L[j].2 with
      | true =>
        rw [hgv] at hg hn
        have hn2 : objsL (L.take (j + 1)) = m := by simpa using hn
        have HN : Hid (m = objsL (L.take (j + 1))) := hn2.symm
        clear hn hb hgv hn2 hs
        go_wp2_with fail
        exact ⟨⟨j + 1, m, by omega, by go_num, rfl, HN.out, True.intro⟩, by simp [intOf]; omega⟩
      | false =>
        rw [hgv] at hg hn
        have hn2 : objsL (L.take (j + 1)) = m + 1 := by simpa using hn
        have HN : Hid (m + 1 = objsL (L.take (j + 1))) := hn2.symm
        clear hn hb hgv hn2 hs
        go_wp2_with fail
        exact ⟨⟨j + 1, m + 1, by omega, by go_num, by go_num, HN.out, True.intro⟩, by simp [intOf]; omega⟩
    · have hjl' : ¬ (j : Int) < (L.length : Int) := by omega
      have e : R = m := by rw [HM.out, List.take_of_length_le (by omega)]; exact HR.out
      subst e
      go_wp2_with fail
      go_ret
      exact ⟨rfl, rfl⟩
end Go.Proofs.Ytcpmdbdppdnkkaa
