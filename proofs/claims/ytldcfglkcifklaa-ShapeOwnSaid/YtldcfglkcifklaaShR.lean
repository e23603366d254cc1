/- The reference's tree of shapes: New, Slot, same. -/
import Derived.Test.YtldcfglkcifklaaShV
namespace Go.Proofs.Ytldcfglkcifklaa
open Go.RowKit

/-- The reference's tree, in block r; all its blocks are of F. -/
def RefT (B : Nat) (F : Nat → Prop) (w : World) (r : Nat) (T : List (List ByteArray)) : Prop := ∃ v xs,
  w.heap[r]? = some (.cells #[v] 38) ∧ w.ownsRow B 28 1 v T.length xs ∧
  (∀ i (_ : i < T.length), ∃ u, xs[i]? = some u ∧ StrV (fun b => F b ∧ b ≠ r ∧ v.ownBlock ≠ some b) w u T[i]) ∧
  F r ∧ (∀ q, v.ownBlock = some q → F q ∧ q ≠ r) ∧ ∀ b, F b → B ≤ b ∧ b < w.heap.size
section
variable {B r : Nat} {F S : Nat → Prop} {w w' : World} {T : List (List ByteArray)}
theorem RefT.ch (h : RefT B F w r T) (hc : Ch S w w') (hs : ∀ b, F b → ¬ S b) : RefT B F w' r T := by
  obtain ⟨v, xs, h1, h2, h3, h4, h5, h6⟩ := h
  refine ⟨v, xs, hc.obj h1 (hs r h4), hc.row h2 fun q hq => hs q (h5 q hq).1, fun i hi => ?_, h4, h5, fun b hb => ⟨(h6 b hb).1, Nat.lt_of_lt_of_le (h6 b hb).2 hc.size⟩⟩
  obtain ⟨u, hu, hv⟩ := h3 i hi
  exact ⟨u, hu, hv.ch hc fun b hb _ => hs b hb.1⟩
theorem RefT.lt (h : RefT B F w r T) : ∀ b, F b → B ≤ b ∧ b < w.heap.size := by obtain ⟨v, xs, h1, h2, h3, h4, h5, h6⟩ := h; exact h6
theorem RefT.self (h : RefT B F w r T) : F r := by obtain ⟨v, xs, h1, h2, h3, h4, h5, h6⟩ := h; exact h4
theorem RefT.look (h : RefT B F w r T) : ∃ a0 cap, w.cell? ⟨r, 0, none⟩ = some (.slice a0 T.length cap) ∧
    ∀ k (_ : k < T.length), ∃ q ao c, a0 = some ⟨q, 0, none⟩ ∧ w.cell? ⟨q, k, none⟩ = some (.slice ao T[k].length c) ∧ StrV F w (.slice ao T[k].length c) T[k] ∧
      ∀ i (_ : i < T[k].length), ∃ b o, ao = some ⟨b, o, none⟩ ∧ w.cell? ⟨b, o + i, none⟩ = some (.string T[k][i]) := by
  obtain ⟨v, xs, h1, h2, h3, h4, h5, h6⟩ := h
  obtain ⟨a0, cap, rfl⟩ := row_shape h2
  refine ⟨a0, cap, (box1 h1).1, fun k hk => ?_⟩
  obtain ⟨u, hu, hv⟩ := h3 k hk
  have hv' : StrV F w u T[k] := hv.mono fun b _ hb => hb.1
  obtain ⟨ao, c, rfl, _, _, hf⟩ := hv.form
  have hh := h2
  rcases h2.2 with ⟨e, h0⟩ | ⟨g, cap', cur, e, hg, hb, _⟩
  · omega
  · injection e with e _ _
    subst e
    refine ⟨g, ao, c, rfl, ?_, hv', fun i hi => ?_⟩
    · rw [hh.cellAt k (by omega)]
      exact hu
    · obtain ⟨b, o, e, _, _, hc⟩ := hf i hi
      exact ⟨b, o, e, hc⟩
end
/-- What Slot answers. -/
def slotR (T : List (List ByteArray)) (s : Int) (x : ByteArray) : Value := if s < 0 ∨ (T.length : Int) ≤ s then .tuple #[.int .i64 0, .bool false] else
  match slotV (atV T s) x with
  | some i => .tuple #[.int .i64 i, .bool true]
  | none => .tuple #[.int .i64 0, .bool false]

set_option maxRecDepth 100000 in
set_option maxHeartbeats 4000000 in
theorem rnew_c (w : World) : Calls Try.prog 9 #[] w fun e w' => ∃ r F, e = .returned (.pointer (some ⟨r, 0, none⟩)) ∧ RefT w.heap.size F w' r [[]] ∧ Ch (fun _ => False) w w' := by
  go_enter Try.func9, Try.ntmps9
  go_wp2_with fail
  go_ret
  refine ⟨w.heap.size + 1, fun b => b = w.heap.size ∨ b = w.heap.size + 1, rfl, ⟨.slice (some ⟨w.heap.size, 0, none⟩) 1 1, [.slice none 0 0], ?_, ⟨rfl, .inr ⟨w.heap.size, 1, #[.slice none 0 0], rfl, Nat.le_refl _, ?_, Nat.le_refl _, by unfold maxLen; omega, rfl, rfl⟩⟩, ?_, .inr rfl, ?_, ?_⟩, ((Ch.refl _ _).alloc _).alloc _⟩
  · have := heap_alloc_last (w.alloc (.cells #[.slice none 0 0] 28)) (.cells #[.slice (some ⟨w.heap.size, 0, none⟩) 1 1] 38)
    simpa using this
  · exact (Below.heap_alloc _ _ _ (by simp)).trans (heap_alloc_last w _)
  · intro i hi
    obtain rfl : i = 0 := by simpa using hi
    exact ⟨_, rfl, strV_nil _ _⟩
  · intro q hq
    injection hq with hq
    simp only at hq
    exact ⟨.inl hq.symm, by omega⟩
  · rintro b (rfl | rfl)
    · exact ⟨Nat.le_refl _, by rw [World.size_alloc, World.size_alloc]; omega⟩
    · exact ⟨Nat.le_succ _, by rw [World.size_alloc, World.size_alloc]; omega⟩

set_option maxRecDepth 100000 in
set_option maxHeartbeats 4000000 in
theorem rslot_c (B r : Nat) (F : Nat → Prop) (T : List (List ByteArray)) (s : Int) (x : ByteArray) (w : World) (h : RefT B F w r T) (hs0 : -9223372036854775808 ≤ s) (hs1 : s ≤ 9223372036854775807) (hl : ∀ l ∈ T, l.length ≤ 1000000000) :
    Calls Try.prog 18 #[.pointer (some ⟨r, 0, none⟩), .int .i64 s, .string x] w fun e w' => e = .returned (slotR T s x) ∧ w' = w := by
  obtain ⟨a0, cap, hc, hk⟩ := h.look
  have HK := hideP hk
  obtain ⟨R, hR⟩ : ∃ R, R = slotR T s x := ⟨_, rfl⟩
  rw [← hR]
  have HR := hideP hR
  clear h hk hR
  by_cases h0 : s < 0
  · have e : R = .tuple #[.int .i64 0, .bool false] := by rw [HR.out]; unfold slotR; rw [if_pos (.inl h0)]
    subst e
    clear HR HK
    go_enter Try.func18, Try.ntmps18
    go_wp2_with fail
    go_ret2
    exact ⟨rfl, rfl⟩
  obtain ⟨k, rfl⟩ := Int.eq_ofNat_of_zero_le (show 0 ≤ s by omega)
  by_cases hkT : k < T.length
  · obtain ⟨q, ao, c, rfl, hq, _, hi⟩ := HK.out k hkT
    have hkl : (k : Int) < (T.length : Int) := by omega
    have hk0 : (0 : Int) ≤ (k : Int) := by omega
    have hgq : ((k : Int) ≥ (T.length : Int)) = False := by simp; omega
    obtain ⟨l, hl'⟩ : ∃ l, l = T[k] := ⟨_, rfl⟩
    rw [← hl'] at hq hi
    have hll : l.length ≤ 1000000000 := by rw [hl']; exact hl _ (List.getElem_mem hkT)
    have HI := hideP hi
    have HRs : Hid (R = match slotV l x with | some i => .tuple #[.int .i64 i, .bool true] | none => .tuple #[.int .i64 0, .bool false]) := by
      rw [HR.out]; unfold slotR; rw [if_neg (by omega), atV_nat hkT, hl']; rfl
    clear hl' hi HR HK
    go_enter Try.func18, Try.ntmps18
    go_wp2_with fail
    go_loopw [8] (fun i wr => ∃ j : Nat, j ≤ l.length ∧ i = .int .i64 j ∧ Hid (wr = w) ∧ Hid (∀ i (_ : i < l.length), i < j → l[i] ≠ x)) (fun i _ => l.length - (intOf i).toNat)
    case atStart => exact ⟨0, Nat.zero_le _, rfl, rfl, fun k _ h => absurd h (Nat.not_lt_zero _)⟩
    case round =>
      obtain ⟨j, hj, rfl, HW, HN⟩ := hrel
      have hw := HW.out
      subst hw
      clear HW
      by_cases hjl : j < l.length
      · have hjl' : (j : Int) < (l.length : Int) := by omega
        obtain ⟨b, o, rfl, hb⟩ := HI.out j hjl
        have hbe := str_dec l[j] x
        by_cases heq : l[j] = x
        · rw [decide_eq_true heq] at hbe
          have hRj : R = .tuple #[.int .i64 j, .bool true] := by rw [HRs.out, slotV_at hjl heq HN.out]
          subst hRj
          clear heq HRs
          go_wp2_with fail
          go_ret2
          exact ⟨rfl, rfl⟩
        · rw [decide_eq_false heq] at hbe
          have HQ := hideP heq
          clear heq
          go_wp2_with fail
          exact ⟨⟨j + 1, by omega, by go_num, True.intro, fun k hk hkj => by
            by_cases e : k = j
            · subst e; exact HQ.out
            · exact HN.out k hk (by omega)⟩, by simp [intOf]; omega⟩
      · have hjl' : ¬ (j : Int) < (l.length : Int) := by omega
        have hRj : R = .tuple #[.int .i64 0, .bool false] := by rw [HRs.out, slotV_none fun i hi => HN.out i hi (by omega)]
        subst hRj
        clear HRs
        go_wp2_with fail
        go_ret2
        exact ⟨rfl, rfl⟩
  · have e : R = .tuple #[.int .i64 0, .bool false] := by rw [HR.out]; unfold slotR; rw [if_pos (.inr (by omega))]
    subst e
    have hkl : (T.length : Int) ≤ (k : Int) := by omega
    clear HR HK
    go_enter Try.func18, Try.ntmps18
    go_wp2_with fail
    go_ret2
    exact ⟨rfl, rfl⟩

set_option maxHeartbeats 4000000 in
theorem rsame_c (F : Nat → Prop) (v1 v2 : Value) (n1 n2 : List ByteArray) (w : World) (h1 : StrV F w v1 n1) (h2 : StrV F w v2 n2) (hl1 : n1.length ≤ 2000000000) (hl2 : n2.length ≤ 2000000000) :
    Calls Try.prog 23 #[v1, v2] w fun e w' => e = .returned (.bool (decide (n1 = n2))) ∧ ∃ q, w' = w.drewN q := by
  obtain ⟨a1, c1, rfl, _, _, g1⟩ := h1.form
  obtain ⟨a2, c2, rfl, _, _, g2⟩ := h2.form
  have G1 := hideP g1
  have G2 := hideP g2
  clear g1 g2 h1 h2
  by_cases hl : n1.length = n2.length
  · have e1 : ((n1.length : Int) != (n2.length : Int)) = false := by simp [hl]
    have HL := hideP hl
    clear hl
    obtain ⟨R, hR⟩ : ∃ R, R = decide (n1 = n2) := ⟨_, rfl⟩
    rw [← hR]
    have HR := hideP hR
    clear hR
    go_enter Try.func23, Try.ntmps23
    go_wp2_with fail
    go_loopw [5] (fun i wx => ∃ j q : Nat, i = .int .i64 j ∧ j ≤ n1.length ∧ wx = w.drewN q ∧ Hid (∀ i (_ : i < n1.length) (_ : i < n2.length), i < j → n1[i] = n2[i])) (fun i _ => n1.length - (intOf i).toNat)
    case atStart => exact ⟨0, 0, rfl, Nat.zero_le _, rfl, fun _ _ _ h => absurd h (Nat.not_lt_zero _)⟩
    case round =>
      obtain ⟨j, q, rfl, hj, rfl, HN⟩ := hrel
      by_cases hlt : j < n1.length
      · have hjl : (j : Int) < (n1.length : Int) := by omega
        have hlt2 : j < n2.length := by have := HL.out; omega
        have hjl2 : (j : Int) < (n2.length : Int) := by omega
        obtain ⟨b, o, rfl, _, _, hb⟩ := G1.out j hlt
        obtain ⟨b', o', rfl, _, _, hb'⟩ := G2.out j hlt2
        have hbe := str_dec n1[j] n2[j]
        by_cases heq : n1[j] = n2[j]
        · rw [decide_eq_true heq] at hbe
          have HQ := hideP heq
          clear heq
          go_wp2_with fail
          go_quiet (fail)
          go_wp2_with fail
          exact ⟨⟨j + 1, _, by go_num, by omega, rfl, fun k h1 h2 hkj => by
            by_cases e : k = j
            · subst e; exact HQ.out
            · exact HN.out k h1 h2 (by omega)⟩, by simp [intOf]; omega⟩
        · rw [decide_eq_false heq] at hbe
          have hRj : R = false := by
            rw [HR.out, decide_eq_false]
            rintro rfl
            exact heq rfl
          subst hRj
          clear heq HR
          go_wp2_with fail
          go_quiet (fail)
          go_wp2_with fail
          go_ret
          exact ⟨rfl, _, World.drewN_drewN _ _ _⟩
      · have hjl : ¬ (j : Int) < (n1.length : Int) := by omega
        have hRj : R = true := by
          rw [HR.out, decide_eq_true]
          exact List.ext_getElem HL.out fun i h1 h2 => HN.out i h1 h2 (by omega)
        subst hRj
        clear HR
        go_wp2_with fail
        go_ret
        exact ⟨rfl, q, rfl⟩
  · have e1 : ((n1.length : Int) != (n2.length : Int)) = true := by simp; omega
    have hR : decide (n1 = n2) = false := decide_eq_false fun e => hl (by rw [e])
    rw [hR]
    clear hl hR
    go_enter Try.func23, Try.ntmps23
    go_wp2_with fail
    go_ret
    exact ⟨rfl, 0, rfl⟩
end Go.Proofs.Ytldcfglkcifklaa
