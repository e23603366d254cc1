/- graduslaw15.awake, texts. -/
import Derived.Test.YtldcfglkcifklaaShI
namespace Go.Proofs.Ytldcfglkcifklaa
open Go.RowKit

set_option maxHeartbeats 4000000 in
theorem texts_c (F : Nat → Prop) (v1 v2 : Value) (n1 n2 : List ByteArray) (w : World) (h1 : StrV F w v1 n1) (h2 : StrV F w v2 n2) (hl1 : n1.length ≤ 2000000000) (hl2 : n2.length ≤ 2000000000) :
    Calls Try.prog 15 #[v1, v2] w fun e w' => e = .returned (.bool (decide (n1 = n2))) ∧ ∃ q, w' = w.drewN q := by
  obtain ⟨a1, c1, rfl, _, _, g1⟩ := h1.form
  obtain ⟨a2, c2, rfl, _, _, g2⟩ := h2.form
  have G1 := hideP g1
  have G2 := hideP g2
  clear g1 g2 h1 h2
  by_cases hl : n1.length = n2.length
  · have e1 : ((n1.length : Int) != (n2.length : Int)) = false := by simp [hl]
    have HL := hideP hl
    clear hl
    obtain ⟨R, hR⟩ : ∃ R, R = decide (n1 = n2) := ⟨_, rfl⟩
    rw [← hR]
    have HR := hideP hR
    clear hR
    go_enter Try.func15, Try.ntmps15
    go_wp2_with fail
    go_loopw [5] (fun i wx => ∃ j q : Nat, i = .int .i64 j ∧ j ≤ n1.length ∧ wx = w.drewN q ∧ Hid (∀ i (_ : i < n1.length) (_ : i < n2.length), i < j → n1[i] = n2[i])) (fun i _ => n1.length - (intOf i).toNat)
    case atStart => exact ⟨0, 0, rfl, Nat.zero_le _, rfl, fun _ _ _ h => absurd h (Nat.not_lt_zero _)⟩
    case round =>
      obtain ⟨j, q, rfl, hj, rfl, HN⟩ := hrel
      by_cases hlt : j < n1.length
      · have hjl : (j : Int) < (n1.length : Int) := by omega
        have hlt2 : j < n2.length := by have := HL.out; omega
        have hjl2 : (j : Int) < (n2.length : Int) := by omega
        obtain ⟨b, o, rfl, _, _, hb⟩ := G1.out j hlt
        obtain ⟨b', o', rfl, _, _, hb'⟩ := G2.out j hlt2
        have hbe := str_dec n1[j] n2[j]
        by_cases heq : n1[j] = n2[j]
        · rw [decide_eq_true heq] at hbe
          have HQ := hideP heq
          clear heq
          go_wp2_with fail
          go_quiet (fail)
          go_wp2_with fail
          exact ⟨⟨j + 1, _, by go_num, by omega, rfl, fun k h1 h2 hkj => by
            by_cases e : k = j
            · subst e; exact HQ.out
            · exact HN.out k h1 h2 (by omega)⟩, by simp [intOf]; omega⟩
        · rw [decide_eq_false heq] at hbe
          have hRj : R = false := by
            rw [HR.out, decide_eq_false]
            rintro rfl
            exact heq rfl
          subst hRj
          clear heq HR
          go_wp2_with fail
          go_quiet (fail)
          go_wp2_with fail
          go_ret
          exact ⟨rfl, _, World.drewN_drewN _ _ _⟩
      · have hjl : ¬ (j : Int) < (n1.length : Int) := by omega
        have hRj : R = true := by
          rw [HR.out, decide_eq_true]
          exact List.ext_getElem HL.out fun i h1 h2 => HN.out i h1 h2 (by omega)
        subst hRj
        clear HR
        go_wp2_with fail
        go_ret
        exact ⟨rfl, q, rfl⟩
  · have e1 : ((n1.length : Int) != (n2.length : Int)) = true := by simp; omega
    have hR : decide (n1 = n2) = false := decide_eq_false fun e => hl (by rw [e])
    rw [hR]
    clear hl hR
    go_enter Try.func15, Try.ntmps15
    go_wp2_with fail
    go_ret
    exact ⟨rfl, 0, rfl⟩
section
variable {B t : Nat} {F F1 S : Nat → Prop} {w w1 w' : World} {T T1 : List (List ByteArray)}
theorem TreeT.no (h : TreeT B F w t T) (hc : Ch noB w w') : TreeT B F w' t T := h.ch hc fun _ _ h => h
theorem RefT.no {r : Nat} (h : RefT B F w r T) (hc : Ch noB w w') : RefT B F w' r T := h.ch hc fun _ _ h => h
end
/-- The names of the example. -/
def aB : ByteArray := ⟨#[97]⟩
def bB : ByteArray := ⟨#[98]⟩
theorem ex1 : addV [[]] 0 aB = ([[], [aB]], 1, 0) := by decide
theorem ex2 : addV [[], [aB]] 1 bB = ([[], [aB], [aB, bB]], 2, 0) := by decide
theorem ex3 : addV [[], [aB], [aB, bB]] 0 bB = ([[], [aB], [aB, bB], [bB]], 3, 0) := by decide
theorem ex4 : addV [[], [aB], [aB, bB], [bB]] 0 aB = ([[], [aB], [aB, bB], [bB]], 1, 0) := by decide
theorem ex5 : addV [[], [aB], [aB, bB], [bB]] 2 aB = ([[], [aB], [aB, bB], [bB]], 2, 0) := by decide
theorem ex6 : addV [[], [aB], [aB, bB], [bB]] 9 aB = ([[], [aB], [aB, bB], [bB]], 0, 1) := by decide
theorem ex7 : slotR [[], [aB], [aB, bB], [bB]] 2 bB = .tuple #[.int .i64 1, .bool true] := by
  have : slotV (atV [[], [aB], [aB, bB], [bB]] 2) bB = some 1 := by decide
  unfold slotR
  rw [if_neg (by decide), this]
  rfl
theorem sadd_r {B t : Nat} {F : Nat → Prop} {T T' : List (List ByteArray)} {s a e0 : Int} {x : ByteArray} {w : World} (h : TreeT B F w t T) (hg : GoodT T) (hR : addV T s x = (T', a, e0)) (hs : -9223372036854775808 ≤ s ∧ s ≤ 9223372036854775807) (hT : T.length ≤ 1000000) (hx : x.size ≤ 140737488351232) :
    Calls Try.prog 12 #[.pointer (some ⟨t, 0, none⟩), .int .i64 s, .string x] w fun e w' => e = .returned (.tuple #[.int .i64 a, .int .i64 e0]) ∧ GoodT T' ∧ ∃ F', TreeT B F' w' t T' ∧ (∀ b, F' b → F b ∨ w.heap.size ≤ b) ∧ Ch F w w' := by
  have := sadd_c B t F T s x w h hg hs.1 hs.2 hT hx
  have hg' := good_add (s := s) (x := x) hg
  rw [hR] at this hg'
  exact this.mono fun e w' h => ⟨h.1, hg', h.2⟩
set_option maxRecDepth 100000 in
set_option maxHeartbeats 4000000 in
theorem awake_c (w : World) : Calls Try.prog 7 #[] w fun e w' => e = .returned (.bool true) ∧ Below w.heap.size w w' := by
  go_enter Try.func7, Try.ntmps7
  go_wp2_with fail
  refine (snew_c _).mono ?_
  rintro e w0 ⟨t, F, rfl, h0, hc0⟩
  have H0 := hideP h0
  have G0 := hideP (good_one)
  have B0 : Hid (Below w.heap.size w w0) := hc0.below (Nat.le_refl _) fun _ h => h.elim
  clear h0 hc0
  go_wp2_with fail
  refine (sadd_r H0.out G0.out ex1 (by decide) (by decide) (by decide)).mono ?_
  rintro e w1 ⟨rfl, hg, F1, hp, hq, hc⟩
  have H1 := hideP hp
  have G1 := hideP hg
  have B1 : Hid (Below w.heap.size w w1) := B0.out.trans (hc.below (by have := B0.out.size; exact this) fun b hb => (H0.out.lt b hb).1)
  clear hg hp hq hc H0 G0 B0
  go_wp2_with fail
  refine (sadd_r H1.out G1.out ex2 (by decide) (by decide) (by decide)).mono ?_
  rintro e w2 ⟨rfl, hg, F2, hp, hq, hc⟩
  have H2 := hideP hp
  have G2 := hideP hg
  have B2 : Hid (Below w.heap.size w w2) := B1.out.trans (hc.below (by have := B1.out.size; exact this) fun b hb => (H1.out.lt b hb).1)
  clear hg hp hq hc H1 G1 B1
  go_wp2_with fail
  refine (sadd_r H2.out G2.out ex3 (by decide) (by decide) (by decide)).mono ?_
  rintro e w3 ⟨rfl, hg, F3, hp, hq, hc⟩
  have H3 := hideP hp
  have G3 := hideP hg
  have B3 : Hid (Below w.heap.size w w3) := B2.out.trans (hc.below (by have := B2.out.size; exact this) fun b hb => (H2.out.lt b hb).1)
  clear hg hp hq hc H2 G2 B2
  go_wp2_with fail
  refine (sadd_r H3.out G3.out ex4 (by decide) (by decide) (by decide)).mono ?_
  rintro e w4 ⟨rfl, hg, F4, hp, hq, hc⟩
  have H4 := hideP hp
  have G4 := hideP hg
  have B4 : Hid (Below w.heap.size w w4) := B3.out.trans (hc.below (by have := B3.out.size; exact this) fun b hb => (H3.out.lt b hb).1)
  clear hg hp hq hc H3 G3 B3
  go_wp2_with fail
  refine (sadd_r H4.out G4.out ex5 (by decide) (by decide) (by decide)).mono ?_
  rintro e w5 ⟨rfl, hg, F5, hp, hq, hc⟩
  have H5 := hideP hp
  have G5 := hideP hg
  have B5 : Hid (Below w.heap.size w w5) := B4.out.trans (hc.below (by have := B4.out.size; exact this) fun b hb => (H4.out.lt b hb).1)
  clear hg hp hq hc H4 G4 B4
  go_wp2_with fail
  have C6 := sslot_c w.heap.size t F5 _ 2 bB w5 H5.out G5.out (by decide) (by decide) (by decide) (by decide)
  rw [ex7] at C6
  refine C6.mono ?_
  clear C6
  rintro e w6 ⟨rfl, hc⟩
  have H6 := hideP (H5.out.no hc)
  have B6 : Hid (Below w.heap.size w w6) := B5.out.trans (hc.below B5.out.size fun _ h => h.elim)
  clear hc H5 B5
  go_wp2_with fail
  refine (sadd_r H6.out G5.out ex6 (by decide) (by decide) (by decide)).mono ?_
  rintro e w7 ⟨rfl, hg, F7, hp, hq, hc⟩
  have B7 : Hid (Below w.heap.size w w7) := B6.out.trans (hc.below B6.out.size fun b hb => (H6.out.lt b hb).1)
  clear hg hp hq hc H6 G5 B6
  go_wp2_with fail
  go_ret
  exact ⟨rfl, B7.out⟩
end Go.Proofs.Ytldcfglkcifklaa
