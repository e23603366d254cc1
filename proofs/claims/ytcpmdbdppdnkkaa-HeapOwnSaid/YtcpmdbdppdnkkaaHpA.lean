/- The reference's world: Alloc. -/
import Derived.Test.YtcpmdbdppdnkkaaHpR
namespace Go.Proofs.Ytcpmdbdppdnkkaa
open Go.RowKit

/-- What a call leaves. -/
def TrW {α : Type} (R : (Nat → Prop) → World → α → Prop) (F : Nat → Prop) (w : World) (T : α) (w' : World) : Prop := ∃ F', R F' w' T ∧ (∀ b, F' b → F b ∨ w.heap.size ≤ b) ∧ Ch F w w'
section
variable {α : Type} {R : (Nat → Prop) → World → α → Prop} {F : Nat → Prop} {w w1 w2 : World} {T T2 : α}
theorem TrW.same (h : R F w T) : TrW R F w T w := ⟨F, h, fun _ h => .inl h, Ch.refl _ _⟩
end
abbrev noB : Nat → Prop := fun _ => False
def badB (L : Wd) (l : List SlotV) : Bool := l.any fun s => s.ref && !isB L s.n
theorem badB_iff {L : Wd} {l : List SlotV} : badB L l = true ↔ ∃ s ∈ l, s.ref = true ∧ ¬ isL L s.n := by
  unfold badB
  rw [List.any_eq_true]
  constructor
  · rintro ⟨s, hs, h⟩
    rw [Bool.and_eq_true] at h
    refine ⟨s, hs, h.1, fun hk => ?_⟩
    rw [isB_iff.2 hk] at h
    exact absurd h.2 (by decide)
  · rintro ⟨s, hs, hr, hn⟩
    refine ⟨s, hs, ?_⟩
    rw [Bool.and_eq_true]
    refine ⟨hr, ?_⟩
    cases hb : isB L s.n with
    | false => rfl
    | true => exact absurd (isB_iff.1 hb) hn
def errL (cells : Int) (L : Wd) (l : List SlotV) : Int := if badB L l = true then 1 else if cells < ((usedL L + l.length + 1 : Nat) : Int) then 22 else 0
def okSlots (l : List SlotV) : Prop := ∀ s ∈ l, -9223372036854775808 ≤ s.n ∧ s.n ≤ 9223372036854775807
theorem info_slot : (Try.prog.info? 47).map (fun i => (i.zero, i.size, i.bytes)) = some (some (.agg #[.bool false, .int .i64 0]), 2, 16) := by kernel_rfl
theorem info_obj : (Try.prog.info? 64).map (fun i => (i.zero, i.size, i.bytes)) = some (some (.agg #[.slice none 0 0, .bool false]), 2, 32) := by kernel_rfl
theorem world_push {B r n : Nat} {F : Nat → Prop} {cells : Int} {L : Wd} {l : List SlotV} {w w2 w3 : World} {v1 : Value} {xs : List Value} {a2 a3 : Option Addr} {c2 c3 : Nat} {o : Obj} (hn : n = L.length)
    (g2 : w.ownsRow B 64 2 v1 n xs)
    (g3 : ∀ i (_ : i < L.length), ∃ u, xs[i * 2]? = some u ∧ xs[i * 2 + 1]? = some (.bool L[i].2) ∧ SltV (fun b => F b ∧ b ≠ r ∧ v1.ownBlock ≠ some b) w u L[i].1)
    (g4 : F r) (g5 : ∀ q, v1.ownBlock = some q → F q ∧ q ≠ r) (g6 : ∀ b, F b → B ≤ b ∧ b < w.heap.size)
    (hc2 : Ch noB w w2) (o2 : w2.ownsRow w.heap.size 47 2 (.slice a2 l.length c2) l.length (l.flatMap sltC))
    (o3 : w3.ownsRow B 64 2 (.slice a3 (n + 1) c3) (n + 1) (xs ++ [.slice a2 l.length c2, .bool false])) (hg3 : (w2.alloc o).grownBy w3 v1.ownBlock)
    (hl3 : (Value.slice a3 (n + 1) c3).ownBlock = v1.ownBlock ∨ (Value.slice a3 (n + 1) c3).ownBlock = some (w2.alloc o).heap.size) (hx3 : w3.heap[r]? = some (.cells #[.int .i64 cells, v1] 30)) :
    TrW (fun F w L => WorldT B F w r cells L) F w (L ++ [(l, false)]) (w3.setCell ⟨r, 1, none⟩ (.slice a3 (n + 1) c3)) := by
  have hs2 := hc2.size
  have hs3 : w2.heap.size + 1 ≤ w3.heap.size := by have := hg3.size; rw [World.size_alloc] at this; exact this
  have hloc : ∀ q, (Value.slice a3 (n + 1) c3).ownBlock = some q → v1.ownBlock = some q ∨ (w2.heap.size < q ∧ q < w3.heap.size) := fun q hq => by
    rcases hl3 with e | e
    · exact .inl (e ▸ hq)
    · have := (o3.lt q hq).2
      rw [e, World.size_alloc] at hq
      injection hq with hq
      exact .inr ⟨by omega, this⟩
  have hxl : xs.length = L.length * 2 := by have := g2.1; omega
  have hTl : (L ++ [(l, false)]).length = n + 1 := by simp [hn]
  have hc3 : Ch (fun b => v1.ownBlock = some b) w2 w3 := ((Ch.refl _ w2).alloc o).grown hg3 fun q hq _ => hq
  have hc4 : Ch (fun b => b = r ∨ v1.ownBlock = some b) w2 (w3.setCell ⟨r, 1, none⟩ (.slice a3 (n + 1) c3)) := (hc3.mono fun _ _ h => .inr h).set (fun _ => .inl rfl) _ _
  have hr := g6 r g4
  refine ⟨fun b => F b ∨ (w.heap.size ≤ b ∧ b < w3.heap.size), ⟨.slice a3 (n + 1) c3, xs ++ [.slice a2 l.length c2, .bool false], ?_, ?_, ?_, .inl g4, ?_, ?_⟩, fun b h => ?_, ?_⟩
  · have := cells_setCell (o := 1) (u := .slice a3 (n + 1) c3) hx3
    simpa using this
  · rw [hTl]
    exact ((Ch.refl (fun b => b = r) w3).set (fun _ => rfl) _ _).row o3 fun q hq e => by
      rcases hloc q hq with h | h
      · exact (g5 q h).2 e
      · omega
  · intro i hi
    by_cases hiT : i < L.length
    · obtain ⟨u, hu, hg, hv⟩ := g3 i hiT
      refine ⟨u, by rw [List.getElem?_append_left (by omega)]; exact hu, by rw [List.getElem?_append_left (by omega), List.getElem_append_left hiT]; exact hg, ?_⟩
      rw [List.getElem_append_left hiT]
      refine (((hv.ch hc2 fun b _ _ h => h)).ch hc4 fun b hb _ hs => ?_).mono fun b _ hb => ⟨.inl hb.1, hb.2.1, fun e => ?_⟩
      · rcases hs with hs | hs
        · exact hb.2.1 hs
        · exact hb.2.2 hs
      · rcases hloc b e with h | h
        · exact hb.2.2 h
        · have := (g6 b hb.1).2
          omega
    · obtain rfl : i = L.length := by omega
      refine ⟨.slice a2 l.length c2, by rw [List.getElem?_append_right (by omega), hxl, Nat.sub_self]; rfl, by rw [List.getElem?_append_right (by omega), hxl, Nat.add_sub_cancel_left, List.getElem_append_right (Nat.le_refl _)]; simp, ?_⟩
      rw [List.getElem_append_right (Nat.le_refl _)]
      simp only [Nat.sub_self, List.getElem_cons_zero]
      have hv2 : SltV (fun b => w.heap.size ≤ b ∧ b < w2.heap.size) w2 (.slice a2 l.length c2) l := sltV_own o2 fun q hq => o2.lt q hq
      refine (hv2.ch hc4 fun b hb _ hs => ?_).mono fun b _ hb => ⟨.inr ⟨hb.1, by omega⟩, fun e => ?_, fun e => ?_⟩
      · rcases hs with hs | hs
        · omega
        · have := (g6 b (g5 b hs).1).2
          omega
      · omega
      · rcases hloc b e with h | h
        · have := (g6 b (g5 b h).1).2
          omega
        · omega
  · intro q hq
    rcases hloc q hq with h | h
    · exact ⟨.inl (g5 q h).1, (g5 q h).2⟩
    · exact ⟨.inr ⟨by omega, h.2⟩, by omega⟩
  · intro b hb
    rw [size_set]
    rcases hb with hb | hb
    · have := g6 b hb
      exact ⟨this.1, by omega⟩
    · exact ⟨by omega, hb.2⟩
  · rcases h with h | h
    · exact .inl h
    · exact .inr h.1
  · refine (hc2.mono fun _ _ h => h.elim).trans hc4 fun b hb hs => ?_
    rcases hs with hs | hs
    · exact hs ▸ g4
    · exact (g5 b hs).1
set_option maxRecDepth 100000 in
set_option maxHeartbeats 4000000 in
theorem ralloc_c (B r : Nat) (F FA : Nat → Prop) (cells : Int) (L : Wd) (v : Value) (l : List SlotV) (w : World) (h : WorldT B F w r cells L) (hv : SltV FA w v l) (hFA : ∀ b, FA b → ¬ F b) (hok : okSlots l) (hL : L.length ≤ 1000000) (ht : usedL L ≤ 1000000000000) (hl : l.length ≤ 1000000) :
    Calls Try.prog 16 #[.pointer (some ⟨r, 0, none⟩), v] w fun e w' => e = .returned (.int .i64 (errL cells L l)) ∧ TrW (fun F w L => WorldT B F w r cells L) F w (if errL cells L l = 0 then L ++ [(l, false)] else L) w' := by
  have H := hideP h
  have HV := hideP hv
  obtain ⟨ao, c, rfl, hn1, hn2, hk⟩ := hv.form
  have HK := hideP hk
  have HN1 := hideP hn1
  have HN2 := hideP hn2
  have HFA := hideP hFA
  have HOK := hideP hok
  obtain ⟨E, hE⟩ : ∃ E, E = errL cells L l := ⟨_, rfl⟩
  rw [← hE]
  have HE := hideP hE
  obtain ⟨i0, hi, hz0, hz1, hz2⟩ := info_parts info_slot
  obtain ⟨i1, hi1, hz3, hz4, hz5⟩ := info_parts info_obj
  clear h hv hn1 hn2 hk hFA hok hE
  go_enter Try.func16, Try.ntmps16
  go_wp2_with fail
  go_loopw [5] (fun i wr => ∃ j : Nat, j ≤ l.length ∧ i = .int .i64 j ∧ Hid (wr = w) ∧ Hid (badB L (l.take j) = false)) (fun i _ => l.length - (intOf i).toNat)
  case atStart => exact ⟨0, Nat.zero_le _, rfl, rfl, rfl⟩
  case round =>
    obtain ⟨j, hj, rfl, HW, HB⟩ := hrel
    have hw := HW.out
    subst hw
    clear HW
    by_cases hjl : j < l.length
    · have hjl' : (j : Int) < (l.length : Int) := by omega
      have hj0 : (0 : Int) ≤ (j : Int) := by omega
      obtain ⟨b, o, rfl, _, _, c0, c1⟩ := HK.out j hjl
      obtain ⟨⟨sr, sn⟩, hs⟩ : ∃ s, s = l[j] := ⟨_, rfl⟩
      have hob := HOK.out _ (List.getElem_mem hjl)
      have htk : badB L (l.take (j + 1)) = (badB L (l.take j) || (sr && !isB L sn)) := by
        rw [List.take_succ_eq_append_getElem hjl, ← hs]
        unfold badB
        rw [List.any_append]
        simp
      have hall : (sr && !isB L sn) = true → badB L l = true := fun h' => List.any_eq_true.2 ⟨_, List.getElem_mem hjl, by rw [← hs]; exact h'⟩
      rw [← hs] at c0 c1 hob
      simp only at c0 c1 hob
      rw [HB.out, Bool.false_or] at htk
      have HC := hideP (is_c B r F cells L sn wr H.out hob.2)
      obtain ⟨ib, hib⟩ : ∃ ib, ib = isB L sn := ⟨_, rfl⟩
      rw [← hib] at HC htk hall
      have HT := hideP htk
      have HA := hideP hall
      clear hs hob htk hall hib
      cases sr with
      | false =>
        have HT2 : Hid (badB L (l.take (j + 1)) = false) := HT.out
        clear HT HA
        go_wp2_with fail
        refine HC.out.mono ?_
        rintro e w ⟨rfl, rfl⟩
        go_wp2_with fail
        exact ⟨⟨j + 1, by omega, by go_num, True.intro, HT2.out⟩, by simp [intOf]; omega⟩
      | true =>
        cases ib with
        | true =>
          have HT2 : Hid (badB L (l.take (j + 1)) = false) := HT.out
          clear HT HA
          go_wp2_with fail
          refine HC.out.mono ?_
          rintro e w ⟨rfl, rfl⟩
          go_wp2_with fail
          exact ⟨⟨j + 1, by omega, by go_num, True.intro, HT2.out⟩, by simp [intOf]; omega⟩
        | false =>
          have hE1 : E = 1 := by rw [HE.out]; unfold errL; rw [if_pos (HA.out rfl)]
          subst hE1
          clear HT HA HE
          go_wp2_with fail
          refine HC.out.mono ?_
          rintro e w ⟨rfl, rfl⟩
          go_wp2_with fail
          go_ret
          exact ⟨rfl, TrW.same H.out⟩
    · have hjl' : ¬ (j : Int) < (l.length : Int) := by omega
      have hbad : badB L l = false := by have := HB.out; rw [List.take_of_length_le (by omega)] at this; exact this
      have hE2 : E = if cells < ((usedL L + l.length + 1 : Nat) : Int) then 22 else 0 := by rw [HE.out]; unfold errL; rw [if_neg (by rw [hbad]; decide)]
      have HC := hideP (used_c B r F cells L wr H.out hL ht)
      have HC2 : Hid (∀ n, Calls Try.prog 27 #[.pointer (some ⟨r, 0, none⟩)] (wr.drewN n) fun e w' => e = .returned (.int .i64 (usedL L)) ∧ w' = wr.drewN n) := fun n => used_c B r F cells L (wr.drewN n) (H.out.ch ((Ch.refl noB _).drewN n) fun _ _ h => h) hL ht
      obtain ⟨u, hu⟩ : ∃ u, u = usedL L := ⟨_, rfl⟩
      rw [← hu] at HC HC2 hE2 ht
      obtain ⟨a0, cap, ⟨h0, h1⟩, _⟩ := H.out.look
      have s0 : wr.drew.cell? ⟨r, 0, none⟩ = some (.int .i64 cells) := h0
      have HX : Hid (∀ n, (wr.drewN n).cell? ⟨r, 0, none⟩ = some (.int .i64 cells)) := by
        have h := hideP h0
        exact fun _ => h.out
      have hlb : l.length ≤ 1000000 := hl
      have w1 : IntKind.i64.wrap ((u : Int) + (l.length : Int)) = (u : Int) + (l.length : Int) := by rw [IntKind.wrap_i64]; omega
      have w2 : IntKind.i64.wrap ((u : Int) + (l.length : Int) + 1) = (u : Int) + (l.length : Int) + 1 := by rw [IntKind.wrap_i64]; omega
      by_cases hfit : cells < ((u + l.length + 1 : Nat) : Int)
      · have hgt : (u : Int) + (l.length : Int) + 1 > cells := by omega
        rw [if_pos hfit] at hE2
        subst hE2
        clear HE HB hbad hu
        go_wp2_with fail
        go_region_held (fun W => W.cell? ⟨r, 0, none⟩ = some (.int .i64 cells)) (with_reducible assumption) (first
          | (go_at_call 27; refine (HC2.out _).mono ?_; rintro e w4 ⟨rfl, rfl⟩; have s4 := HX.out 1))
        all_goals
          go_wp2_with fail
          go_ret
          exact ⟨rfl, F, H.out.ch ((Ch.refl noB _).drewN 1) fun _ _ h => h, fun _ h => .inl h, (Ch.refl _ _).drewN 1⟩
      · have hgt : ¬ (u : Int) + (l.length : Int) + 1 > cells := by omega
        rw [if_neg hfit] at hE2
        subst hE2
        clear HE HB hbad hu
        go_wp2_with fail
        go_region_held (fun W => W.cell? ⟨r, 0, none⟩ = some (.int .i64 cells)) (with_reducible assumption) (first
          | (go_at_call 27; refine (HC2.out _).mono ?_; rintro e w4 ⟨rfl, rfl⟩; have s4 := HX.out 1))
        all_goals
          go_wp2_with fail
          clear s0 s4 h0 h1 w1 w2 hfit hgt HC HC2 HX
          obtain ⟨v0, xs, g1, g2, g3, g4, g5, g6⟩ := H.out
          obtain ⟨a1, cap1, rfl⟩ := row_shape g2
          obtain ⟨⟨x0, x1⟩, ⟨f0, f1⟩, hr0⟩ := box2 g1
          have G1 := hideP g1
          have G2 : Hid (wr.ownsRow B 64 2 (.slice a1 L.length cap1) L.length xs) := g2
          have G3 := hideP g3
          have G5 := hideP g5
          have G6 := hideP g6
          have HBw : Hid (B ≤ wr.heap.size) := by have := g6 r g4; show B ≤ wr.heap.size; omega
          clear g1 g2 g3 g5 g6 x0
          go_region_law (first
            | (refine step_append_anyK rfl (.const (.slice none 0 0)) (.tmp 45) 32 (by rfl) wr.heap.size 47 i0 _ 2 16 Try.underlying32 hi hz0 hz1 hz2 rfl (by decide) (.slice none 0 0) 0 [] (by rfl) (World.ownsRow_nil _ _ _ _) ao l.length c (l.flatMap sltC) (by rfl) (slt_len l) HN1.out HN2.out (slt_one l) (by unfold maxLen; omega) (by omega) (by first | exact Nat.le_refl _ | (show wr.heap.size ≤ wr.heap.size; exact Nat.le_refl _)) ?_; intro v2 w2 hown2 hgr2 hloc2; have hown2' : w2.ownsRow wr.heap.size 47 2 v2 l.length (l.flatMap sltC) := (by simpa using hown2); obtain ⟨a2, c2, rfl⟩ := row_shape hown2'; have HC2 : Hid (Ch noB wr w2) := ((Ch.refl noB wr).drewN 1).drew.grown hgr2 (fun q hq => by cases hq); have HO2 := hideP hown2'; have y1 := HC2.out.cell x1 (fun h => h); have hr2 : r < w2.heap.size := Nat.lt_of_lt_of_le hr0 HC2.out.size; clear hown2 hown2' hgr2 hloc2)
            | (refine step_append_at rfl (.tmp 44) (.tmp 48) 28 (by rfl) B 64 i1 _ 2 32 Try.underlying28 hi1 hz3 hz4 hz5 rfl (by decide) (.slice a1 L.length cap1) L.length xs (by first | rfl | simp [Act.eval, Act.put]) ((HC2.out.row G2.out fun _ _ h => h).alloc _) ⟨w2.heap.size, 0, none⟩ 1 1 [.slice a2 l.length c2, .bool false] (by first | rfl | simp [Act.eval, Act.put]) rfl (cells_newK _ _ _) (by simp [Value.oneCell']) (by unfold maxLen; omega) (by omega) (by have := HBw.out; have := HC2.out.size; show B ≤ (w2.alloc _).heap.size; rw [World.size_alloc]; omega) ?_; intro v3 w3 hown3 hgr3 hloc3; obtain ⟨a3, c3, rfl⟩ := row_shape hown3; have HX3 : Hid (w3.heap[r]? = some (.cells #[.int .i64 cells, .slice a1 L.length cap1] 30)) := (hgr3.block r (by rw [World.size_alloc]; omega) (fun e => (G5.out r e.symm).2 rfl)).trans ((Below.heap_alloc _ _ _ hr2).trans (HC2.out.obj G1.out fun h => h)); obtain ⟨⟨z0, z1⟩, ⟨zf0, zf1⟩, zr⟩ := box2 HX3.out; have HO3 := hideP hown3; have HG3 := hideP hgr3; have HL3 := hideP hloc3; clear hown3 hgr3 hloc3))
          all_goals
            go_wp2_with fail
            go_ret
            exact ⟨rfl, world_push rfl G2.out G3.out g4 G5.out G6.out HC2.out HO2.out HO3.out HG3.out HL3.out HX3.out⟩
end Go.Proofs.Ytcpmdbdppdnkkaa
