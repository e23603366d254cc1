/- lex.twoByteSigns by a contract: a new map, whose keys are the signs of two bytes; in whatever order they are laid. -/
import Derived.Test.YtgoppgopnhmhfaaDoorSignV
import Derived.Test.YtgoppgopnhmhfaaDoorProg
import Derived.KernelRfl
namespace Go.Proofs.YtgoppgopnhmhfaaDoor
open Go.RowKit Go.Maps

theorem laidOut : laidOutB Tryd.prog = true := by kernel_rfl
theorem pairLaw : Keyed Tryd.prog 52 := Keyed.of_law (deep_law_laid laidOut (m := 2) (by omega) (of_decide_eq_true (by kernel_rfl)) (by kernel_rfl) (by rw [Tryd.underlying52]))

def pairA (a b : UInt8) : Value := .agg #[.int .u8 a.toNat, .int .u8 b.toNat]

theorem pairKey (a b : UInt8) : ∃ kl, keyOf Tryd.prog 52 (pairA a b) = some kl := by
  have hk : Tryd.prog.keyType 52 = true := by kernel_rfl
  have hc : Tryd.prog.cellsOf 52 = 2 := by kernel_rfl
  have hu : Tryd.prog.cellsOf 5 = 1 := by kernel_rfl
  have hf : (pairA a b).formed Tryd.prog 52 = true := by simp [pairA, Value.formed, Tryd.underlying52, hc]
  have hsz : 1 ≤ Tryd.prog.types.size := of_decide_eq_true (by kernel_rfl)
  obtain ⟨d, hd⟩ : ∃ d, Tryd.prog.types.size + 1 = d + 2 := ⟨Tryd.prog.types.size - 1, by omega⟩
  have wa : (Lit.int .u8 (a.toNat : Int)).wf = true := WalkArith.wf_u8 ⟨by omega, by have := a.toNat_lt; omega⟩
  have wb : (Lit.int .u8 (b.toNat : Int)).wf = true := WalkArith.wf_u8 ⟨by omega, by have := b.toNat_lt; omega⟩
  unfold keyOf
  rw [Tryd.underlying52]
  simp only [hk, hf, Bool.and_self, if_true]
  rw [hd]
  have hl : Tryd.prog.keyLits (d + 2) 52 (pairA a b).cells.toList = some [.int .u8 a.toNat, .int .u8 b.toNat] := by
    simp [Program.keyLits, Tryd.underlying52, Tryd.underlying5, pairA, Value.cells, hc, hu, wa, wb, List.range_succ]
  exact ⟨.string (keyBytes [.int .u8 a.toNat, .int .u8 b.toNat]), by rw [hl]; rfl⟩

theorem pairL_key (a b : UInt8) : keyOf Tryd.prog 52 (pairA a b) = some ((keyOf Tryd.prog 52 (pairA a b)).getD .nil) := by
  obtain ⟨kl, h⟩ := pairKey a b
  rw [h]
  rfl

theorem pairA_inj {a b c d : UInt8} (h : pairA a b = pairA c d) : a = c ∧ b = d := by
  simp [pairA] at h
  exact ⟨UInt8.toNat_inj.1 (by omega), UInt8.toNat_inj.1 (by omega)⟩

/-- Which pair the insert lays. -/
def pairAt : Nat → UInt8 × UInt8
  | 3 => (45, 62) | 6 => (61, 62) | 9 => (60, 58) | 12 => (60, 60) | 15 => (60, 61) | 18 => (62, 62) | 21 => (61, 61) | 24 => (43, 43) | _ => (0, 0)

def pairIs : List Nat := [3, 6, 9, 12, 15, 18, 21, 24]

theorem pair_iff (a b : UInt8) (D : DataW Unit) (h : ∀ key, Maps.has D key = true ↔ ∃ i ∈ pairIs, (keyOf Tryd.prog 52 (pairA (pairAt i).1 (pairAt i).2)).getD .nil = key) {kl : Lit} (hk : keyOf Tryd.prog 52 (pairA a b) = some kl) : Maps.has D kl = twoV.contains (a, b) := by
  rw [Bool.eq_iff_iff, h kl]
  constructor
  · rintro ⟨i, hi, e⟩
    have h1 := pairL_key (pairAt i).1 (pairAt i).2
    rw [e] at h1
    obtain ⟨rfl, rfl⟩ := pairA_inj (pairLaw.inj hk h1)
    revert hi
    exact (show ∀ i ∈ pairIs, twoV.contains ((pairAt i).1, (pairAt i).2) = true by decide) i
  · intro hc
    have hm : (a, b) ∈ twoV := by simpa using hc
    obtain ⟨i, hi, e⟩ := (show ∀ x ∈ twoV, ∃ i ∈ pairIs, pairAt i = x by decide) (a, b) hm
    refine ⟨i, hi, ?_⟩
    rw [e]
    exact Option.some.inj ((pairL_key a b).symm.trans hk)

/-- The keys of such a map are the signs of two bytes. -/
def PairsD (D : DataW Unit) : Prop := ∀ a b kl, keyOf Tryd.prog 52 (pairA a b) = some kl → Maps.has D kl = twoV.contains (a, b)

set_option maxRecDepth 100000 in
theorem twoByteSigns_c (w : World) : Calls Tryd.prog 19 #[] w fun e w' => e = .returned (.map (some w.heap.size)) ∧
    ∃ D, w'.ownsMap Tryd.prog 52 unitElem w.heap.size 8 D ∧ PairsD D ∧ Below w.heap.size w w' := by
  have hmm := @run_makeMap Tryd.prog
  go_enter Tryd.func19, Tryd.ntmps19
  go_wp2
  refine wp_region_any (by kernel_rfl) ?_
  change wpAny _ _ _ _ _ _ _ (World.drew _)
  refine wpAny_take (i := 1) (v := .agg #[.int .u8 45, .int .u8 62]) rfl (by kernel_rfl) (by kernel_rfl) (by kernel_rfl) (fun _ _ _ h => h) (Or.inl ⟨by rfl, by intro w; go_simp⟩) ?_
  refine wpAny_take (i := 2) (v := .agg #[]) rfl (by kernel_rfl) (by kernel_rfl) (by kernel_rfl) (fun _ _ _ h => h) (Or.inl ⟨by rfl, by intro w; go_simp⟩) ?_
  refine wpAny_take (i := 4) (v := .agg #[.int .u8 61, .int .u8 62]) rfl (by kernel_rfl) (by kernel_rfl) (by kernel_rfl) (fun _ _ _ h => h) (Or.inl ⟨by rfl, by intro w; go_simp⟩) ?_
  refine wpAny_take (i := 5) (v := .agg #[]) rfl (by kernel_rfl) (by kernel_rfl) (by kernel_rfl) (fun _ _ _ h => h) (Or.inl ⟨by rfl, by intro w; go_simp⟩) ?_
  refine wpAny_take (i := 7) (v := .agg #[.int .u8 60, .int .u8 58]) rfl (by kernel_rfl) (by kernel_rfl) (by kernel_rfl) (fun _ _ _ h => h) (Or.inl ⟨by rfl, by intro w; go_simp⟩) ?_
  refine wpAny_take (i := 8) (v := .agg #[]) rfl (by kernel_rfl) (by kernel_rfl) (by kernel_rfl) (fun _ _ _ h => h) (Or.inl ⟨by rfl, by intro w; go_simp⟩) ?_
  refine wpAny_take (i := 10) (v := .agg #[.int .u8 60, .int .u8 60]) rfl (by kernel_rfl) (by kernel_rfl) (by kernel_rfl) (fun _ _ _ h => h) (Or.inl ⟨by rfl, by intro w; go_simp⟩) ?_
  refine wpAny_take (i := 11) (v := .agg #[]) rfl (by kernel_rfl) (by kernel_rfl) (by kernel_rfl) (fun _ _ _ h => h) (Or.inl ⟨by rfl, by intro w; go_simp⟩) ?_
  refine wpAny_take (i := 13) (v := .agg #[.int .u8 60, .int .u8 61]) rfl (by kernel_rfl) (by kernel_rfl) (by kernel_rfl) (fun _ _ _ h => h) (Or.inl ⟨by rfl, by intro w; go_simp⟩) ?_
  refine wpAny_take (i := 14) (v := .agg #[]) rfl (by kernel_rfl) (by kernel_rfl) (by kernel_rfl) (fun _ _ _ h => h) (Or.inl ⟨by rfl, by intro w; go_simp⟩) ?_
  refine wpAny_take (i := 16) (v := .agg #[.int .u8 62, .int .u8 62]) rfl (by kernel_rfl) (by kernel_rfl) (by kernel_rfl) (fun _ _ _ h => h) (Or.inl ⟨by rfl, by intro w; go_simp⟩) ?_
  refine wpAny_take (i := 17) (v := .agg #[]) rfl (by kernel_rfl) (by kernel_rfl) (by kernel_rfl) (fun _ _ _ h => h) (Or.inl ⟨by rfl, by intro w; go_simp⟩) ?_
  refine wpAny_take (i := 19) (v := .agg #[.int .u8 61, .int .u8 61]) rfl (by kernel_rfl) (by kernel_rfl) (by kernel_rfl) (fun _ _ _ h => h) (Or.inl ⟨by rfl, by intro w; go_simp⟩) ?_
  refine wpAny_take (i := 20) (v := .agg #[]) rfl (by kernel_rfl) (by kernel_rfl) (by kernel_rfl) (fun _ _ _ h => h) (Or.inl ⟨by rfl, by intro w; go_simp⟩) ?_
  refine wpAny_take (i := 22) (v := .agg #[.int .u8 43, .int .u8 43]) rfl (by kernel_rfl) (by kernel_rfl) (by kernel_rfl) (fun _ _ _ h => h) (Or.inl ⟨by rfl, by intro w; go_simp⟩) ?_
  refine wpAny_take (i := 23) (v := .agg #[]) rfl (by kernel_rfl) (by kernel_rfl) (by kernel_rfl) (fun _ _ _ h => h) (Or.inl ⟨by rfl, by intro w; go_simp⟩) ?_
  refine wpAny_ready (rs := [0]) (by kernel_rfl) (by simp) ?_
  refine AllReady.cons rfl (fun K hK => ?_) AllReady.nil
  go_simp
  refine hK _ _ ?_
  clear hK K
  refine wpAny_inserts w.heap.size 37 52 53 25 2 pairLaw Tryd.underlying37 pairIs (fun i => pairA (pairAt i).1 (pairAt i).2) (fun i => (keyOf Tryd.prog 52 (pairA (pairAt i).1 (pairAt i).2)).getD .nil)
    ?hop ⟨_, rfl, ?ht⟩ ⟨_, rfl, ?hn⟩ w (Nat.le_refl _) 27 ?fin 8 0 pairIs _ _ (.map []) rfl rfl ?left (by decide) (fun _ h => h) (World.ownsMap_made w.drew _ _ _) rfl (by decide) ?below (fun i hi hn => absurd hi hn) (fun key h => by cases h)
  case hop =>
    intro i hi
    simp only [pairIs, List.mem_cons, List.not_mem_nil, or_false] at hi
    rcases hi with rfl | rfl | rfl | rfl | rfl | rfl | rfl | rfl
    all_goals exact ⟨by omega, _, _, _, _, rfl, rfl, rfl, rfl, rfl, rfl, rfl, pairL_key _ _, by decide⟩
  case ht => decide
  case hn => exact ⟨{ on := 25, ground := .data }, by simp, rfl, rfl⟩
  case left =>
    intro j
    by_cases hj : j < 27
    · revert j
      decide
    · have h1 : j ≠ 25 ∧ j ≠ 26 := by omega
      have h2 : j ∉ pairIs := by
        intro h
        have := (show ∀ i ∈ pairIs, i < 27 by decide) j h
        omega
      constructor
      · intro h
        simp [hj] at h
      · rintro (h | h | h)
        · exact absurd h h2
        · exact absurd h h1.1
        · exact absurd h h1.2
  case below => exact (Below.refl _ w).drew.alloc (Nat.le_refl _) _
  case fin =>
    intro listed w1 D hsz hL hown hb hD
    have hlit : listed = #[true, true, true, true, true, true, true, true, true, true, true, true, true, true, true, true, true, true, true, true, true, true, true, true, true, false, false] := by
      apply Array.ext
      · rw [hsz]; rfl
      · intro j h1 h2
        have hj : j < 27 := by omega
        have e1 : listed.getD j true = listed[j] := by simp [h1]
        have e2 := hL j
        rw [e1] at e2
        have e3 : ∀ j (h : j < 27), (#[true, true, true, true, true, true, true, true, true, true, true, true, true, true, true, true, true, true, true, true, true, true, true, true, true, false, false] : Array Bool)[j] = false ↔ (j = 25 ∨ j = 26) := by decide
        rw [Bool.eq_iff_iff, ← Bool.not_eq_false, ← Bool.not_eq_false, e2, e3 j hj]
        simp
    subst hlit
    have hP : PairsD D := fun a b kl hk => pair_iff a b D hD hk
    refine wpAny_ready (rs := [25]) (by kernel_rfl) (by simp) ?_
    refine AllReady.cons rfl (fun K hK => ?_) AllReady.nil
    go_simp
    refine hK _ _ ?_
    clear hK K
    refine wpAny_ready (rs := [26]) (by kernel_rfl) (by simp) ?_
    refine AllReady.cons rfl (fun K hK => ?_) AllReady.nil
    go_simp
    refine hK _ _ ?_
    clear hK K
    refine wpAny_done (by kernel_rfl) ?_ _
    go_wp2
    go_ret
    exact ⟨rfl, D, hown, hP, hb⟩
end Go.Proofs.YtgoppgopnhmhfaaDoor
