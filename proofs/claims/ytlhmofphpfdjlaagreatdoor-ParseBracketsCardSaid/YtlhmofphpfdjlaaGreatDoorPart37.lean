/- Part. -/
import Derived.DeepKeys4
import Derived.Maps.RangeWalk
import Derived.Test.YtlhmofphpfdjlaaGreatDoorPart36
set_option maxRecDepth 100000
set_option maxHeartbeats 4000000
/- Inserts into a map in whatever order: a law for a region that draws. -/
namespace Go.Proofs.YtlhmofphpfdjlaaGreatDoor.Lx
open Go.Proofs.Tryz
open Go.RowKit Go.Maps
/-- The inserts that are left, beside the two last operations. -/
def Left (top : Nat) (todo : List Nat) (listed : Array Bool) : Prop := ∀ j, listed.getD j true = false ↔ (j ∈ todo ∨ j = top ∨ j = top + 1)
theorem left_size {top : Nat} {todo : List Nat} {listed : Array Bool} (h : Left top todo listed) {j : Nat} (hj : j ∈ todo) : j < listed.size := by
  have := (h j).2 (.inl hj)
  rcases Nat.lt_or_ge j listed.size with h' | h'
  · exact h'
  · simp [h'] at this
theorem left_getD {listed : Array Bool} {j : Nat} (hj : listed.getD j true = false) : listed.getD j false = false := by
  rcases Nat.lt_or_ge j listed.size with h' | h'
  · simp [h'] at hj ⊢; exact hj
  · simp [h']
theorem left_set {top : Nat} {todo : List Nat} {listed : Array Bool} (h : Left top todo listed) (hn : todo.Nodup) {i : Nat} (hi : i ∈ todo) (ht : ∀ j ∈ todo, j < top) : Left top (todo.erase i) (listed.setIfInBounds i true) := by
  intro j
  by_cases hij : i = j
  · subst hij
    have hlt := left_size h hi
    constructor
    · intro h2
      simp [hlt] at h2
    · rintro (h2 | h2 | h2)
      · exact absurd h2 hn.not_mem_erase
      · have := ht i hi; omega
      · have := ht i hi; omega
  · rw [getD_set_ne true hij, h j, List.mem_erase_of_ne (Ne.symm hij)]
section
variable {P : Program} {ops : Array Oper} {Q : Exit -> Act -> World -> Prop} {a : Act}
theorem wpAny_inserts (B t k e top fuel : Nat) (K : Keyed P k) (ht : P.underlying t = some (.map k e)) (I : List Nat) (X : Nat -> Value) (kl : Nat -> Lit)
    (hop : ∀ i ∈ I, i < top /\ ∃ o m x u, ops[i]? = some o /\ o.guard = none /\ o.dst = none /\ o.op = .insert t m x u /\ a.eval m = .map (some B) /\ a.eval x = X i /\ a.eval u = .agg #[] /\ keyOf P k (X i) = some (kl i) /\ ∀ y ∈ o.after, y.on < top /\ y.on ∉ I)
    (htop : ∃ o, ops[top]? = some o /\ ∀ j ∈ I, ∃ y ∈ o.after, y.on = j /\ Region.binds .any y = true)
    (hnext : ∃ o, ops[top + 1]? = some o /\ ∃ y ∈ o.after, y.on = top /\ Region.binds .any y = true)
    (w0 : World) (hB : w0.heap.size <= B)
    (sz : Nat) (hfin : ∀ listed w D, listed.size = sz -> Left top [] listed -> w.ownsMap (H := Unit) P k unitElem B (I.length + 0) D -> Below w0.heap.size w0 w -> (∀ key, Maps.has D key = true ↔ ∃ i ∈ I, kl i = key) -> wpAny P .any ops Q fuel listed a w) :
    ∀ (n m : Nat) (todo : List Nat) (listed : Array Bool) (w : World) (D : DataW Unit), todo.length = n -> listed.size = sz -> Left top todo listed -> todo.Nodup -> (∀ i ∈ todo, i ∈ I) ->
      w.ownsMap P k unitElem B m D -> m + n = I.length -> I.length < 100 -> Below w0.heap.size w0 w -> (∀ i ∈ I, i ∉ todo -> Maps.has D (kl i) = true) -> (∀ key, Maps.has D key = true -> ∃ i ∈ I, kl i = key) ->
      wpAny P .any ops Q (n + fuel) listed a w := by
  intro n
  induction n with
  | zero =>
    intro m todo listed w D hl hsz hL hn hI hown hm hlen hb h1 h2
    have : todo = [] := List.eq_nil_of_length_eq_zero hl
    subst this
    rw [Nat.zero_add]
    refine hfin listed w D hsz hL (hown.mono (by omega)) hb fun key => ⟨h2 key, ?_⟩
    rintro ⟨i, hi, rfl⟩
    exact h1 i hi (by simp)
  | succ n ih =>
    intro m todo listed w D hl hsz hL hn hI hown hm hlen hb h1 h2
    rw [show n + 1 + fuel = (n + fuel) + 1 from by omega]
    have hmem : ∀ i ∈ Region.ready .any ops listed, i ∈ todo := by
      intro i hi
      obtain ⟨hf, o, ho, hall⟩ := mem_ready.1 hi
      rcases (hL i).1 hf with h | rfl | rfl
      · exact h
      · exfalso
        obtain ⟨o', ho', hj⟩ := htop
        rw [ho] at ho'
        cases ho'
        cases todo with
        | nil => simp at hl
        | cons j r =>
          obtain ⟨y, hy, hon, hbi⟩ := hj j (hI j (by simp))
          have h3 := hall y hy hbi
          rw [hon, left_getD ((hL j).2 (.inl (by simp)))] at h3
          cases h3
      · exfalso
        obtain ⟨o', ho', y, hy, hon, hbi⟩ := hnext
        rw [ho] at ho'
        cases ho'
        have h3 := hall y hy hbi
        rw [hon, left_getD ((hL top).2 (.inr (.inl rfl)))] at h3
        cases h3
    refine ⟨?_, ?_⟩
    · intro h0
      exfalso
      cases todo with
      | nil => simp at hl
      | cons j r =>
        obtain ⟨hjt, o, m', x, u, ho, _, _, _, _, _, _, _, haft⟩ := hop j (hI j (by simp))
        have hr : j ∈ Region.ready .any ops listed := by
          refine mem_ready.2 ⟨(hL j).2 (.inl (by simp)), o, ho, fun y hy _ => ?_⟩
          obtain ⟨hy1, hy2⟩ := haft y hy
          have hts : top < listed.size := by
            have := (hL top).2 (.inr (.inl rfl))
            rcases Nat.lt_or_ge top listed.size with h' | h'
            · exact h'
            · simp [h'] at this
          have hne : ¬ listed.getD y.on true = false := by
            rw [hL y.on]
            rintro (h | h | h)
            · exact hy2 (hI _ h)
            · omega
            · omega
          have hys : y.on < listed.size := by omega
          simp [hys] at hne ⊢
          exact hne
        rw [h0] at hr
        cases hr
    · intro i hi
      have hit := hmem i hi
      obtain ⟨hjt, o, m', x, u, ho, hg, hd, hop', hem, hex, heu, hkey, _⟩ := hop i (hI i hit)
      obtain ⟨w', hrun, hown', hgrow⟩ := hown.update K ht (by unfold maxLen; omega) hkey unitElem_mk
      unfold wpOp
      rw [ho]
      have hw : Region.wanted o (yielded ops a.tmps) = true := by simp [Region.wanted, hg]
      simp only [hw, if_true]
      refine .inl ?_
      unfold Oper.wp
      simp [execOp, hop', hem, hex, heu, hrun, Result.andThen, Oper.upon]
      have ea : a.put o.dst undef = a := by rw [hd]; rfl
      rw [ea]
      have hl2 : (todo.erase i).length = n := by rw [List.length_erase_of_mem hit]; omega
      refine ih (m + 1) (todo.erase i) (listed.setIfInBounds i true) w' _ hl2 (by rw [Array.size_setIfInBounds]; exact hsz) (left_set hL hn hit fun j hj => (hop j (hI j hj)).1) (hn.erase i) (fun j hj => hI j (List.mem_of_mem_erase hj)) hown' (by omega) hlen
        (hb.grown hgrow (by exact hb.size) (fun j hj => by cases hj; exact hB)) ?_ ?_
      · intro j hj hjn
        by_cases hk : kl j = kl i
        · rw [hk]; exact has_put_same hown.isMap (K.key hkey) _
        · rw [has_put_other hk]
          refine h1 j hj fun hjt => hjn ?_
          rw [List.mem_erase_of_ne]
          · exact hjt
          · rintro rfl; exact hk rfl
      · intro key hkey2
        by_cases hk : key = kl i
        · exact ⟨i, hI i hit, hk.symm⟩
        · rw [has_put_other hk] at hkey2
          exact h2 key hkey2
end
end Go.Proofs.YtlhmofphpfdjlaaGreatDoor.Lx
/- lex.twoByteSigns by a contract: a new map, whose keys are the signs of two bytes; in whatever order they are laid. -/
namespace Go.Proofs.YtlhmofphpfdjlaaGreatDoor.Lx
open Go.Proofs.Tryz
open Go.RowKit Go.Maps
theorem laidOut : laidOutB prog = true := by kernel_rfl
theorem pairLaw : Keyed prog 136 := Keyed.of_law (deep_law_laid laidOut (m := 2) (by omega) (of_decide_eq_true (by kernel_rfl)) (by kernel_rfl) (by rw [underlying136]))
def pairA (a b : UInt8) : Value := .agg #[.int .u8 a.toNat, .int .u8 b.toNat]
theorem pairKey (a b : UInt8) : ∃ kl, keyOf prog 136 (pairA a b) = some kl := by
  have hk : prog.keyType 136 = true := by kernel_rfl
  have hc : prog.cellsOf 136 = 2 := by kernel_rfl
  have hu : prog.cellsOf 5 = 1 := by kernel_rfl
  have hf : (pairA a b).formed prog 136 = true := by simp [pairA, Value.formed, underlying136, hc]
  have hsz : 1 <= prog.types.size := of_decide_eq_true (by kernel_rfl)
  obtain ⟨d, hd⟩ : ∃ d, prog.types.size + 1 = d + 2 := ⟨prog.types.size - 1, by omega⟩
  have wa : (Lit.int .u8 (a.toNat : Int)).wf = true := WalkArith.wf_u8 ⟨by omega, by have := a.toNat_lt; omega⟩
  have wb : (Lit.int .u8 (b.toNat : Int)).wf = true := WalkArith.wf_u8 ⟨by omega, by have := b.toNat_lt; omega⟩
  unfold keyOf
  rw [underlying136]
  simp only [hk, hf, Bool.and_self, if_true]
  rw [hd]
  have hl : prog.keyLits (d + 2) 136 (pairA a b).cells.toList = some [.int .u8 a.toNat, .int .u8 b.toNat] := by
    simp [Program.keyLits, underlying136, underlying5, pairA, Value.cells, hc, hu, wa, wb, List.range_succ]
  exact ⟨.string (keyBytes [.int .u8 a.toNat, .int .u8 b.toNat]), by rw [hl]; rfl⟩
theorem pairL_key (a b : UInt8) : keyOf prog 136 (pairA a b) = some ((keyOf prog 136 (pairA a b)).getD .nil) := by
  obtain ⟨kl, h⟩ := pairKey a b
  rw [h]
  rfl
theorem pairA_inj {a b c d : UInt8} (h : pairA a b = pairA c d) : a = c /\ b = d := by
  simp [pairA] at h
  exact ⟨UInt8.toNat_inj.1 (by omega), UInt8.toNat_inj.1 (by omega)⟩
/-- Which pair the insert lays. -/
def pairAt : Nat -> UInt8 × UInt8
  | 3 => (45, 62) | 6 => (61, 62) | 9 => (60, 58) | 12 => (60, 60) | 15 => (60, 61) | 18 => (62, 62) | 21 => (61, 61) | 24 => (43, 43) | _ => (0, 0)
def pairIs : List Nat := [3, 6, 9, 12, 15, 18, 21, 24]
theorem pair_iff (a b : UInt8) (D : DataW Unit) (h : ∀ key, Maps.has D key = true ↔ ∃ i ∈ pairIs, (keyOf prog 136 (pairA (pairAt i).1 (pairAt i).2)).getD .nil = key) {kl : Lit} (hk : keyOf prog 136 (pairA a b) = some kl) : Maps.has D kl = twoV.contains (a, b) := by
  rw [Bool.eq_iff_iff, h kl]
  constructor
  · rintro ⟨i, hi, e⟩
    have h1 := pairL_key (pairAt i).1 (pairAt i).2
    rw [e] at h1
    obtain ⟨rfl, rfl⟩ := pairA_inj (pairLaw.inj hk h1)
    revert hi
    exact (show ∀ i ∈ pairIs, twoV.contains ((pairAt i).1, (pairAt i).2) = true by decide) i
  · intro hc
    have hm : (a, b) ∈ twoV := by simpa using hc
    obtain ⟨i, hi, e⟩ := (show ∀ x ∈ twoV, ∃ i ∈ pairIs, pairAt i = x by decide) (a, b) hm
    refine ⟨i, hi, ?_⟩
    rw [e]
    exact Option.some.inj ((pairL_key a b).symm.trans hk)
/-- The keys of such a map are the signs of two bytes. -/
def PairsD (D : DataW Unit) : Prop := ∀ a b kl, keyOf prog 136 (pairA a b) = some kl -> Maps.has D kl = twoV.contains (a, b)
theorem twoByteSigns_c (w : World) : Calls prog 48 #[] w fun e w' => e = .returned (.map (some w.heap.size)) /\
    ∃ D, w'.ownsMap prog 136 unitElem w.heap.size 8 D /\ PairsD D /\ Below w.heap.size w w' := by
  have hmm := @run_makeMap prog
  go_enter func48, ntmps48
  go_wp2
  refine wp_region_any (by kernel_rfl) ?_
  change wpAny _ _ _ _ _ _ _ (World.drew _)
  refine wpAny_take (i := 1) (v := .agg #[.int .u8 45, .int .u8 62]) rfl (by kernel_rfl) (by kernel_rfl) (by kernel_rfl) (fun _ _ _ h => h) (Or.inl ⟨by rfl, by intro w; go_simp⟩) ?_
  refine wpAny_take (i := 2) (v := .agg #[]) rfl (by kernel_rfl) (by kernel_rfl) (by kernel_rfl) (fun _ _ _ h => h) (Or.inl ⟨by rfl, by intro w; go_simp⟩) ?_
  refine wpAny_take (i := 4) (v := .agg #[.int .u8 61, .int .u8 62]) rfl (by kernel_rfl) (by kernel_rfl) (by kernel_rfl) (fun _ _ _ h => h) (Or.inl ⟨by rfl, by intro w; go_simp⟩) ?_
  refine wpAny_take (i := 5) (v := .agg #[]) rfl (by kernel_rfl) (by kernel_rfl) (by kernel_rfl) (fun _ _ _ h => h) (Or.inl ⟨by rfl, by intro w; go_simp⟩) ?_
  refine wpAny_take (i := 7) (v := .agg #[.int .u8 60, .int .u8 58]) rfl (by kernel_rfl) (by kernel_rfl) (by kernel_rfl) (fun _ _ _ h => h) (Or.inl ⟨by rfl, by intro w; go_simp⟩) ?_
  refine wpAny_take (i := 8) (v := .agg #[]) rfl (by kernel_rfl) (by kernel_rfl) (by kernel_rfl) (fun _ _ _ h => h) (Or.inl ⟨by rfl, by intro w; go_simp⟩) ?_
  refine wpAny_take (i := 10) (v := .agg #[.int .u8 60, .int .u8 60]) rfl (by kernel_rfl) (by kernel_rfl) (by kernel_rfl) (fun _ _ _ h => h) (Or.inl ⟨by rfl, by intro w; go_simp⟩) ?_
  refine wpAny_take (i := 11) (v := .agg #[]) rfl (by kernel_rfl) (by kernel_rfl) (by kernel_rfl) (fun _ _ _ h => h) (Or.inl ⟨by rfl, by intro w; go_simp⟩) ?_
  refine wpAny_take (i := 13) (v := .agg #[.int .u8 60, .int .u8 61]) rfl (by kernel_rfl) (by kernel_rfl) (by kernel_rfl) (fun _ _ _ h => h) (Or.inl ⟨by rfl, by intro w; go_simp⟩) ?_
  refine wpAny_take (i := 14) (v := .agg #[]) rfl (by kernel_rfl) (by kernel_rfl) (by kernel_rfl) (fun _ _ _ h => h) (Or.inl ⟨by rfl, by intro w; go_simp⟩) ?_
  refine wpAny_take (i := 16) (v := .agg #[.int .u8 62, .int .u8 62]) rfl (by kernel_rfl) (by kernel_rfl) (by kernel_rfl) (fun _ _ _ h => h) (Or.inl ⟨by rfl, by intro w; go_simp⟩) ?_
  refine wpAny_take (i := 17) (v := .agg #[]) rfl (by kernel_rfl) (by kernel_rfl) (by kernel_rfl) (fun _ _ _ h => h) (Or.inl ⟨by rfl, by intro w; go_simp⟩) ?_
  refine wpAny_take (i := 19) (v := .agg #[.int .u8 61, .int .u8 61]) rfl (by kernel_rfl) (by kernel_rfl) (by kernel_rfl) (fun _ _ _ h => h) (Or.inl ⟨by rfl, by intro w; go_simp⟩) ?_
  refine wpAny_take (i := 20) (v := .agg #[]) rfl (by kernel_rfl) (by kernel_rfl) (by kernel_rfl) (fun _ _ _ h => h) (Or.inl ⟨by rfl, by intro w; go_simp⟩) ?_
  refine wpAny_take (i := 22) (v := .agg #[.int .u8 43, .int .u8 43]) rfl (by kernel_rfl) (by kernel_rfl) (by kernel_rfl) (fun _ _ _ h => h) (Or.inl ⟨by rfl, by intro w; go_simp⟩) ?_
  refine wpAny_take (i := 23) (v := .agg #[]) rfl (by kernel_rfl) (by kernel_rfl) (by kernel_rfl) (fun _ _ _ h => h) (Or.inl ⟨by rfl, by intro w; go_simp⟩) ?_
  refine wpAny_ready (rs := [0]) (by kernel_rfl) (by simp) ?_
  refine AllReady.cons rfl (fun K hK => ?_) AllReady.nil
  go_simp
  refine hK _ _ ?_
  clear hK K
  refine wpAny_inserts w.heap.size 93 136 137 25 2 pairLaw underlying93 pairIs (fun i => pairA (pairAt i).1 (pairAt i).2) (fun i => (keyOf prog 136 (pairA (pairAt i).1 (pairAt i).2)).getD .nil)
    ?hop ⟨_, rfl, ?ht⟩ ⟨_, rfl, ?hn⟩ w (Nat.le_refl _) 27 ?fin 8 0 pairIs _ _ (.map []) rfl rfl ?left (by decide) (fun _ h => h) (World.ownsMap_made w.drew _ _ _) rfl (by decide) ?below (fun i hi hn => absurd hi hn) (fun key h => by cases h)
  case hop =>
    intro i hi
    simp only [pairIs, List.mem_cons, List.not_mem_nil, or_false] at hi
    rcases hi with rfl | rfl | rfl | rfl | rfl | rfl | rfl | rfl
    all_goals exact ⟨by omega, _, _, _, _, rfl, rfl, rfl, rfl, rfl, rfl, rfl, pairL_key _ _, by decide⟩
  case ht => decide
  case hn => exact ⟨{ on := 25, ground := .data }, by simp, rfl, rfl⟩
  case left =>
    intro j
    by_cases hj : j < 27
    · revert j
      decide
    · have h1 : j ≠ 25 /\ j ≠ 26 := by omega
      have h2 : j ∉ pairIs := by
        intro h
        have := (show ∀ i ∈ pairIs, i < 27 by decide) j h
        omega
      constructor
      · intro h
        simp [hj] at h
      · rintro (h | h | h)
        · exact absurd h h2
        · exact absurd h h1.1
        · exact absurd h h1.2
  case below => exact (Below.refl _ w).drew.alloc (Nat.le_refl _) _
  case fin =>
    intro listed w1 D hsz hL hown hb hD
    have hlit : listed = #[true, true, true, true, true, true, true, true, true, true, true, true, true, true, true, true, true, true, true, true, true, true, true, true, true, false, false] := by
      apply Array.ext
      · rw [hsz]; rfl
      · intro j h1 h2
        have hj : j < 27 := by omega
        have e1 : listed.getD j true = listed[j] := by simp [h1]
        have e2 := hL j
        rw [e1] at e2
        have e3 : ∀ j (h : j < 27), (#[true, true, true, true, true, true, true, true, true, true, true, true, true, true, true, true, true, true, true, true, true, true, true, true, true, false, false] : Array Bool)[j] = false ↔ (j = 25 ∨ j = 26) := by decide
        rw [Bool.eq_iff_iff, <- Bool.not_eq_false, <- Bool.not_eq_false, e2, e3 j hj]
        simp
    subst hlit
    have hP : PairsD D := fun a b kl hk => pair_iff a b D hD hk
    refine wpAny_ready (rs := [25]) (by kernel_rfl) (by simp) ?_
    refine AllReady.cons rfl (fun K hK => ?_) AllReady.nil
    go_simp
    refine hK _ _ ?_
    clear hK K
    refine wpAny_ready (rs := [26]) (by kernel_rfl) (by simp) ?_
    refine AllReady.cons rfl (fun K hK => ?_) AllReady.nil
    go_simp
    refine hK _ _ ?_
    clear hK K
    refine wpAny_done (by kernel_rfl) ?_ _
    go_wp2
    go_ret
    exact ⟨rfl, D, hown, hP, hb⟩
end Go.Proofs.YtlhmofphpfdjlaaGreatDoor.Lx
/- The scanner in memory: its five cells, and what a store turns. -/
namespace Go.Proofs.YtlhmofphpfdjlaaGreatDoor.Lx
open Go.Proofs.Tryz
open Go.RowKit
/-- Block sb is a scanner over the text S: the first byte that is not read, the line, where it begins, the map of signs. -/
def Scan (w : World) (sb : Nat) (S : ByteArray) (k li ls : Int) (mb : Nat) : Prop :=
  w.heap[sb]? = some (.cells #[.string S, .int .i64 k, .int .i64 li, .int .i64 ls, .map (some mb)] 96 (0, 0))
section
variable {w : World} {sb : Nat} {S : ByteArray} {k li ls : Int} {mb : Nat}
theorem Scan.c0 (h : Scan w sb S k li ls mb) : w.cell? ⟨sb, 0, none⟩ = some (.string S) := by unfold Scan at h; simp [World.cell?, h]
theorem Scan.c1 (h : Scan w sb S k li ls mb) : w.cell? ⟨sb, 1, none⟩ = some (.int .i64 k) := by unfold Scan at h; simp [World.cell?, h]
theorem Scan.c2 (h : Scan w sb S k li ls mb) : w.cell? ⟨sb, 2, none⟩ = some (.int .i64 li) := by unfold Scan at h; simp [World.cell?, h]
theorem Scan.c3 (h : Scan w sb S k li ls mb) : w.cell? ⟨sb, 3, none⟩ = some (.int .i64 ls) := by unfold Scan at h; simp [World.cell?, h]
theorem Scan.c4 (h : Scan w sb S k li ls mb) : w.cell? ⟨sb, 4, none⟩ = some (.map (some mb)) := by unfold Scan at h; simp [World.cell?, h]
theorem Scan.fz (h : Scan w sb S k li ls mb) (o : Nat) : w.frozen? ⟨sb, o, none⟩ = false := by unfold Scan at h; simp [World.frozen?, h]
theorem Scan.lt (h : Scan w sb S k li ls mb) : sb < w.heap.size := lt_of_block h
theorem Scan.drew (h : Scan w sb S k li ls mb) : Scan w.drew sb S k li ls mb := h
theorem cells_setCell {w : World} {b o : Nat} {cs : Array Value} {u : Value} {t : TypeId} {fr : Nat × Nat} (h : w.heap[b]? = some (.cells cs t fr)) : (w.setCell ⟨b, o, none⟩ u).heap[b]? = some (.cells (cs.setIfInBounds o u) t fr) := by
  have hlt := lt_of_block h
  have h' : w.heap[b] = .cells cs t fr := by simpa [Array.getElem?_eq_getElem hlt] using h
  show (w.heap.modify b _)[b]? = _
  rw [Array.getElem?_eq_getElem (by simpa using hlt), Array.getElem_modify_self, h']
  rfl
theorem Scan.set1 (h : Scan w sb S k li ls mb) (v : Int) : Scan (w.setCell ⟨sb, 1, none⟩ (.int .i64 v)) sb S v li ls mb := cells_setCell h
theorem Scan.set2 (h : Scan w sb S k li ls mb) (v : Int) : Scan (w.setCell ⟨sb, 2, none⟩ (.int .i64 v)) sb S k v ls mb := cells_setCell h
theorem Scan.set3 (h : Scan w sb S k li ls mb) (v : Int) : Scan (w.setCell ⟨sb, 3, none⟩ (.int .i64 v)) sb S k li v mb := cells_setCell h
/-- Another block is written, or new ones are laid. -/
theorem Scan.kept {w' : World} {row : Option Nat} (h : Scan w sb S k li ls mb) (hg : w.grownBy w' row) (hne : some sb ≠ row) : Scan w' sb S k li ls mb := by
  unfold Scan at *
  rw [hg.block sb (lt_of_block h) hne]
  exact h
end
/-- Block tb is a token. -/
def TokB (w : World) (tb : Nat) (kind : Int) (text : ByteArray) (li co : Int) : Prop :=
  w.heap[tb]? = some (.cells #[.int .i64 kind, .string text, .int .i64 li, .int .i64 co] 98 (0, 0))
section
variable {w : World} {tb : Nat} {kind : Int} {text : ByteArray} {li co : Int}
theorem TokB.c0 (h : TokB w tb kind text li co) : w.cell? ⟨tb, 0, none⟩ = some (.int .i64 kind) := by unfold TokB at h; simp [World.cell?, h]
theorem TokB.c1 (h : TokB w tb kind text li co) : w.cell? ⟨tb, 1, none⟩ = some (.string text) := by unfold TokB at h; simp [World.cell?, h]
theorem TokB.c2 (h : TokB w tb kind text li co) : w.cell? ⟨tb, 2, none⟩ = some (.int .i64 li) := by unfold TokB at h; simp [World.cell?, h]
theorem TokB.c3 (h : TokB w tb kind text li co) : w.cell? ⟨tb, 3, none⟩ = some (.int .i64 co) := by unfold TokB at h; simp [World.cell?, h]
theorem TokB.fz (h : TokB w tb kind text li co) (o : Nat) : w.frozen? ⟨tb, o, none⟩ = false := by unfold TokB at h; simp [World.frozen?, h]
theorem TokB.lt (h : TokB w tb kind text li co) : tb < w.heap.size := lt_of_block h
theorem TokB.set0 (h : TokB w tb kind text li co) (v : Int) : TokB (w.setCell ⟨tb, 0, none⟩ (.int .i64 v)) tb v text li co := cells_setCell h
theorem TokB.set1 (h : TokB w tb kind text li co) (v : ByteArray) : TokB (w.setCell ⟨tb, 1, none⟩ (.string v)) tb kind v li co := cells_setCell h
theorem TokB.kept {w' : World} {row : Option Nat} (h : TokB w tb kind text li co) (hg : w.grownBy w' row) (hne : some tb ≠ row) : TokB w' tb kind text li co := by
  unfold TokB at *
  rw [hg.block tb (lt_of_block h) hne]
  exact h
end
theorem grown_drew {a w : World} {row : Option Nat} (h : a.grownBy w row) : a.grownBy w.drew row := ⟨h.os, h.tape, h.output, h.size, h.block⟩
theorem grown_drewN {a w : World} {row : Option Nat} (h : a.grownBy w row) (n : Nat) : a.grownBy (w.drewN n) row := ⟨h.os, h.tape, h.output, h.size, h.block⟩
theorem grown_set {a w : World} {b : Nat} (h : a.grownBy w (some b)) (o : Nat) (v : Value) : a.grownBy (w.setCell ⟨b, o, none⟩ v) (some b) :=
  ⟨h.os, h.tape, h.output, by simpa using h.size, fun k hk hne => (Below.heap_setCell w _ v k (fun e => hne (by rw [e]))).trans (h.block k hk hne)⟩
theorem grown_setCell (w : World) (a : Addr) (v : Value) : w.grownBy (w.setCell a v) (some a.block) :=
  ⟨rfl, rfl, rfl, by simp, fun k _ hne => Below.heap_setCell w a v k (fun e => hne (by rw [e]))⟩
end Go.Proofs.YtlhmofphpfdjlaaGreatDoor.Lx
