/- Part. -/
import Derived.Maps.RangeWalk
import Derived.BigRegion
import Derived.Test.YtlhmofphpfdjlaaGreatDoorPart29
set_option maxRecDepth 100000
set_option maxHeartbeats 4000000
/- lex.twoByteSigns by a contract: a new map, whose keys are the signs of two bytes; in whatever order they are laid. -/
namespace Go.Proofs.YtlhmofphpfdjlaaGreatDoor.Lx
open Go.Proofs.Tryz
open Go.RowKit Go.Maps
theorem laidOut : laidOutB prog = true := by kernel_rfl
theorem pairLaw : Keyed prog 136 := Keyed.of_law (deep_law_laid laidOut (m := 2) (by omega) (of_decide_eq_true (by kernel_rfl)) (by kernel_rfl) (by rw [underlying136]))
def pairA (a b : UInt8) : Value := .agg #[.int .u8 a.toNat, .int .u8 b.toNat]
theorem pairKey (a b : UInt8) : ∃ kl, keyOf prog 136 (pairA a b) = some kl := by
  have hk : prog.keyType 136 = true := by kernel_rfl
  have hc : prog.cellsOf 136 = 2 := by kernel_rfl
  have hu : prog.cellsOf 5 = 1 := by kernel_rfl
  have hf : (pairA a b).formed prog 136 = true := by simp [pairA, Value.formed, underlying136, hc]
  have hsz : 1 <= prog.types.size := of_decide_eq_true (by kernel_rfl)
  obtain ⟨d, hd⟩ : ∃ d, prog.types.size + 1 = d + 2 := ⟨prog.types.size - 1, by omega⟩
  have wa : (Lit.int .u8 (a.toNat : Int)).wf = true := WalkArith.wf_u8 ⟨by omega, by have := a.toNat_lt; omega⟩
  have wb : (Lit.int .u8 (b.toNat : Int)).wf = true := WalkArith.wf_u8 ⟨by omega, by have := b.toNat_lt; omega⟩
  unfold keyOf
  rw [underlying136]
  simp only [hk, hf, Bool.and_self, if_true]
  rw [hd]
  have hl : prog.keyLits (d + 2) 136 (pairA a b).cells.toList = some [.int .u8 a.toNat, .int .u8 b.toNat] := by
    simp [Program.keyLits, underlying136, underlying5, pairA, Value.cells, hc, hu, wa, wb, List.range_succ]
  exact ⟨.string (keyBytes [.int .u8 a.toNat, .int .u8 b.toNat]), by rw [hl]; rfl⟩
theorem pairL_key (a b : UInt8) : keyOf prog 136 (pairA a b) = some ((keyOf prog 136 (pairA a b)).getD .nil) := by
  obtain ⟨kl, h⟩ := pairKey a b
  rw [h]
  rfl
theorem pairA_inj {a b c d : UInt8} (h : pairA a b = pairA c d) : a = c /\ b = d := by
  simp [pairA] at h
  exact ⟨UInt8.toNat_inj.1 (by omega), UInt8.toNat_inj.1 (by omega)⟩
/-- Which pair the insert lays. -/
def pairAt : Nat -> UInt8 × UInt8
  | 3 => (45, 62) | 6 => (61, 62) | 9 => (60, 58) | 12 => (60, 60) | 15 => (60, 61) | 18 => (62, 62) | 21 => (61, 61) | 24 => (43, 43) | _ => (0, 0)
def pairIs : List Nat := [3, 6, 9, 12, 15, 18, 21, 24]
theorem pair_iff (a b : UInt8) (D : DataW Unit) (h : ∀ key, Maps.has D key = true ↔ ∃ i ∈ pairIs, (keyOf prog 136 (pairA (pairAt i).1 (pairAt i).2)).getD .nil = key) {kl : Lit} (hk : keyOf prog 136 (pairA a b) = some kl) : Maps.has D kl = twoV.contains (a, b) := by
  rw [Bool.eq_iff_iff, h kl]
  constructor
  · rintro ⟨i, hi, e⟩
    have h1 := pairL_key (pairAt i).1 (pairAt i).2
    rw [e] at h1
    obtain ⟨rfl, rfl⟩ := pairA_inj (pairLaw.inj hk h1)
    revert hi
    exact (show ∀ i ∈ pairIs, twoV.contains ((pairAt i).1, (pairAt i).2) = true by decide) i
  · intro hc
    have hm : (a, b) ∈ twoV := by simpa using hc
    obtain ⟨i, hi, e⟩ := (show ∀ x ∈ twoV, ∃ i ∈ pairIs, pairAt i = x by decide) (a, b) hm
    refine ⟨i, hi, ?_⟩
    rw [e]
    exact Option.some.inj ((pairL_key a b).symm.trans hk)
/-- The keys of such a map are the signs of two bytes. -/
def PairsD (D : DataW Unit) : Prop := ∀ a b kl, keyOf prog 136 (pairA a b) = some kl -> Maps.has D kl = twoV.contains (a, b)
theorem twoByteSigns_c (w : World) : Calls prog 48 #[] w fun e w' => e = .returned (.map (some w.heap.size)) /\
    ∃ D, w'.ownsMap prog 136 unitElem w.heap.size 8 D /\ PairsD D /\ Below w.heap.size w w' := by
  have hmm := @run_makeMap prog
  go_enter func48, ntmps48
  go_wp2
  refine wp_region_any (by kernel_rfl) ?_
  change wpAny _ _ _ _ _ _ _ (World.drew _)
  refine wpAny_take (i := 1) (v := .agg #[.int .u8 45, .int .u8 62]) rfl (by kernel_rfl) (by kernel_rfl) (by kernel_rfl) (fun _ _ _ h => h) (Or.inl ⟨by rfl, by intro w; go_simp⟩) ?_
  refine wpAny_take (i := 2) (v := .agg #[]) rfl (by kernel_rfl) (by kernel_rfl) (by kernel_rfl) (fun _ _ _ h => h) (Or.inl ⟨by rfl, by intro w; go_simp⟩) ?_
  refine wpAny_take (i := 4) (v := .agg #[.int .u8 61, .int .u8 62]) rfl (by kernel_rfl) (by kernel_rfl) (by kernel_rfl) (fun _ _ _ h => h) (Or.inl ⟨by rfl, by intro w; go_simp⟩) ?_
  refine wpAny_take (i := 5) (v := .agg #[]) rfl (by kernel_rfl) (by kernel_rfl) (by kernel_rfl) (fun _ _ _ h => h) (Or.inl ⟨by rfl, by intro w; go_simp⟩) ?_
  refine wpAny_take (i := 7) (v := .agg #[.int .u8 60, .int .u8 58]) rfl (by kernel_rfl) (by kernel_rfl) (by kernel_rfl) (fun _ _ _ h => h) (Or.inl ⟨by rfl, by intro w; go_simp⟩) ?_
  refine wpAny_take (i := 8) (v := .agg #[]) rfl (by kernel_rfl) (by kernel_rfl) (by kernel_rfl) (fun _ _ _ h => h) (Or.inl ⟨by rfl, by intro w; go_simp⟩) ?_
  refine wpAny_take (i := 10) (v := .agg #[.int .u8 60, .int .u8 60]) rfl (by kernel_rfl) (by kernel_rfl) (by kernel_rfl) (fun _ _ _ h => h) (Or.inl ⟨by rfl, by intro w; go_simp⟩) ?_
  refine wpAny_take (i := 11) (v := .agg #[]) rfl (by kernel_rfl) (by kernel_rfl) (by kernel_rfl) (fun _ _ _ h => h) (Or.inl ⟨by rfl, by intro w; go_simp⟩) ?_
  refine wpAny_take (i := 13) (v := .agg #[.int .u8 60, .int .u8 61]) rfl (by kernel_rfl) (by kernel_rfl) (by kernel_rfl) (fun _ _ _ h => h) (Or.inl ⟨by rfl, by intro w; go_simp⟩) ?_
  refine wpAny_take (i := 14) (v := .agg #[]) rfl (by kernel_rfl) (by kernel_rfl) (by kernel_rfl) (fun _ _ _ h => h) (Or.inl ⟨by rfl, by intro w; go_simp⟩) ?_
  refine wpAny_take (i := 16) (v := .agg #[.int .u8 62, .int .u8 62]) rfl (by kernel_rfl) (by kernel_rfl) (by kernel_rfl) (fun _ _ _ h => h) (Or.inl ⟨by rfl, by intro w; go_simp⟩) ?_
  refine wpAny_take (i := 17) (v := .agg #[]) rfl (by kernel_rfl) (by kernel_rfl) (by kernel_rfl) (fun _ _ _ h => h) (Or.inl ⟨by rfl, by intro w; go_simp⟩) ?_
  refine wpAny_take (i := 19) (v := .agg #[.int .u8 61, .int .u8 61]) rfl (by kernel_rfl) (by kernel_rfl) (by kernel_rfl) (fun _ _ _ h => h) (Or.inl ⟨by rfl, by intro w; go_simp⟩) ?_
  refine wpAny_take (i := 20) (v := .agg #[]) rfl (by kernel_rfl) (by kernel_rfl) (by kernel_rfl) (fun _ _ _ h => h) (Or.inl ⟨by rfl, by intro w; go_simp⟩) ?_
  refine wpAny_take (i := 22) (v := .agg #[.int .u8 43, .int .u8 43]) rfl (by kernel_rfl) (by kernel_rfl) (by kernel_rfl) (fun _ _ _ h => h) (Or.inl ⟨by rfl, by intro w; go_simp⟩) ?_
  refine wpAny_take (i := 23) (v := .agg #[]) rfl (by kernel_rfl) (by kernel_rfl) (by kernel_rfl) (fun _ _ _ h => h) (Or.inl ⟨by rfl, by intro w; go_simp⟩) ?_
  refine wpAny_ready (rs := [0]) (by kernel_rfl) (by simp) ?_
  refine AllReady.cons rfl (fun K hK => ?_) AllReady.nil
  go_simp
  refine hK _ _ ?_
  clear hK K
  refine wpAny_inserts w.heap.size 93 136 137 25 2 pairLaw underlying93 pairIs (fun i => pairA (pairAt i).1 (pairAt i).2) (fun i => (keyOf prog 136 (pairA (pairAt i).1 (pairAt i).2)).getD .nil)
    ?hop ⟨_, rfl, ?ht⟩ ⟨_, rfl, ?hn⟩ w (Nat.le_refl _) 27 ?fin 8 0 pairIs _ _ (.map []) rfl rfl ?left (by decide) (fun _ h => h) (World.ownsMap_made w.drew _ _ _) rfl (by decide) ?below (fun i hi hn => absurd hi hn) (fun key h => by cases h)
  case hop =>
    intro i hi
    simp only [pairIs, List.mem_cons, List.not_mem_nil, or_false] at hi
    rcases hi with rfl | rfl | rfl | rfl | rfl | rfl | rfl | rfl
    all_goals exact ⟨by omega, _, _, _, _, rfl, rfl, rfl, rfl, rfl, rfl, rfl, pairL_key _ _, by decide⟩
  case ht => decide
  case hn => exact ⟨{ on := 25, ground := .data }, by simp, rfl, rfl⟩
  case left =>
    intro j
    by_cases hj : j < 27
    · revert j
      decide
    · have h1 : j ≠ 25 /\ j ≠ 26 := by omega
      have h2 : j ∉ pairIs := by
        intro h
        have := (show ∀ i ∈ pairIs, i < 27 by decide) j h
        omega
      constructor
      · intro h
        simp [hj] at h
      · rintro (h | h | h)
        · exact absurd h h2
        · exact absurd h h1.1
        · exact absurd h h1.2
  case below => exact (Below.refl _ w).drew.alloc (Nat.le_refl _) _
  case fin =>
    intro listed w1 D hsz hL hown hb hD
    have hlit : listed = #[true, true, true, true, true, true, true, true, true, true, true, true, true, true, true, true, true, true, true, true, true, true, true, true, true, false, false] := by
      apply Array.ext
      · rw [hsz]; rfl
      · intro j h1 h2
        have hj : j < 27 := by omega
        have e1 : listed.getD j true = listed[j] := by simp [h1]
        have e2 := hL j
        rw [e1] at e2
        have e3 : ∀ j (h : j < 27), (#[true, true, true, true, true, true, true, true, true, true, true, true, true, true, true, true, true, true, true, true, true, true, true, true, true, false, false] : Array Bool)[j] = false ↔ (j = 25 ∨ j = 26) := by decide
        rw [Bool.eq_iff_iff, <- Bool.not_eq_false, <- Bool.not_eq_false, e2, e3 j hj]
        simp
    subst hlit
    have hP : PairsD D := fun a b kl hk => pair_iff a b D hD hk
    refine wpAny_ready (rs := [25]) (by kernel_rfl) (by simp) ?_
    refine AllReady.cons rfl (fun K hK => ?_) AllReady.nil
    go_simp
    refine hK _ _ ?_
    clear hK K
    refine wpAny_ready (rs := [26]) (by kernel_rfl) (by simp) ?_
    refine AllReady.cons rfl (fun K hK => ?_) AllReady.nil
    go_simp
    refine hK _ _ ?_
    clear hK K
    refine wpAny_done (by kernel_rfl) ?_ _
    go_wp2
    go_ret
    exact ⟨rfl, D, hown, hP, hb⟩
end Go.Proofs.YtlhmofphpfdjlaaGreatDoor.Lx
/- The scanner in memory: its five cells, and what a store turns. -/
namespace Go.Proofs.YtlhmofphpfdjlaaGreatDoor.Lx
open Go.Proofs.Tryz
open Go.RowKit
/-- Block sb is a scanner over the text S: the first byte that is not read, the line, where it begins, the map of signs. -/
def Scan (w : World) (sb : Nat) (S : ByteArray) (k li ls : Int) (mb : Nat) : Prop :=
  w.heap[sb]? = some (.cells #[.string S, .int .i64 k, .int .i64 li, .int .i64 ls, .map (some mb)] 96 (0, 0))
section
variable {w : World} {sb : Nat} {S : ByteArray} {k li ls : Int} {mb : Nat}
theorem Scan.c0 (h : Scan w sb S k li ls mb) : w.cell? ⟨sb, 0, none⟩ = some (.string S) := by unfold Scan at h; simp [World.cell?, h]
theorem Scan.c1 (h : Scan w sb S k li ls mb) : w.cell? ⟨sb, 1, none⟩ = some (.int .i64 k) := by unfold Scan at h; simp [World.cell?, h]
theorem Scan.c2 (h : Scan w sb S k li ls mb) : w.cell? ⟨sb, 2, none⟩ = some (.int .i64 li) := by unfold Scan at h; simp [World.cell?, h]
theorem Scan.c3 (h : Scan w sb S k li ls mb) : w.cell? ⟨sb, 3, none⟩ = some (.int .i64 ls) := by unfold Scan at h; simp [World.cell?, h]
theorem Scan.c4 (h : Scan w sb S k li ls mb) : w.cell? ⟨sb, 4, none⟩ = some (.map (some mb)) := by unfold Scan at h; simp [World.cell?, h]
theorem Scan.fz (h : Scan w sb S k li ls mb) (o : Nat) : w.frozen? ⟨sb, o, none⟩ = false := by unfold Scan at h; simp [World.frozen?, h]
theorem Scan.lt (h : Scan w sb S k li ls mb) : sb < w.heap.size := lt_of_block h
theorem Scan.drew (h : Scan w sb S k li ls mb) : Scan w.drew sb S k li ls mb := h
theorem cells_setCell {w : World} {b o : Nat} {cs : Array Value} {u : Value} {t : TypeId} {fr : Nat × Nat} (h : w.heap[b]? = some (.cells cs t fr)) : (w.setCell ⟨b, o, none⟩ u).heap[b]? = some (.cells (cs.setIfInBounds o u) t fr) := by
  have hlt := lt_of_block h
  have h' : w.heap[b] = .cells cs t fr := by simpa [Array.getElem?_eq_getElem hlt] using h
  show (w.heap.modify b _)[b]? = _
  rw [Array.getElem?_eq_getElem (by simpa using hlt), Array.getElem_modify_self, h']
  rfl
theorem Scan.set1 (h : Scan w sb S k li ls mb) (v : Int) : Scan (w.setCell ⟨sb, 1, none⟩ (.int .i64 v)) sb S v li ls mb := cells_setCell h
theorem Scan.set2 (h : Scan w sb S k li ls mb) (v : Int) : Scan (w.setCell ⟨sb, 2, none⟩ (.int .i64 v)) sb S k v ls mb := cells_setCell h
theorem Scan.set3 (h : Scan w sb S k li ls mb) (v : Int) : Scan (w.setCell ⟨sb, 3, none⟩ (.int .i64 v)) sb S k li v mb := cells_setCell h
/-- Another block is written, or new ones are laid. -/
theorem Scan.kept {w' : World} {row : Option Nat} (h : Scan w sb S k li ls mb) (hg : w.grownBy w' row) (hne : some sb ≠ row) : Scan w' sb S k li ls mb := by
  unfold Scan at *
  rw [hg.block sb (lt_of_block h) hne]
  exact h
end
/-- Block tb is a token. -/
def TokB (w : World) (tb : Nat) (kind : Int) (text : ByteArray) (li co : Int) : Prop :=
  w.heap[tb]? = some (.cells #[.int .i64 kind, .string text, .int .i64 li, .int .i64 co] 98 (0, 0))
section
variable {w : World} {tb : Nat} {kind : Int} {text : ByteArray} {li co : Int}
theorem TokB.c0 (h : TokB w tb kind text li co) : w.cell? ⟨tb, 0, none⟩ = some (.int .i64 kind) := by unfold TokB at h; simp [World.cell?, h]
theorem TokB.c1 (h : TokB w tb kind text li co) : w.cell? ⟨tb, 1, none⟩ = some (.string text) := by unfold TokB at h; simp [World.cell?, h]
theorem TokB.c2 (h : TokB w tb kind text li co) : w.cell? ⟨tb, 2, none⟩ = some (.int .i64 li) := by unfold TokB at h; simp [World.cell?, h]
theorem TokB.c3 (h : TokB w tb kind text li co) : w.cell? ⟨tb, 3, none⟩ = some (.int .i64 co) := by unfold TokB at h; simp [World.cell?, h]
theorem TokB.fz (h : TokB w tb kind text li co) (o : Nat) : w.frozen? ⟨tb, o, none⟩ = false := by unfold TokB at h; simp [World.frozen?, h]
theorem TokB.lt (h : TokB w tb kind text li co) : tb < w.heap.size := lt_of_block h
theorem TokB.set0 (h : TokB w tb kind text li co) (v : Int) : TokB (w.setCell ⟨tb, 0, none⟩ (.int .i64 v)) tb v text li co := cells_setCell h
theorem TokB.set1 (h : TokB w tb kind text li co) (v : ByteArray) : TokB (w.setCell ⟨tb, 1, none⟩ (.string v)) tb kind v li co := cells_setCell h
theorem TokB.kept {w' : World} {row : Option Nat} (h : TokB w tb kind text li co) (hg : w.grownBy w' row) (hne : some tb ≠ row) : TokB w' tb kind text li co := by
  unfold TokB at *
  rw [hg.block tb (lt_of_block h) hne]
  exact h
end
theorem grown_drew {a w : World} {row : Option Nat} (h : a.grownBy w row) : a.grownBy w.drew row := ⟨h.os, h.tape, h.output, h.size, h.block⟩
theorem grown_drewN {a w : World} {row : Option Nat} (h : a.grownBy w row) (n : Nat) : a.grownBy (w.drewN n) row := ⟨h.os, h.tape, h.output, h.size, h.block⟩
theorem grown_set {a w : World} {b : Nat} (h : a.grownBy w (some b)) (o : Nat) (v : Value) : a.grownBy (w.setCell ⟨b, o, none⟩ v) (some b) :=
  ⟨h.os, h.tape, h.output, by simpa using h.size, fun k hk hne => (Below.heap_setCell w _ v k (fun e => hne (by rw [e]))).trans (h.block k hk hne)⟩
theorem grown_setCell (w : World) (a : Addr) (v : Value) : w.grownBy (w.setCell a v) (some a.block) :=
  ⟨rfl, rfl, rfl, by simp, fun k _ hne => Below.heap_setCell w a v k (fun e => hne (by rw [e]))⟩
end Go.Proofs.YtlhmofphpfdjlaaGreatDoor.Lx
/- (*scanner).skip by a contract: blanks and comments are passed over. -/
namespace Go.Proofs.YtlhmofphpfdjlaaGreatDoor.Lx
open Go.Proofs.Tryz
open Go.RowKit
/-- Where the scanner of block sb stands. -/
def atOf (w : World) (sb : Nat) : Nat := match w.cell? ⟨sb, 1, none⟩ with | some v => (intOf v).toNat | none => 0
theorem Scan.at {w : World} {sb : Nat} {S : ByteArray} {k : Nat} {li ls : Int} {mb : Nat} (h : Scan w sb S k li ls mb) : atOf w sb = k := by
  unfold atOf
  rw [h.c1]
  simp [intOf]
/-- What is left from k on, the line, the column. -/
def skipAt (S : ByteArray) (k li ls : Nat) : List UInt8 × Nat × Nat := skipV false (S.data.toList.drop k) li (k - ls + 1)
theorem skipAt_lf {S : ByteArray} {k li ls : Nat} (hk : k < S.size) (h : S[k].toNat = 10) : skipAt S k li ls = skipAt S (k + 1) (li + 1) (k + 1) := by
  have e : S[k] = 10 := UInt8.toNat_inj.1 h
  unfold skipAt
  rw [byteArray_drop S k hk, skipV, if_pos e]
  simp
theorem skipAt_blank {S : ByteArray} {k li ls : Nat} (hk : k < S.size) (hl : ls <= k) (h : S[k].toNat = 32 ∨ S[k].toNat = 9 ∨ S[k].toNat = 13) : skipAt S k li ls = skipAt S (k + 1) li ls := by
  have e : S[k] = 32 ∨ S[k] = 9 ∨ S[k] = 13 := by
    rcases h with h | h | h
    · exact .inl (UInt8.toNat_inj.1 h)
    · exact .inr (.inl (UInt8.toNat_inj.1 h))
    · exact .inr (.inr (UInt8.toNat_inj.1 h))
  unfold skipAt
  rw [byteArray_drop S k hk, skipV, if_neg (by rintro e2; rw [e2] at e; revert e; decide), if_pos e]
  rw [show k - ls + 1 + 1 = k + 1 - ls + 1 from by omega]
theorem drop_row (S : ByteArray) (k : Nat) (p : UInt8 -> Bool) : S.data.toList.drop (rowV S k p) = (S.data.toList.drop k).dropWhile p := by
  unfold rowV
  rw [<- List.drop_drop]
  generalize S.data.toList.drop k = l
  induction l with
  | nil => rfl
  | cons b r ih =>
    by_cases h : p b = true
    · rw [List.takeWhile_cons_of_pos h, List.dropWhile_cons_of_pos h, List.length_cons, List.drop_succ_cons, ih]
    · rw [List.takeWhile_cons_of_neg h, List.dropWhile_cons_of_neg h]; rfl
theorem skipAt_remark {S : ByteArray} {k li ls : Nat} (hk : k < S.size) (hl : ls <= k) (h : S[k].toNat = 35) : skipAt S k li ls = skipAt S (rowV S k notLf) li ls /\ k < rowV S k notLf := by
  have e : S[k] = 35 := UInt8.toNat_inj.1 h
  have hn : notLf S[k] = true := by rw [e]; decide
  have hr := rowV_on hk hn
  have hlt : k + 1 <= rowV S (k + 1) notLf := by unfold rowV; omega
  refine ⟨?_, by omega⟩
  rw [hr]
  unfold skipAt
  rw [drop_row, byteArray_drop S k hk, skipV, if_neg (by rw [e]; decide), if_neg (by rw [e]; decide), if_pos e, skip_comment]
  unfold rowV
  rw [show k - ls + 1 + 1 + (List.takeWhile notLf (List.drop (k + 1) S.data.toList)).length = k + 1 + (List.takeWhile notLf (List.drop (k + 1) S.data.toList)).length - ls + 1 from by omega]
theorem skipAt_stay {S : ByteArray} {k li ls : Nat} (hk : k < S.size) (h : S[k].toNat ≠ 10 /\ S[k].toNat ≠ 32 /\ S[k].toNat ≠ 9 /\ S[k].toNat ≠ 13 /\ S[k].toNat ≠ 35) : skipAt S k li ls = (S.data.toList.drop k, li, k - ls + 1) := by
  have f : ∀ n : UInt8, S[k].toNat ≠ n.toNat -> ¬ S[k] = n := fun n hn e => hn (by rw [e])
  unfold skipAt
  rw [byteArray_drop S k hk, skipV, if_neg (f 10 h.1), if_neg, if_neg (f 35 h.2.2.2.2)]
  rintro (e | e | e)
  · exact f 32 h.2.1 e
  · exact f 9 h.2.2.1 e
  · exact f 13 h.2.2.2.1 e
theorem skipAt_end {S : ByteArray} {k li ls : Nat} (hk : ¬ k < S.size) : skipAt S k li ls = (S.data.toList.drop k, li, k - ls + 1) := by
  unfold skipAt
  rw [List.drop_eq_nil_of_le (by rw [byteArray_len]; omega)]
  rfl
theorem skip_c (S : ByteArray) (hS : S.size <= 65536) (sb mb k0 li0 ls0 : Nat) (hk0 : k0 <= S.size) (hls0 : ls0 <= k0) (hli0 : li0 <= k0 + 1) (w : World) (hsc : Scan w sb S k0 li0 ls0 mb) :
    Calls prog 49 #[.pointer (some ⟨sb, 0, none⟩)] w fun e w' => e = .returned (.tuple #[]) /\ ∃ k li ls : Nat, Scan w' sb S k li ls mb /\ w.grownBy w' (some sb) /\
      k0 <= k /\ k <= S.size /\ ls <= k /\ li <= k + 1 /\ skipAt S k0 li0 ls0 = (S.data.toList.drop k, li, k - ls + 1) := by
  go_enter func49, ntmps49
  go_wp2
  go_loopw [20] (fun _ wr => ∃ k li ls : Nat, Scan wr sb S k li ls mb /\ w.grownBy wr (some sb) /\ k0 <= k /\ k <= S.size /\ ls <= k /\ li <= k + 1 /\ skipAt S k0 li0 ls0 = skipAt S k li ls) (fun _ wr => S.size - atOf wr sb)
  case atStart => exact ⟨k0, li0, ls0, hsc, World.grownBy.refl _ _, Nat.le_refl _, hk0, hls0, hli0, rfl⟩
  case round =>
    obtain ⟨k, li, ls, hs, hg, hk0', hk, hls, hli, hrel⟩ := hrel
    have HR := hideP hrel
    have HS := hideP hs
    have hat := hideP hs.at
    have c0 := hs.c0
    have c1 := hs.c1
    have c2 := hs.c2
    have c3 := hs.c3
    have f1 := hs.fz 1
    have f2 := hs.fz 2
    have f3 := hs.fz 3
    have HG := hideP hg
    clear hrel hs hg hsc
    by_cases hlt : k < S.size
    · have hlt' : (k : Int) < (S.size : Int) := by omega
      by_cases b1 : S[k].toNat = 10
      · have b1' : ((S[k].toNat : Int) == 10) = true := by simp; omega
        go_wp2
        go_quiet (fail)
        go_wp2
        go_quiet (fail)
        go_wp2
        have hs' := (((HS.out : Scan (wr.drewN (_ + _)) sb S k li ls mb).set1 (k + 1)).set2 (li + 1)).set3 (k + 1)
        refine ⟨⟨k + 1, li + 1, k + 1, hs', grown_set (grown_set (grown_set (grown_drewN HG.out _) _ _) _ _) _ _, by omega, by omega, by omega, by omega, HR.out.trans (skipAt_lf hlt b1)⟩, ?_⟩
        have e2 := Scan.at (k := k + 1) hs'
        have e1 := hat.out
        rw [e1]
        exact Nat.lt_of_le_of_lt (Nat.le_of_eq (congrArg (S.size - ·) e2)) (by omega)
      have n1 : ((S[k].toNat : Int) == 10) = false := by simp; omega
      by_cases b2 : S[k].toNat = 32 ∨ S[k].toNat = 9 ∨ S[k].toNat = 13
      · have hst := skipAt_blank (li := li) hlt hls b2
        have HST := hideP hst
        clear hst
        have b2' : ((S[k].toNat : Int) == 32) = true ∨ (((S[k].toNat : Int) == 32) = false /\ ((S[k].toNat : Int) == 9) = true) ∨ (((S[k].toNat : Int) == 32) = false /\ ((S[k].toNat : Int) == 9) = false /\ ((S[k].toNat : Int) == 13) = true) := by simp; omega
        rcases b2' with p1 | ⟨p1, p2⟩ | ⟨p1, p2, p3⟩
        all_goals
          go_wp2
          go_quiet (fail)
          go_wp2
          go_quiet (fail)
          go_wp2
          have hs' := (HS.out : Scan (wr.drewN (_ + _)) sb S k li ls mb).set1 (k + 1)
          refine ⟨⟨k + 1, li, ls, hs', grown_set (grown_drewN HG.out _) _ _, by omega, by omega, by omega, by omega, HR.out.trans HST.out⟩, ?_⟩
          have e2 := Scan.at (k := k + 1) hs'
          have e1 := hat.out
          rw [e1]
          exact Nat.lt_of_le_of_lt (Nat.le_of_eq (congrArg (S.size - ·) e2)) (by omega)
      have n2 : ((S[k].toNat : Int) == 32) = false := by simp; omega
      have n3 : ((S[k].toNat : Int) == 9) = false := by simp; omega
      have n4 : ((S[k].toNat : Int) == 13) = false := by simp; omega
      by_cases b3 : S[k].toNat = 35
      · obtain ⟨hst, hlt2⟩ := skipAt_remark (li := li) hlt hls b3
        have hle := rowV_le S k notLf hk
        have hc := rowEnd_lf S (by omega) k hk
        obtain ⟨r, hr⟩ : ∃ r, r = rowV S k notLf := ⟨_, rfl⟩
        rw [<- hr] at hst hlt2 hle hc
        have HST := hideP hst
        have HC := hideP hc
        clear hst hc hr
        have p4 : ((S[k].toNat : Int) == 35) = true := by simp; omega
        go_wp2
        go_quiet (fail)
        go_wp2
        go_quiet (fail)
        go_wp2
        go_region_with (go_at_call 84; refine (HC.out _).mono ?_; rintro e w' ⟨rfl, rfl⟩)
        all_goals
          go_wp2
          have hs' := (HS.out : Scan (wr.drewN (_ + _ + 1)) sb S k li ls mb).set1 r
          refine ⟨⟨r, li, ls, hs', grown_set (grown_drewN HG.out _) _ _, by omega, by omega, by omega, by omega, HR.out.trans HST.out⟩, ?_⟩
          have e2 := Scan.at (k := r) hs'
          have e1 := hat.out
          rw [e1]
          exact Nat.lt_of_le_of_lt (Nat.le_of_eq (congrArg (S.size - ·) e2)) (by omega)
      have n5 : ((S[k].toNat : Int) == 35) = false := by simp; omega
      have hst := skipAt_stay (li := li) (ls := ls) hlt ⟨b1, by omega, by omega, by omega, b3⟩
      have HST := hideP hst
      clear hst
      go_wp2
      go_quiet (fail)
      go_wp2
      go_quiet (fail)
      go_wp2
      first | go_end0 | (simp only [Exit.inBlock, Exit.then]; refine bodyPost_ret (results_none rfl _ _ _) rfl ?_) | refine bodyPost_ret (results_none rfl _ _ _) rfl ?_
      exact ⟨rfl, k, li, ls, HS.out, grown_drewN HG.out _, by omega, by omega, by omega, by omega, HR.out.trans HST.out⟩
    · have hst := skipAt_end (li := li) (ls := ls) hlt
      have HST := hideP hst
      clear hst
      go_wp2
      go_quiet (fail)
      go_wp2
      first | go_end0 | (simp only [Exit.inBlock, Exit.then]; refine bodyPost_ret (results_none rfl _ _ _) rfl ?_) | refine bodyPost_ret (results_none rfl _ _ _) rfl ?_
      exact ⟨rfl, k, li, ls, HS.out, grown_drewN HG.out _, by omega, by omega, by omega, by omega, HR.out.trans HST.out⟩
end Go.Proofs.YtlhmofphpfdjlaaGreatDoor.Lx
/- lex.isWord by a contract: the package's table of words lies as its text lays it. -/
namespace Go.Proofs.YtlhmofphpfdjlaaGreatDoor.Lx
open Go.Proofs.Tryz
open Go.RowKit
/-- The word with this number. -/
def wordB (i : Nat) : ByteArray := ⟨(wordsV.getD i []).toArray⟩
/-- The table of words lies where the package reads it. -/
def Words (w : World) : Prop := ∀ i, i < 25 -> w.cell? ⟨4, i, none⟩ = some (.string (wordB i))
theorem Words.lt {w : World} (h : Words w) : 4 < w.heap.size := World.block_lt_of_cell? w _ (h 0 (by decide))
theorem Words.below {w w' : World} (h : Words w) (hb : Below w.heap.size w w') : Words w' := fun i hi => (hb.cell (show 4 < w.heap.size from h.lt)).trans (h i hi)
theorem Words.grown {w w' : World} {row : Option Nat} (h : Words w) (hg : w.grownBy w' row) (hr : some 4 ≠ row) : Words w' := fun i hi => hg.cell (h i hi) hr
/-- The table's cells. -/
def wordsA : List Value := (List.range 25).map fun i => .string (wordB i)
theorem words_at (i : Nat) (hi : i < 25) : wordsA[i]? = some (.string (wordB i)) := by simp [wordsA, hi]
theorem Words.range {w : World} (h : Words w) : w.rangeAt 4 0 wordsA := by
  intro j v hv
  have hj : j < 25 := by
    have := (List.getElem?_eq_some_iff.1 hv).1
    simpa [wordsA] using this
  rw [words_at j hj] at hv
  injection hv with hv
  rw [<- hv, Nat.zero_add]
  exact h j hj
theorem words_size : (prog.info? 164).map (·.size) = some wordsA.length := by kernel_rfl
/-- No word up to here is it. -/
def noWord (s : ByteArray) (k : Nat) : Prop := ∀ i, i < k -> s ≠ wordB i
theorem words_mem (s : ByteArray) : wordsV.contains s.data.toList = true ↔ ∃ i, i < 25 /\ s = wordB i := by
  rw [List.contains_iff_mem]
  constructor
  · intro h
    obtain ⟨i, hi, e⟩ := List.mem_iff_getElem.1 h
    refine ⟨i, hi, ?_⟩
    unfold wordB
    rw [List.getD_eq_getElem?_getD, List.getElem?_eq_getElem hi, Option.getD_some, e]
  · rintro ⟨i, hi, e⟩
    rw [e]
    unfold wordB
    rw [List.getD_eq_getElem?_getD, List.getElem?_eq_getElem (show i < wordsV.length from hi), Option.getD_some]
    exact List.getElem_mem ..
theorem str_eq {s t : ByteArray} : (s.toList == t.toList) = true ↔ s = t := by
  rw [ByteArray.toList_eq, ByteArray.toList_eq, beq_iff_eq]
  constructor
  · intro h
    cases s; cases t
    simp at h
    rw [h]
  · rintro rfl; rfl
theorem str_ne {s t : ByteArray} (h : (s.toList == t.toList) = false) : s ≠ t := fun e => by
  rw [str_eq.2 e] at h
  cases h
theorem words_index {A : List Value} {k : Nat} {t : ByteArray} (hk : k < 25) (h : A[k]? = some (.string t)) (w : World) :
    (Instr.index 164 (.agg A.toArray) (.int .i64 k)).run prog w = .ok (.string t) w := by
  have hu := underlying164
  have ha := isAgg9
  have hz := sizeOf9
  simp [Instr.index, asIntOf, run_underlying hu, part, ha, hz, Result.andThen, hk]
  rw [h]
  rfl
theorem isWord_c (s : ByteArray) (w : World) (hw : Words w) :
    Calls prog 89 #[.string s] w fun e w' => e = .returned (.bool (wordsV.contains s.data.toList)) /\ w' = w := by
  obtain ⟨b, hb⟩ : ∃ b, b = wordsV.contains s.data.toList := ⟨_, rfl⟩
  rw [<- hb]
  have HB := hideP hb
  clear hb
  have hr := hideP hw.range
  obtain ⟨A, hA⟩ : ∃ A, A = wordsA := ⟨_, rfl⟩
  have hat := words_at
  have hsz := words_size
  rw [<- hA] at hr hat hsz
  clear hA hw
  have HA := hideP hat
  clear hat
  go_enter func89, ntmps89
  go_wp2_with (refine wpList_load_mid rfl 164 (.global 4) rfl 4 0 rfl A (.array 25 9) hr.out underlying164 rfl hsz ?_)
  go_loop [6] (fun i => ∃ k : Nat, k <= 25 /\ i = .int .i64 k /\ Hid (noWord s k)) (fun i => 25 - (intOf i).toNat)
  case atStart => exact ⟨0, by omega, rfl, fun i hi => by omega⟩
  case round =>
    obtain ⟨k, hk, rfl, hno⟩ := hrel
    by_cases hlt : k < 25
    · have hAk := HA.out k hlt
      obtain ⟨t, ht⟩ : ∃ t, t = wordB k := ⟨_, rfl⟩
      rw [<- ht] at hAk
      have hix := words_index hlt hAk w
      clear hAk
      have HT := hideP ht
      clear ht
      cases hq : (s.toList == t.toList)
      · have hno' : Hid (noWord s (k + 1)) := fun i hi => by
          by_cases hik : i = k
          · subst hik; rw [<- HT.out]; exact str_ne hq
          · exact hno.out i (by omega)
        go_wp2
        go_round
        case rel => exact ⟨k + 1, by omega, by go_num, hno'⟩
        case measure => simp [intOf]; omega
      · have e : b = true := by
          rw [HB.out]
          exact (words_mem s).2 ⟨k, hlt, (str_eq.1 hq).trans HT.out⟩
        subst e
        go_wp2
        go_ret
        exact ⟨rfl, rfl⟩
    · have e : b = false := by
        rw [HB.out, Bool.eq_false_iff]
        intro h
        obtain ⟨i, hi, e⟩ := (words_mem s).1 h
        exact hno.out i (by omega) e
      subst e
      go_wp2
      go_ret
      exact ⟨rfl, rfl⟩
end Go.Proofs.YtlhmofphpfdjlaaGreatDoor.Lx
/- (*scanner).row by a contract. -/
namespace Go.Proofs.YtlhmofphpfdjlaaGreatDoor.Lx
open Go.Proofs.Tryz
open Go.RowKit
theorem extract_eq (S : ByteArray) (i j : Nat) : S.extract i j = ⟨((S.data.toList.drop i).take (j - i)).toArray⟩ := by
  apply ByteArray.ext
  rw [ByteArray.data_extract]
  apply Array.toList_inj.1
  rw [Array.toList_extract]
theorem take_row (p : UInt8 -> Bool) (l : List UInt8) : l.take (l.takeWhile p).length = l.takeWhile p := by
  induction l with
  | nil => rfl
  | cons b r ih =>
    by_cases h : p b = true
    · rw [List.takeWhile_cons_of_pos h, List.length_cons, List.take_succ_cons, ih]
    · rw [List.takeWhile_cons_of_neg h]; rfl
theorem extract_row (S : ByteArray) (k : Nat) (p : UInt8 -> Bool) : S.extract k (rowV S k p) = ⟨((S.data.toList.drop k).takeWhile p).toArray⟩ := by
  rw [extract_eq]
  unfold rowV
  rw [Nat.add_sub_cancel_left, take_row]
theorem row_name (S : ByteArray) (hS : S.size <= 65536) (sb mb k li ls : Nat) (hk : k <= S.size) (w : World) (hsc : Scan w sb S k li ls mb) :
    Calls prog 87 #[.pointer (some ⟨sb, 0, none⟩), .func (.func 88) #[] #[]] w fun e w' => e = .returned (.string ⟨((S.data.toList.drop k).takeWhile inNm).toArray⟩) /\
      Scan w' sb S (rowV S k inNm) li ls mb /\ w.grownBy w' (some sb) := by
  have hle := rowV_le S k inNm hk
  have hge : k <= rowV S k inNm := by unfold rowV; omega
  have hc := rowEnd_name S (by omega) k hk
  obtain ⟨r, hr⟩ : ∃ r, r = rowV S k inNm := ⟨_, rfl⟩
  rw [<- hr] at hle hge hc ⊢
  have HC := hideP hc
  have HR := hideP hr
  have HS := hideP hsc
  have c0 := hsc.c0
  have c1 := hsc.c1
  have f1 := hsc.fz 1
  clear hc hr hsc
  go_enter func87, ntmps87
  go_wp2_with fail
  refine (HC.out _).mono ?_
  rintro e w' ⟨rfl, rfl⟩
  go_wp2
  go_quiet (fail)
  go_wp2
  go_ret
  refine ⟨?_, HS.out.set1 r, grown_drewN (grown_set (World.grownBy.refl _ _) _ _) _⟩
  rw [<- extract_row, <- HR.out]
  rfl
theorem row_digit (S : ByteArray) (hS : S.size <= 65536) (sb mb k li ls : Nat) (hk : k <= S.size) (w : World) (hsc : Scan w sb S k li ls mb) :
    Calls prog 87 #[.pointer (some ⟨sb, 0, none⟩), .func (.func 90) #[] #[]] w fun e w' => e = .returned (.string ⟨((S.data.toList.drop k).takeWhile isDig).toArray⟩) /\
      Scan w' sb S (rowV S k isDig) li ls mb /\ w.grownBy w' (some sb) := by
  have hle := rowV_le S k isDig hk
  have hge : k <= rowV S k isDig := by unfold rowV; omega
  have hc := rowEnd_digit S (by omega) k hk
  obtain ⟨r, hr⟩ : ∃ r, r = rowV S k isDig := ⟨_, rfl⟩
  rw [<- hr] at hle hge hc ⊢
  have HC := hideP hc
  have HR := hideP hr
  have HS := hideP hsc
  have c0 := hsc.c0
  have c1 := hsc.c1
  have f1 := hsc.fz 1
  clear hc hr hsc
  go_enter func87, ntmps87
  go_wp2_with fail
  refine (HC.out _).mono ?_
  rintro e w' ⟨rfl, rfl⟩
  go_wp2
  go_quiet (fail)
  go_wp2
  go_ret
  refine ⟨?_, HS.out.set1 r, grown_drewN (grown_set (World.grownBy.refl _ _) _ _) _⟩
  rw [<- extract_row, <- HR.out]
  rfl
end Go.Proofs.YtlhmofphpfdjlaaGreatDoor.Lx
/- (*scanner).here by a contract. -/
namespace Go.Proofs.YtlhmofphpfdjlaaGreatDoor.Lx
open Go.Proofs.Tryz
open Go.RowKit
/-- A token as a value. -/
def tokA (kind : Int) (text : ByteArray) (li co : Int) : Value := .agg #[.int .i64 kind, .string text, .int .i64 li, .int .i64 co]
theorem here_c (S : ByteArray) (sb mb k li ls : Nat) (hk : k <= 65536) (hls : ls <= k) (w : World) (hsc : Scan w sb S k li ls mb) :
    Calls prog 50 #[.pointer (some ⟨sb, 0, none⟩)] w fun e w' => e = .returned (tokA 0 ByteArray.empty li ((k - ls + 1 : Nat) : Int)) /\ w.grownBy w' none := by
  have hsb := hsc.lt
  have c1 := hsc.c1
  have c2 := hsc.c2
  have c3 := hsc.c3
  clear hsc
  go_enter func50, ntmps50
  go_wp2
  go_region
  all_goals
    go_wp2
    refine bodyPost_ret (results_cell_row rfl _ _ w.heap.size 98 #[.int .i64 0, .string { data := #[] }, .int .i64 li, .int .i64 ((k : Int) - (ls : Int) + 1)] (0, 0) _ rfl (heap_alloc_last w _) underlying98 rfl (by kernel_rfl)) rfl ⟨?_, ?_⟩
    · rw [show ((k - ls + 1 : Nat) : Int) = (k : Int) - (ls : Int) + 1 from by omega]
      rfl
    · exact grown_drew (World.grownBy_alloc _ _ _)
end Go.Proofs.YtlhmofphpfdjlaaGreatDoor.Lx
