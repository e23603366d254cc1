/- Part of the proof of ParseTypes: the texts that follow, in build order. -/
import Derived.Test.YtfjlkkohccihnabGreatDoorPart1
import Derived.Deep.MidRow
import Derived.LaidEql
import Derived.Maps.OwnSet
import Derived.ChangeKeysEq
import Derived.Maps.AppendAt

/- Expressions that lie in memory, those that have no Types and no Names: their trees (a number N is N empty names). -/
namespace Go.Proofs.YtfjlkkohccihnabGreatDoor
open Go.RowKit

/-- What a node bears beside: its place, and where its empty lists lie. -/
structure PX where
  li : Int
  co : Int
  ta : Option Addr
  tc : Nat
  na : Option Addr
  nc : Nat

abbrev ndV (k : Nat) (tx : ByteArray) (N : Nat) (pq : PX) (ka : Option Addr) (kl kc : Nat) : Value := .agg #[.int .i64 k, .string tx, .int .i64 N, .int .i64 pq.li, .int .i64 pq.co, .slice pq.ta 0 pq.tc, .slice pq.na 0 pq.nc, .slice ka kl kc]
abbrev ndO (k : Nat) (tx : ByteArray) (N : Nat) (pq : PX) (ka : Option Addr) (kl kc : Nat) : Obj := .cells #[.int .i64 k, .string tx, .int .i64 N, .int .i64 pq.li, .int .i64 pq.co, .slice pq.ta 0 pq.tc, .slice pq.na 0 pq.nc, .slice ka kl kc] 27
def mkN (k : Nat) (tx : List UInt8) (N : Nat) (ks : List Ty) : Ty := mkT k tx (List.replicate N []) ks

/-- The eight cells of a node. -/
def NCells (w : World) (b o : Nat) (k : Nat) (tx : ByteArray) (N : Nat) (pq : PX) (ka : Option Addr) (kl kc : Nat) : Prop :=
  w.cell? ⟨b, o, none⟩ = some (.int .i64 k) ∧ w.cell? ⟨b, o + 1, none⟩ = some (.string tx) ∧ w.cell? ⟨b, o + 2, none⟩ = some (.int .i64 N) ∧ w.cell? ⟨b, o + 3, none⟩ = some (.int .i64 pq.li) ∧ w.cell? ⟨b, o + 4, none⟩ = some (.int .i64 pq.co) ∧
  w.cell? ⟨b, o + 5, none⟩ = some (.slice pq.ta 0 pq.tc) ∧ w.cell? ⟨b, o + 6, none⟩ = some (.slice pq.na 0 pq.nc) ∧ w.cell? ⟨b, o + 7, none⟩ = some (.slice ka kl kc)

def NRow (w : World) (T : Nat → ByteArray → Nat → PX → Option Addr → Nat → Nat → Ty → Prop) (ka : Option Addr) (ks : List Ty) : Prop :=
  ks = [] ∨ ∃ b o, ka = some ⟨b, o, none⟩ ∧ CleanB w b ∧ ∀ i (h : i < ks.length), ∃ k tx N pq la ll lc, NCells w b (o + i * 8) k tx N pq la ll lc ∧ T k tx N pq la ll lc ks[i]

/-- These parts are a node, at most n deep, whose tree is D. -/
def NdAt (w : World) : Nat → Nat → ByteArray → Nat → PX → Option Addr → Nat → Nat → Ty → Prop
  | 0, _, _, _, _, _, _, _, _ => False
  | n + 1, k, tx, N, _, ka, kl, kc, D => ∃ ks : List Ty, kl = ks.length ∧ D = mkN k tx.data.toList N ks ∧ k ≤ 1000 ∧ tx.size ≤ 1000 ∧ N ≤ 1000 ∧ 0 ≤ kc ∧ ks.length ≤ 1000 ∧ NRow w (NdAt w n) ka ks

abbrev NKids (w : World) (n : Nat) (ka : Option Addr) (ks : List Ty) : Prop := NRow w (NdAt w n) ka ks

section
variable {w w' : World} {n m : Nat} {k : Nat} {tx : ByteArray} {N : Nat} {pq : PX} {ka : Option Addr} {kl kc : Nat} {D : Ty} {ks : List Ty}

theorem NCells.below {b o : Nat} (h : NCells w b o k tx N pq ka kl kc) (hlt : b < w.heap.size) (hb : Below w.heap.size w w') : NCells w' b o k tx N pq ka kl kc := by
  obtain ⟨h0, h1, h2, h3, h4, h5, h6, h7⟩ := h
  exact ⟨(hb.cell (p := ⟨b, o, none⟩) hlt).trans h0, (hb.cell (p := ⟨b, o + 1, none⟩) hlt).trans h1, (hb.cell (p := ⟨b, o + 2, none⟩) hlt).trans h2, (hb.cell (p := ⟨b, o + 3, none⟩) hlt).trans h3, (hb.cell (p := ⟨b, o + 4, none⟩) hlt).trans h4, (hb.cell (p := ⟨b, o + 5, none⟩) hlt).trans h5, (hb.cell (p := ⟨b, o + 6, none⟩) hlt).trans h6, (hb.cell (p := ⟨b, o + 7, none⟩) hlt).trans h7⟩

theorem nd_below (h : NdAt w n k tx N pq ka kl kc D) (hb : Below w.heap.size w w') : NdAt w' n k tx N pq ka kl kc D := by
  induction n generalizing k tx N pq ka kl kc D with
  | zero => exact h.elim
  | succ n ih =>
    obtain ⟨ks, e1, e2, h1, h2, h3, h4, h5, h6⟩ := h
    refine ⟨ks, e1, e2, h1, h2, h3, h4, h5, ?_⟩
    rcases h6 with h6 | ⟨b, o, e, hcl, hc⟩
    · exact .inl h6
    · refine .inr ⟨b, o, e, clean_below hcl hb, fun i hi => ?_⟩
      obtain ⟨k, tx, N, pq, la, ll, lc, q, ht⟩ := hc i hi
      exact ⟨k, tx, N, pq, la, ll, lc, q.below (clean_lt hcl) hb, ih ht⟩

theorem nkids_below (h : NKids w n ka ks) (hb : Below w.heap.size w w') : NKids w' n ka ks := by
  rcases h with h6 | ⟨b, o, e, hcl, hc⟩
  · exact .inl h6
  · refine .inr ⟨b, o, e, clean_below hcl hb, fun i hi => ?_⟩
    obtain ⟨k, tx, N, pq, la, ll, lc, q, ht⟩ := hc i hi
    exact ⟨k, tx, N, pq, la, ll, lc, q.below (clean_lt hcl) hb, nd_below ht hb⟩

theorem nkid_at (h : NKids w n ka ks) {i : Nat} (hi : i < ks.length) : ∃ b o k tx N pq la ll lc, ka = some ⟨b, o, none⟩ ∧ b < w.heap.size ∧ NCells w b (o + i * 8) k tx N pq la ll lc ∧ NdAt w n k tx N pq la ll lc ks[i] := by
  rcases h with rfl | ⟨b, o, rfl, hcl, hc⟩
  · cases hi
  · obtain ⟨k, tx, N, pq, la, ll, lc, q, ht⟩ := hc i hi
    exact ⟨b, o, k, tx, N, pq, la, ll, lc, rfl, clean_lt hcl, q, ht⟩

theorem nd_det {D' : Ty} (h : NdAt w n k tx N pq ka kl kc D) (h' : NdAt w m k tx N pq ka kl kc D') : D = D' := by
  induction n generalizing m k tx N pq ka kl kc D D' with
  | zero => exact h.elim
  | succ n ih =>
    cases m with
    | zero => exact h'.elim
    | succ m =>
      obtain ⟨ks, e1, rfl, _, _, _, _, _, h6⟩ := h
      obtain ⟨ks', e1', rfl, _, _, _, _, _, h6'⟩ := h'
      have hl : ks.length = ks'.length := by omega
      have : ks = ks' := by
        rcases h6 with rfl | ⟨b, o, rfl, _, hc⟩
        · exact (List.length_eq_zero_iff.1 hl.symm).symm
        · rcases h6' with rfl | ⟨b', o', ha, _, hc'⟩
          · exact List.length_eq_zero_iff.1 hl
          · injection ha with ha
            injection ha with hb ho
            subst hb ho
            refine List.ext_getElem hl fun i h1 h2 => ?_
            obtain ⟨k, tx, N, pq, la, ll, lc, ⟨q0, q1, q2, q3, q4, q5, q6, q7⟩, ht⟩ := hc i h1
            obtain ⟨k', tx', N', pq', la', ll', lc', ⟨p0, p1, p2, p3, p4, p5, p6, p7⟩, ht'⟩ := hc' i h2
            have e0 := Option.some.inj (q0.symm.trans p0)
            have e1 := Option.some.inj (q1.symm.trans p1)
            have e2 := Option.some.inj (q2.symm.trans p2)
            have e3 := Option.some.inj (q3.symm.trans p3)
            have e4 := Option.some.inj (q4.symm.trans p4)
            have e5 := Option.some.inj (q5.symm.trans p5)
            have e6 := Option.some.inj (q6.symm.trans p6)
            have e7 := Option.some.inj (q7.symm.trans p7)
            injection e0 with _ e0
            injection e1 with e1
            injection e2 with _ e2
            injection e3 with _ e3
            injection e4 with _ e4
            injection e5 with e5 _ e5c
            injection e6 with e6 _ e6c
            have eP : pq = pq' := by cases pq; cases pq'; simp_all
            injection e7 with e7 e8 e9
            have e0' : k = k' := by omega
            have e2' : N = N' := by omega
            subst e0' e1 e2' eP e7 e8 e9
            exact ih ht ht'
      rw [this]

theorem nkids_det {ks' : List Ty} (h : NKids w n ka ks) (h' : NKids w m ka ks') (hl : ks.length = ks'.length) : ks = ks' := by
  rcases h with rfl | ⟨b, o, rfl, _, hc⟩
  · exact (List.length_eq_zero_iff.1 hl.symm).symm
  · rcases h' with rfl | ⟨b', o', ha, _, hc'⟩
    · exact List.length_eq_zero_iff.1 hl
    · injection ha with ha
      injection ha with hb ho
      subst hb ho
      refine List.ext_getElem hl fun i h1 h2 => ?_
      obtain ⟨k, tx, N, pq, la, ll, lc, ⟨q0, q1, q2, q3, q4, q5, q6, q7⟩, ht⟩ := hc i h1
      obtain ⟨k', tx', N', pq', la', ll', lc', ⟨p0, p1, p2, p3, p4, p5, p6, p7⟩, ht'⟩ := hc' i h2
      have e0 := Option.some.inj (q0.symm.trans p0)
      have e1 := Option.some.inj (q1.symm.trans p1)
      have e2 := Option.some.inj (q2.symm.trans p2)
      have e3 := Option.some.inj (q3.symm.trans p3)
      have e4 := Option.some.inj (q4.symm.trans p4)
      have e5 := Option.some.inj (q5.symm.trans p5)
      have e6 := Option.some.inj (q6.symm.trans p6)
      have e7 := Option.some.inj (q7.symm.trans p7)
      injection e0 with _ e0
      injection e1 with e1
      injection e2 with _ e2
      injection e3 with _ e3
      injection e4 with _ e4
      injection e5 with e5 _ e5c
      injection e6 with e6 _ e6c
      have eP : pq = pq' := by cases pq; cases pq'; simp_all
      injection e7 with e7 e8 e9
      have e0' : k = k' := by omega
      have e2' : N = N' := by omega
      subst e0' e1 e2' eP e7 e8 e9
      exact nd_det ht ht'
end

/-- The cells of a row of eight. -/
theorem nd_facts {w1 : World} {b : Nat} {k : Nat} {tx : ByteArray} {N : Nat} {pq : PX} {ka : Option Addr} {kl kc : Nat} (h : w1.heap[b]? = some (ndO k tx N pq ka kl kc)) : NCells w1 b 0 k tx N pq ka kl kc ∧ b < w1.heap.size := by
  refine ⟨⟨?_, ?_, ?_, ?_, ?_, ?_, ?_, ?_⟩, lt_of_block h⟩
  all_goals (rw [cell_of_row _ _ _ _ _ _ h]; rfl)
end Go.Proofs.YtfjlkkohccihnabGreatDoor

/- What tree asks of a node: its text, its N, its Kids; by contracts. -/
namespace Go.Proofs.YtfjlkkohccihnabGreatDoor
open Go.RowKit

/-- The operations of two. -/
def opsV : List (List UInt8) := [[111, 114], [97, 110, 100], [60], [60, 61], [61, 61], [43, 43], [43], [45], [94], [42], [47], [37], [38], [60, 60], [62, 62]]
def opB (i : Nat) : ByteArray := ⟨(opsV.getD i []).toArray⟩
def OpsN (w : World) : Prop := ∀ i, i < 15 → w.cell? ⟨6, i, none⟩ = some (.string (opB i))
theorem OpsN.lt {w : World} (h : OpsN w) : 6 < w.heap.size := World.block_lt_of_cell? w _ (h 0 (by decide))
theorem OpsN.below {w w' : World} (h : OpsN w) (hb : Below w.heap.size w w') : OpsN w' := fun i hi => (hb.cell (show 6 < w.heap.size from h.lt)).trans (h i hi)
def opsA : List Value := (List.range 15).map fun i => .string (opB i)
theorem ops_at (i : Nat) (hi : i < 15) : opsA[i]? = some (.string (opB i)) := by simp [opsA, hi]
theorem OpsN.range {w : World} (h : OpsN w) : w.rangeAt 6 0 opsA := by
  intro j v hv
  have hj : j < 15 := by
    have := (List.getElem?_eq_some_iff.1 hv).1
    simpa [opsA] using this
  rw [ops_at j hj] at hv
  injection hv with hv
  rw [← hv, Nat.zero_add]
  exact h j hj
theorem ops_size : (Tryz.prog.info? 236).map (·.size) = some opsA.length := by kernel_rfl
def noOp (s : ByteArray) (k : Nat) : Prop := ∀ i, i < k → s ≠ opB i
theorem ops_mem (s : ByteArray) : opsV.contains s.data.toList = true ↔ ∃ i, i < 15 ∧ s = opB i := by
  rw [List.contains_iff_mem]
  constructor
  · intro h
    obtain ⟨i, hi, e⟩ := List.mem_iff_getElem.1 h
    refine ⟨i, hi, ?_⟩
    unfold opB
    rw [List.getD_eq_getElem?_getD, List.getElem?_eq_getElem hi, Option.getD_some, e]
  · rintro ⟨i, hi, e⟩
    rw [e]
    unfold opB
    rw [List.getD_eq_getElem?_getD, List.getElem?_eq_getElem (show i < opsV.length from hi), Option.getD_some]
    exact List.getElem_mem ..
theorem ops_index {A : List Value} {k : Nat} {t : ByteArray} (hk : k < 15) (h : A[k]? = some (.string t)) (w : World) :
    (Instr.index 236 (.agg A.toArray) (.int .i64 k)).run Tryz.prog w = .ok (.string t) w := by
  have hu := Tryz.underlying236
  have ha := Tryz.isAgg9
  have hz := Tryz.sizeOf9
  simp [Instr.index, asIntOf, run_underlying hu, part, ha, hz, Result.andThen, hk]
  rw [h]
  rfl

set_option maxRecDepth 100000 in
theorem isOp_c (s : ByteArray) (w : World) (hw : OpsN w) :
    Calls Tryz.prog 190 #[.string s] w fun e w' => e = .returned (.bool (opsV.contains s.data.toList)) ∧ w' = w := by
  obtain ⟨b, hb⟩ : ∃ b, b = opsV.contains s.data.toList := ⟨_, rfl⟩
  rw [← hb]
  have HB := hideP hb
  clear hb
  have hr := hideP hw.range
  obtain ⟨A, hA⟩ : ∃ A, A = opsA := ⟨_, rfl⟩
  have hat := ops_at
  have hsz := ops_size
  rw [← hA] at hr hat hsz
  clear hA hw
  have HA := hideP hat
  clear hat
  go_enter Tryz.func190, Tryz.ntmps190
  go_wp2_with (refine wpList_load_mid rfl 236 (.global 6) rfl 6 0 rfl A (.array 15 9) hr.out Tryz.underlying236 rfl hsz ?_)
  go_loop [6] (fun i => ∃ k : Nat, k ≤ 15 ∧ i = .int .i64 k ∧ Hid (noOp s k)) (fun i => 15 - (intOf i).toNat)
  case atStart => exact ⟨0, by omega, rfl, fun i hi => by omega⟩
  case round =>
    obtain ⟨k, hk, rfl, hno⟩ := hrel
    by_cases hlt : k < 15
    · have hAk := HA.out k hlt
      obtain ⟨t, ht⟩ : ∃ t, t = opB k := ⟨_, rfl⟩
      rw [← ht] at hAk
      have hix := ops_index hlt hAk w
      clear hAk
      have HT := hideP ht
      clear ht
      cases hq : (s.toList == t.toList)
      · have hno' : Hid (noOp s (k + 1)) := fun i hi => by
          by_cases hik : i = k
          · subst hik; rw [← HT.out]; exact str_ne hq
          · exact hno.out i (by omega)
        go_wp2
        go_round
        case rel => exact ⟨k + 1, by omega, by go_num, hno'⟩
        case measure => simp [intOf]; omega
      · have e : b = true := by
          rw [HB.out]
          exact (ops_mem s).2 ⟨k, hlt, (str_eq.1 hq).trans HT.out⟩
        subst e
        go_wp2
        go_ret
        exact ⟨rfl, rfl⟩
    · have e : b = false := by
        rw [HB.out, Bool.eq_false_iff]
        intro h
        obtain ⟨i, hi, e⟩ := (ops_mem s).1 h
        exact hno.out i (by omega) e
      subst e
      go_wp2
      go_ret
      exact ⟨rfl, rfl⟩

theorem text_op (s : ByteArray) (w : World) (hw : OpsN w) : Calls Tryz.prog 156 #[.string s, .int .i64 3] w fun e w' => e = .returned (.bool (opsV.contains s.data.toList)) ∧ w' = w := by
  have HC := hideP (isOp_c s w hw)
  clear hw
  generalize opsV.contains s.data.toList = b at HC
  go_enter Tryz.func156, Tryz.ntmps156
  go_wp2_with fail
  refine HC.out.mono ?_
  rintro e w' ⟨rfl, rfl⟩
  go_wp2_with fail
  go_ret
  exact ⟨rfl, rfl⟩

theorem text_name (s : ByteArray) (hs : s.size ≤ 1000) (w : World) (hw : Words w) : Calls Tryz.prog 156 #[.string s, .int .i64 1] w fun e w' => e = .returned (.bool (nameV s.data.toList)) ∧ w' = w := by
  have HC := hideP (name_c s (by omega) w hw)
  clear hw
  generalize nameV s.data.toList = b at HC
  go_enter Tryz.func156, Tryz.ntmps156
  go_wp2_with fail
  refine HC.out.mono ?_
  rintro e w' ⟨rfl, rfl⟩
  go_wp2_with fail
  go_ret
  exact ⟨rfl, rfl⟩

theorem allNone_c (a : Option Addr) (c : Nat) (w : World) : Calls Tryz.prog 130 #[.slice a 0 c, .func (.func 131) #[] #[]] w fun e w' => e = .returned (.bool true) ∧ w' = w := by
  go_enter Tryz.func130, Tryz.ntmps130
  go_wp2_with fail
  go_loopw [9] (fun i wx => i = .int .i64 0 ∧ wx = w) (fun _ _ => 0)
  case atStart => exact ⟨rfl, rfl⟩
  case round =>
    obtain ⟨rfl, rfl⟩ := hrel
    go_wp2_with fail
    go_ret
    exact ⟨rfl, by first | rfl | trivial⟩

/-- What a node may have, by its kind: text, most N, Types, Kids, whether it is named; as the package's table lays it. -/
def formN (k : Nat) : Nat × Nat × Nat × Nat × Nat × Nat × Bool :=
  [(0, 9223372036854775807, 0, 0, 0, 0, false), (2, 0, 0, 0, 0, 0, false), (0, 1, 0, 0, 0, 0, false), (0, 0, 0, 0, 0, 0, false), (1, 0, 0, 0, 0, 0, false), (1, 0, 0, 1, 2, 2, false), (1, 0, 1, 2, 1, 1, false), (0, 0, 0, 0, 2, 2, false), (0, 0, 0, 0, 0, 9223372036854775807, true), (1, 0, 0, 0, 1, 1, false),
   (1, 0, 0, 0, 2, 2, false), (0, 0, 0, 0, 3, 3, false), (0, 5, 0, 0, 1, 1, false), (0, 0, 1, 1, 1, 1, false), (3, 0, 0, 0, 2, 2, false), (0, 0, 0, 0, 1, 1, false), (0, 0, 0, 0, 1, 1, false), (0, 0, 0, 0, 1, 1, false), (0, 0, 0, 0, 0, 0, false), (1, 0, 1, 9223372036854775807, 0, 0, false)].getD k (0, 0, 0, 0, 0, 0, false)
def FormsN (w : World) : Prop := ∀ k, k < 20 → w.cell? ⟨3, k * 7, none⟩ = some (.int .i64 (formN k).1) ∧ w.cell? ⟨3, k * 7 + 1, none⟩ = some (.int .i64 (formN k).2.1) ∧ w.cell? ⟨3, k * 7 + 2, none⟩ = some (.int .i64 (formN k).2.2.1) ∧ w.cell? ⟨3, k * 7 + 3, none⟩ = some (.int .i64 (formN k).2.2.2.1) ∧
  w.cell? ⟨3, k * 7 + 4, none⟩ = some (.int .i64 (formN k).2.2.2.2.1) ∧ w.cell? ⟨3, k * 7 + 5, none⟩ = some (.int .i64 (formN k).2.2.2.2.2.1) ∧ w.cell? ⟨3, k * 7 + 6, none⟩ = some (.bool (formN k).2.2.2.2.2.2)
theorem FormsN.lt {w : World} (h : FormsN w) : 3 < w.heap.size := World.block_lt_of_cell? w _ (h 0 (by decide)).1
theorem FormsN.below {w w' : World} (h : FormsN w) (hb : Below w.heap.size w w') : FormsN w' := fun k hk => by
  obtain ⟨h0, h1, h2, h3, h4, h5, h6⟩ := h k hk
  have hl : 3 < w.heap.size := h.lt
  exact ⟨(hb.cell hl).trans h0, (hb.cell hl).trans h1, (hb.cell hl).trans h2, (hb.cell hl).trans h3, (hb.cell hl).trans h4, (hb.cell hl).trans h5, (hb.cell hl).trans h6⟩

theorem frm_facts {w1 : World} {b : Nat} {y0 y1 y2 y3 y4 y5 y6 : Value} {t : TypeId} (h : w1.heap[b]? = some (.cells #[y0, y1, y2, y3, y4, y5, y6] t)) :
    (w1.cell? ⟨b, 0, none⟩ = some y0 ∧ w1.cell? ⟨b, 1, none⟩ = some y1 ∧ w1.cell? ⟨b, 2, none⟩ = some y2 ∧ w1.cell? ⟨b, 3, none⟩ = some y3 ∧ w1.cell? ⟨b, 4, none⟩ = some y4 ∧ w1.cell? ⟨b, 5, none⟩ = some y5 ∧ w1.cell? ⟨b, 6, none⟩ = some y6) ∧ b < w1.heap.size := by
  refine ⟨⟨?_, ?_, ?_, ?_, ?_, ?_, ?_⟩, lt_of_block h⟩
  all_goals (rw [cell_of_row _ _ _ _ _ _ h]; rfl)

set_option maxHeartbeats 4000000 in
set_option maxRecDepth 100000 in
theorem fitsN_one (k : Nat) (tx : ByteArray) (N : Nat) (pq : PX) (ka : Option Addr) (kl kc : Nat) (tb : Bool) (w : World) (hk : k < 20) (hf : FormsN w) (hN : N ≤ (formN k).2.1) (ht : (formN k).2.2.1 = 0) (h1 : (formN k).2.2.2.2.1 ≤ kl) (h2 : kl ≤ (formN k).2.2.2.2.2.1) (hn : (formN k).2.2.2.2.2.2 = false) (_ : kl ≤ 1000) (_ : N ≤ 1000)
    (hT : ∀ wx, Below w.heap.size w wx → Calls Tryz.prog 156 #[.string tx, .int .i64 (formN k).1] wx fun e w' => e = .returned (.bool tb) ∧ w' = wx) :
    Calls Tryz.prog 96 #[ndV k tx N pq ka kl kc] w fun e w' => e = .returned (.bool tb) ∧ Below w.heap.size w w' := by
  have hb0 := bl_alloc w (ndO k tx N pq ka kl kc)
  obtain ⟨f0, f1, f2, f3, f4, f5, f6⟩ := hf k hk
  rw [ht] at f2
  rw [hn] at f6
  have hlt := hf.lt
  obtain ⟨⟨t, mN, tl, tm, l, m, nb⟩, hq⟩ : ∃ q, q = formN k := ⟨_, rfl⟩
  rw [← hq] at f0 f1 f3 f4 f5 hN h1 h2 hT
  simp only at f0 f1 f3 f4 f5 hN h1 h2 hT
  have HH := hideP (fun wx => holds_c l m kl h1 (by omega) wx)
  have HH0 := hideP (fun wx => holds_c 0 tm 0 (Nat.le_refl _) (by omega) wx)
  have HTX := hideP hT
  have HB0 := hideP hb0
  have k9 : ¬ (20 : Int) ≤ (k : Int) := by omega
  have k9' : (k : Int) < 20 := by omega
  have k0 : ¬ (k : Int) < 0 := by omega
  have n0 : ¬ (N : Int) < 0 := by omega
  have n1 : ¬ (mN : Int) < (N : Int) := by omega
  clear hq ht hn hf hT hb0
  go_enter Tryz.func96, Tryz.ntmps96
  go_wp2_with fail
  have HT : Hid (((w.alloc (ndO k tx N pq ka kl kc)).alloc (.cells #[.int .i64 t, .int .i64 mN, .int .i64 0, .int .i64 tm, .int .i64 l, .int .i64 m, .bool false] 193)).heap[w.heap.size]? = some (ndO k tx N pq ka kl kc)) := (Below.heap_alloc _ _ _ (by simp)).trans (heap_alloc_last w _)
  have HO : Hid (((w.alloc (ndO k tx N pq ka kl kc)).alloc (.cells #[.int .i64 t, .int .i64 mN, .int .i64 0, .int .i64 tm, .int .i64 l, .int .i64 m, .bool false] 193)).heap[w.heap.size + 1]? = some (.cells #[.int .i64 t, .int .i64 mN, .int .i64 0, .int .i64 tm, .int .i64 l, .int .i64 m, .bool false] 193)) := heap_at1 w _ _
  refine (HH0.out _).mono ?_
  rintro e w1 ⟨rfl, hb1⟩
  have HB1 := hideP (below_next (below_next HB0.out (bl_alloc _ _)) hb1)
  have HT1 := hideP ((hb1.block _ (lt_of_block HT.out)).trans HT.out)
  have HO1 := hideP ((hb1.block _ (lt_of_block HO.out)).trans HO.out)
  obtain ⟨⟨x0, x1, x2, x3, x4, x5, x6, x7⟩, hltx⟩ := nd_facts HT1.out
  obtain ⟨⟨y0, y1, y2, y3, y4, y5, y6⟩, hlty⟩ := frm_facts HO1.out
  simp only [Nat.zero_add] at x0 x1 x2 x3 x4 x5 x6 x7
  clear hb1 f0 f1 f2 f3 f4 f5 f6 HT HO
  go_wp2_with fail
  refine (HH.out _).mono ?_
  rintro e w2 ⟨rfl, hb2⟩
  have HB2 := hideP (below_next HB1.out hb2)
  have HT2 := hideP ((hb2.block _ (lt_of_block HT1.out)).trans HT1.out)
  have HO2 := hideP ((hb2.block _ (lt_of_block HO1.out)).trans HO1.out)
  clear hb2 x0 x1 x2 x3 x4 x5 x6 x7 y0 y1 y2 y3 y4 y5 y6 hltx hlty
  obtain ⟨⟨x0, x1, x2, x3, x4, x5, x6, x7⟩, hltx⟩ := nd_facts HT2.out
  obtain ⟨⟨y0, y1, y2, y3, y4, y5, y6⟩, hlty⟩ := frm_facts HO2.out
  simp only [Nat.zero_add] at x0 x1 x2 x3 x4 x5 x6 x7
  go_wp2_with fail
  refine (HTX.out _ HB2.out).mono ?_
  rintro e w3 ⟨rfl, rfl⟩
  cases tb
  · go_wp2_with fail
    go_ret
    exact ⟨rfl, HB2.out⟩
  · go_wp2_with fail
    refine (names_none pq.na pq.nc kl _).mono ?_
    rintro e w4 ⟨rfl, rfl⟩
    go_wp2_with fail
    refine (allNone_c _ _ _).mono ?_
    rintro e w5 ⟨rfl, rfl⟩
    go_wp2_with fail
    go_ret
    exact ⟨rfl, HB2.out⟩
end Go.Proofs.YtfjlkkohccihnabGreatDoor

/- Maps whose keys bear addresses: what a look-up and a store do, whatever marks the rows bear. -/
namespace Go.Proofs.YtfjlkkohccihnabGreatDoor
open Go.RowKit

/-- An address that may be held against others. -/
def GoodA (w : World) (a : Addr) : Prop := ∃ cs t fr, w.heap[a.block]? = some (.cells cs t fr) ∧ w.frozen? a = false
/-- .. in a row that bears no mark. -/
def PlainA (w : World) (a : Addr) : Prop := CleanB w a.block

theorem PlainA.good {w : World} {a : Addr} (h : PlainA w a) : GoodA w a := by
  obtain ⟨cs, t, h⟩ := h
  exact ⟨cs, t, _, h, by simp [World.frozen?, h]⟩

theorem GoodA.below {w w' : World} {a : Addr} (h : GoodA w a) (hb : Below w.heap.size w w') : GoodA w' a := by
  obtain ⟨cs, t, fr, h, hf⟩ := h
  exact ⟨cs, t, fr, (hb.block _ (lt_of_block h)).trans h, (hb.frozen (lt_of_block h)).trans hf⟩

theorem drewN_zero (w : World) : w.drewN 0 = w := rfl

theorem run_sameAddr_any {P : Program} {w : World} {a b : Addr} (ha : GoodA w a) (hb : GoodA w b) :
    ∃ r n, (sameAddr a b).run P w = .ok r (w.drewN n) ∧ (a = b → r = true) ∧ (PlainA w a → PlainA w b → (r = true → a = b)) := by
  by_cases hbl : a.block = b.block
  · refine ⟨a == b, 0, by simp [sameAddr, hbl, drewN_zero], by simp, by simp⟩
  · obtain ⟨ca, ta, fa, ha1, ha2⟩ := ha
    obtain ⟨cb, tb, fb, hb1, hb2⟩ := hb
    have hs1 : w.shape? a.block = some (ta, ca.size) := by simp [World.shape?, ha1]
    have hs2 : w.shape? b.block = some (tb, cb.size) := by simp [World.shape?, hb1]
    by_cases hp : PlainA w a ∧ PlainA w b
    · obtain ⟨⟨ca', ta', h1⟩, ⟨cb', tb', h2⟩⟩ := hp
      refine ⟨false, 0, by rw [run_sameAddr_other w (fun e => hbl (by rw [e])) h1 h2]; rfl, fun e => absurd (by rw [e]) hbl, fun _ _ h => by cases h⟩
    · have hno : PlainA w a → PlainA w b → False := fun h1 h2 => hp ⟨h1, h2⟩
      have hex : ∃ r n, (sameAddr a b).run P w = .ok r (w.drewN n) := by
        generalize hR : (sameAddr a b).run P w = R
        simp only [sameAddr, noView, viewAt, mayBeOne, stringish] at hR
        simp [hbl, ha2, hb2, hs1, hs2] at hR
        repeat' split at hR
        all_goals first | exact ⟨_, 0, hR.symm⟩ | exact ⟨_, 1, hR.symm⟩
      obtain ⟨r, n, h⟩ := hex
      exact ⟨r, n, h, fun e => absurd (by rw [e]) hbl, fun h1 h2 => (hno h1 h2).elim⟩

/-- A key: where a list begins, and how long it is. -/
def keyV (a : Addr) (m : Nat) : Value := .agg #[.pointer (some a), .int .i64 m]
theorem part_len (xs : Array Value) (w : World) (m : Int) (h : xs[1]? = some (.int .i64 m)) : (part 3 xs 1).run Tryz.prog w = .ok (.int .i64 m) w := by
  simp [part, isAgg, run_underlying Tryz.underlying3, h]
theorem run_eq_int (d : Nat) (w : World) (m l : Nat) : (Op.equalIn (d + 1) 3 (.int .i64 m) (.int .i64 l)).run Tryz.prog w = .ok (m == l) w := by
  simp [Op.equalIn, run_underlying Tryz.underlying3]
  rw [Bool.eq_iff_iff]
  simp
  omega

end Go.Proofs.YtfjlkkohccihnabGreatDoor

/- A set whose keys bear addresses: a look-up and a store, at the operation. -/
namespace Go.Proofs.YtfjlkkohccihnabGreatDoor
open Go.RowKit Go.MapKept
open Go.ChangeMaps (setBlock)

/-- What is asked of a key's type: how two keys are held against one another. -/
structure KeyOK (K : TypeId) (G P : World → Value → Prop) : Prop where
  eq : ∀ w x y, G w x → G w y → ∃ r n, (Op.equal K x y).run Tryz.prog w = .ok r (w.drewN n) ∧ (x = y → r = true) ∧ (P w x → P w y → (r = true → x = y))
  check : ∀ w em x, G w x → (Instr.checkKey em 10000 K x).run Tryz.prog w = .ok () w
  drew : ∀ w n x, G w x → G (w.drewN n) x
  drewP : ∀ w n x, P w x → P (w.drewN n) x
  now : ∀ w x y, G w x → ∃ d, Tryz.prog.underlying K = some d ∧ Instr.sameNow d x y = none

section
variable {K : TypeId} {G P : World → Value → Prop}

theorem find_asking (O : KeyOK K G P) : ∀ (es : List MapEntry) (i : Nat) (w : World) (x : Value), G w x → (∀ e ∈ es, G w e.key) →
    ∃ n r, (Instr.findAsking K x es i).run Tryz.prog w = .ok r (w.drewN n) ∧
      ((r = none ∧ ∀ e ∈ es, e.key ≠ x) ∨ ∃ j e, r = some (i + j, e.val) ∧ es[j]? = some e ∧ (P w x → (∀ e ∈ es, P w e.key) → e.key = x))
  | [], i, w, x, _, _ => ⟨0, none, by simp [Instr.findAsking]; rfl, .inl ⟨rfl, by simp⟩⟩
  | e :: es, i, w, x, hx, hes => by
    obtain ⟨r, n, h, h1, h2⟩ := O.eq w x e.key hx (hes e (by simp))
    cases r
    · obtain ⟨n', r', h', hr⟩ := find_asking O es (i + 1) (w.drewN n) x (O.drew w n x hx) (fun e' he' => O.drew w n _ (hes e' (by simp [he'])))
      refine ⟨n + n', r', by simp [Instr.findAsking, h, h'], ?_⟩
      rcases hr with ⟨rfl, hn⟩ | ⟨j, e', rfl, hj, hp⟩
      · refine .inl ⟨rfl, fun e' he' => ?_⟩
        rcases List.mem_cons.1 he' with rfl | he'
        · exact fun e2 => absurd (h1 e2.symm) (by decide)
        · exact hn e' he'
      · exact .inr ⟨j + 1, e', by rw [Nat.add_assoc, Nat.add_comm 1 j], by simpa using hj, fun p1 p2 => hp (O.drewP w n x p1) fun e2 he2 => O.drewP w n _ (p2 e2 (by simp [he2]))⟩
    · exact ⟨n, some (i, e.val), by simp [Instr.findAsking, h], .inr ⟨0, e, by simp, by simp, fun p1 p2 => (h2 p1 (p2 e (by simp)) rfl).symm⟩⟩

theorem find_key (O : KeyOK K G P) (es : List MapEntry) (w : World) (x : Value) (hx : G w x) (hes : ∀ e ∈ es, G w e.key) :
    ∃ n r, (Instr.findKey K x es).run Tryz.prog w = .ok r (w.drewN n) ∧
      ((r = none ∧ ∀ e ∈ es, e.key ≠ x) ∨ ∃ j e, r = some (j, e.val) ∧ es[j]? = some e ∧ (P w x → (∀ e ∈ es, P w e.key) → e.key = x)) := by
  cases es with
  | nil =>
    obtain ⟨d, hd, _⟩ := O.now w x x hx
    exact ⟨0, none, by simp [Instr.findKey, run_underlying hd, Instr.findNow]; rfl, .inl ⟨rfl, by simp⟩⟩
  | cons e es =>
    obtain ⟨d, hd, hs⟩ := O.now w x e.key hx
    obtain ⟨n, r, h, hr⟩ := find_asking O (e :: es) 0 w x hx hes
    refine ⟨n, r, by simp [Instr.findKey, run_underlying hd, Instr.findNow, hs, h], ?_⟩
    rcases hr with hr | ⟨j, e', h1, h2, h3⟩
    · exact .inl hr
    · exact .inr ⟨j, e', by simpa using h1, h2, h3⟩

/-- Block b is a set of these keys. -/
def SetAt (w : World) (b : Nat) (vs : List Value) : Prop := ∃ es clock, w.heap[b]? = some (.map es clock) ∧ es.toList.map (·.key) = vs ∧ ∀ e ∈ es.toList, e.val = .agg #[]

theorem set_made (w : World) : SetAt (w.alloc (.map #[] 0)) w.heap.size [] := ⟨#[], 0, heap_alloc_last w _, rfl, by simp⟩

theorem set_block {w w' : World} {b : Nat} {vs : List Value} (h : SetAt w b vs) (hb : w'.heap[b]? = w.heap[b]?) : SetAt w' b vs := by
  obtain ⟨es, clock, h1, h2⟩ := h
  exact ⟨es, clock, hb.trans h1, h2⟩

theorem set_lt {w : World} {b : Nat} {vs : List Value} (h : SetAt w b vs) : b < w.heap.size := by
  obtain ⟨es, clock, h1, _⟩ := h
  exact lt_of_block h1

variable {w : World} {b : Nat} {vs : List Value} {t e : TypeId}

theorem set_look (O : KeyOK K G P) (ht : Tryz.prog.underlying t = some (.map K e)) (hz : (zeroValue e).run Tryz.prog = fun w => .ok (.agg #[]) w) (h : SetAt w b vs) {x : Value} (hx : G w x) (hvs : ∀ y ∈ vs, G w y) :
    ∃ r n, (Instr.lookup t (.map (some b)) x true).run Tryz.prog w = .ok (.tuple #[.agg #[], .bool r]) (w.drewN n) ∧ (r = false → x ∉ vs) ∧ (r = true → ∃ y ∈ vs, P w x → (∀ z ∈ vs, P w z) → y = x) := by
  obtain ⟨es, clock, hb, rfl, hv⟩ := h
  have hg : ∀ e ∈ es.toList, G w e.key := fun e he => hvs _ (List.mem_map.2 ⟨e, he, rfl⟩)
  obtain ⟨n, r, hf, hr⟩ := find_key O es.toList w x hx hg
  rcases hr with ⟨rfl, hn⟩ | ⟨j, e0, rfl, hj, hp⟩
  · refine ⟨false, n, ?_, fun _ hm => ?_, fun h => by cases h⟩
    · simp [Instr.lookup, run_underlying ht, MapKept.run_getObj_map hb, O.check w _ _ hx, hf, hz, Result.andThen]
    · obtain ⟨e1, he1, h2⟩ := List.mem_map.1 hm
      exact hn e1 he1 h2
  · have hm := List.mem_of_getElem? hj
    refine ⟨true, n, ?_, fun h => (by cases h), fun _ => ⟨e0.key, List.mem_map.2 ⟨e0, hm, rfl⟩, fun p1 p2 => hp p1 fun e1 he1 => p2 _ (List.mem_map.2 ⟨e1, he1, rfl⟩)⟩⟩
    simp [Instr.lookup, run_underlying ht, MapKept.run_getObj_map hb, O.check w _ _ hx, hf, hv e0 hm, Result.andThen]

theorem stays_any (w : World) (old new : Value) : ∃ v n, (Instr.keyThatStays old new).run Tryz.prog w = .ok v (w.drewN n) ∧ (v = new ∨ v = old) := by
  generalize hR : (Instr.keyThatStays old new).run Tryz.prog w = R
  simp [Instr.keyThatStays] at hR
  repeat' split at hR
  all_goals first | exact ⟨_, 0, hR.symm, .inl rfl⟩ | exact ⟨_, 1, hR.symm, .inl rfl⟩ | exact ⟨_, 0, hR.symm, .inr rfl⟩ | exact ⟨_, 1, hR.symm, .inr rfl⟩

theorem set_store (O : KeyOK K G P) (ht : Tryz.prog.underlying t = some (.map K e)) (h : SetAt w b vs) {x : Value} (hx : G w x) (hvs : ∀ y ∈ vs, G w y) :
    ∃ w' vs', (Instr.mapUpdate t (.map (some b)) x (.agg #[])).run Tryz.prog w = .ok () w' ∧ SetAt w' b vs' ∧ w.grownBy w' (some b) ∧ (∀ y ∈ vs', y ∈ vs ∨ y = x) ∧ (P w x → (∀ z ∈ vs, P w z) → ∀ y, y ∈ vs ∨ y = x → y ∈ vs') := by
  obtain ⟨es, clock, hb, rfl, hv⟩ := h
  have hg : ∀ e ∈ es.toList, G w e.key := fun e he => hvs _ (List.mem_map.2 ⟨e, he, rfl⟩)
  obtain ⟨n, r, hf, hr⟩ := find_key O es.toList w x hx hg
  have hbl : ∀ m o, (setBlock (w.drewN m) b o).heap[b]? = some o := fun m o => by
    have hlt := lt_of_block hb
    simp [setBlock, hlt]
  have hgr : ∀ m o, w.grownBy (setBlock (w.drewN m) b o) (some b) := fun m o => ⟨rfl, rfl, rfl, by simp [setBlock], fun i _ hi => by
    have : b ≠ i := fun e => hi (by rw [e])
    simp [setBlock, this]⟩
  have hbd : ∀ m, (w.drewN m).heap[b]? = some (.map es clock) := fun m => hb
  rcases hr with ⟨rfl, hn⟩ | ⟨j, e0, rfl, hj, hp⟩
  · refine ⟨setBlock (w.drewN n) b (.map (es.push ⟨x, .agg #[], clock⟩) (clock + 1)), es.toList.map (·.key) ++ [x], ?_, ⟨_, _, hbl _ _, by simp, ?_⟩, hgr _ _, ?_, ?_⟩
    · simp [Instr.mapUpdate, run_underlying ht, MapKept.run_getObj_map hb, O.check w _ _ hx, hf, MapKept.run_setObj_map _ (hbd n), Result.andThen, setBlock]
    · intro e1 he1
      simp only [Array.toList_push, List.mem_append, List.mem_singleton] at he1
      rcases he1 with he1 | rfl
      · exact hv e1 he1
      · rfl
    · intro y hy
      simpa [or_comm] using hy
    · intro _ _ y hy
      simpa using hy
  · have hm := List.mem_of_getElem? hj
    have hj' : es[j]? = some e0 := by simpa using hj
    obtain ⟨v, n', hst, hvv⟩ := stays_any (w.drewN n) e0.key x
    have hjl : j < es.toList.length := (List.getElem?_eq_some_iff.1 hj).1
    have hlist : (es.modify j (fun e' => { e' with key := v, val := .agg #[] })).toList = es.toList.set j { e0 with key := v, val := .agg #[] } := by rw [Array.toList_modify, ChangeMaps.modify_eq_set _ _ _ _ hj]
    refine ⟨setBlock (w.drewN (n + n')) b (.map (es.modify j fun e' => { e' with key := v, val := .agg #[] }) clock), (es.toList.map (·.key)).set j v, ?_, ⟨_, _, hbl _ _, by rw [hlist, List.map_set], ?_⟩, hgr _ _, ?_, ?_⟩
    · simp [Instr.mapUpdate, run_underlying ht, MapKept.run_getObj_map hb, O.check w _ _ hx, hf, hj', hst, MapKept.run_setObj_map _ (hbd (n + n')), Result.andThen, setBlock]
    · intro e1 he1
      rw [hlist] at he1
      rcases List.mem_or_eq_of_mem_set he1 with h | rfl
      · exact hv e1 h
      · rfl
    · intro y hy
      rcases List.mem_or_eq_of_mem_set hy with h | rfl
      · exact .inl h
      · rcases hvv with rfl | rfl
        · exact .inr rfl
        · exact .inl (List.mem_map.2 ⟨e0, hm, rfl⟩)
    · intro p1 p2 y hy
      have hk : e0.key = x := hp p1 fun e1 he1 => p2 _ (List.mem_map.2 ⟨e1, he1, rfl⟩)
      have hvx : v = x := by rcases hvv with h | h <;> simp [h, hk]
      subst hvx
      have hid : (es.toList.map (·.key)).set j v = es.toList.map (·.key) := by
        apply List.ext_getElem?
        intro i
        rw [List.getElem?_set]
        split
        · rename_i hij
          subst hij
          simp [hj, hk]
          simpa using hjl
        · rfl
      rw [hid]
      rcases hy with h | rfl
      · exact h
      · exact List.mem_map.2 ⟨e0, hm, hk⟩

/-- A look-up, at the operation. -/
theorem wpList_set_look {ops : Array Oper} {rest : List Oper} {o : Oper} {a : Act} {Q : Exit → Act → World → Prop} (hg : o.guard = none) (m x : Operand) (t : TypeId) (hop : o.op = Op.lookup t m x true)
    (O : KeyOK K G P) (ht : Tryz.prog.underlying t = some (.map K e)) (hz : (zeroValue e).run Tryz.prog = fun w => .ok (.agg #[]) w) (b : Nat) (vs : List Value)
    (hm : a.eval m = .map (some b)) (h : SetAt w b vs) (key : Value) (hx : a.eval x = key) (hkey : G w key) (hvs : ∀ y ∈ vs, G w y)
    (hK : ∀ r n, (r = false → key ∉ vs) → (r = true → ∃ y ∈ vs, P w key → (∀ z ∈ vs, P w z) → y = key) → wpList Tryz.prog ops Q rest (a.put o.dst (.tuple #[.agg #[], .bool r])) (w.drewN n)) :
    wpList Tryz.prog ops Q (o :: rest) a w := by
  refine wpList_plain hg fun K' hK' => ?_
  obtain ⟨r, n, hrun, h1, h2⟩ := set_look O ht hz h hkey hvs
  unfold Oper.wp
  simp [execOp, hop, hm, hx, hrun, Result.andThen]
  exact hK' _ _ (hK r n h1 h2)

/-- A store, at the operation. -/
theorem wpList_set_store {ops : Array Oper} {rest : List Oper} {o : Oper} {a : Act} {Q : Exit → Act → World → Prop} (hg : o.guard = none) (m x v : Operand) (t : TypeId) (hop : o.op = Op.mapUpdate t m x v)
    (O : KeyOK K G P) (ht : Tryz.prog.underlying t = some (.map K e)) (b : Nat) (vs : List Value)
    (hm : a.eval m = .map (some b)) (h : SetAt w b vs) (key : Value) (hx : a.eval x = key) (hv : a.eval v = .agg #[]) (hkey : G w key) (hvs : ∀ y ∈ vs, G w y)
    (hK : ∀ w' vs', SetAt w' b vs' → w.grownBy w' (some b) → (∀ y ∈ vs', y ∈ vs ∨ y = key) → (P w key → (∀ z ∈ vs, P w z) → ∀ y, y ∈ vs ∨ y = key → y ∈ vs') → wpList Tryz.prog ops Q rest (a.put o.dst undef) w') :
    wpList Tryz.prog ops Q (o :: rest) a w := by
  refine wpList_plain hg fun K' hK' => ?_
  obtain ⟨w', vs', hrun, h1, h2, h3, h4⟩ := set_store O ht h hkey hvs
  unfold Oper.wp
  simp [execOp, hop, hm, hx, hv, hrun, Result.andThen]
  exact hK' _ _ (hK w' vs' h1 h2 h3 h4)
end

def GoodK (w : World) (v : Value) : Prop := ∃ a m, v = keyV a m ∧ GoodA w a
def PlainK (w : World) (v : Value) : Prop := ∃ a m, v = keyV a m ∧ PlainA w a
theorem keyV_inj {a b : Addr} {m l : Nat} (h : keyV a m = keyV b l) : a = b ∧ m = l := by
  unfold keyV at h
  simp at h
  exact ⟨h.1, by omega⟩
theorem PlainA.drew {w : World} {a : Addr} (n : Nat) (h : PlainA w a) : PlainA (w.drewN n) a := h
theorem GoodA.drew {w : World} {a : Addr} (n : Nat) (h : GoodA w a) : GoodA (w.drewN n) a := h

end Go.Proofs.YtfjlkkohccihnabGreatDoor

/- Levels: lists of types that lie in memory, and the lists within them; what a round of types.nextLevel keeps. -/
namespace Go.Proofs.YtfjlkkohccihnabGreatDoor
open Go.RowKit

def keyOfV : Value → Value
  | .slice (some a) l _ => keyV a l
  | v => v

/-- A list of types, at least one. -/
def LstAt (w : World) (u : Bool) (n : Nat) (x : Value) (ks : List Ty) : Prop :=
  ∃ b o c, x = .slice (some ⟨b, o, none⟩) ks.length c ∧ ks ≠ [] ∧ ks.length ≤ reachBytes ∧ KidsAt w u n (some ⟨b, o, none⟩) ks

def totL (n : Nat) (ps : List (Value × List Ty)) : Nat := (ps.map fun p => (p.2.map (sizeT n)).sum).sum

/-- Values one behind the other. -/
def RowAt (w : World) (a : Option Addr) (vs : List Value) : Prop := vs = [] ∨ ∃ b o, a = some ⟨b, o, none⟩ ∧ b < w.heap.size ∧ ∀ i (h : i < vs.length), w.cell? ⟨b, o + i, none⟩ = some vs[i]

theorem row_of_owns {w : World} {base e n : Nat} {v : Value} {vs : List Value} (h : w.ownsRow base e 1 v n vs) : ∃ a c, v = .slice a vs.length c ∧ RowAt w a vs ∧ vs.length = n := by
  have hl := h.1
  rw [Nat.mul_one] at hl
  rcases h.2 with ⟨rfl, h0⟩ | ⟨g, cap, cur, rfl, hg, hh, _⟩
  · subst h0
    exact ⟨none, 0, by rw [hl], .inl (List.length_eq_zero_iff.1 hl), hl⟩
  · refine ⟨some ⟨g, 0, none⟩, cap, by rw [hl], .inr ⟨g, 0, rfl, lt_of_block hh, fun i hi => ?_⟩, hl⟩
    have := h.cells (g := g) rfl i vs[i] (by simp [hi])
    have hadd : (⟨g, 0, none⟩ : Addr).add i = ⟨g, 0 + i, none⟩ := by unfold Addr.add; split <;> simp_all
    rw [hadd] at this
    exact this

theorem cells_of_cell {w : World} {b o : Nat} {v : Value} (h : w.cell? ⟨b, o, none⟩ = some v) : ∃ cs t fr, w.heap[b]? = some (.cells cs t fr) := by
  unfold World.cell? at h
  split at h
  · rename_i cs t fr hh
    exact ⟨cs, t, fr, hh⟩
  · cases h

theorem LstAt.good {w : World} {u : Bool} {n : Nat} {x : Value} {ks : List Ty} (h : LstAt w u n x ks) : ∃ b o c, x = .slice (some ⟨b, o, none⟩) ks.length c ∧ b < w.heap.size ∧ GoodA w ⟨b, o, none⟩ ∧ (u = true → PlainA w ⟨b, o, none⟩) ∧ ks ≠ [] ∧ ks.length ≤ reachBytes := by
  obtain ⟨b, o, c, rfl, hne, hl, hk⟩ := h
  rcases hk with hk | ⟨b', o', e, hlt, hf, hcl, hc⟩
  · exact absurd hk hne
  · injection e with e
    injection e with e1 e2
    subst e1 e2
    obtain ⟨c0, _, _, _, h0, _⟩ := hc 0 (List.length_pos_iff.2 hne)
    obtain ⟨cs, t, fr, hh⟩ := cells_of_cell h0
    exact ⟨b, o, c, rfl, hlt, ⟨cs, t, fr, hh, hf⟩, fun hu => hcl hu, hne, hl⟩

/-- One place and one length are one list. -/
theorem lst_det {w : World} {u u' : Bool} {n m : Nat} {x x' : Value} {ks ks' : List Ty} (h : LstAt w u n x ks) (h' : LstAt w u' m x' ks') (he : keyOfV x = keyOfV x') : ks = ks' := by
  obtain ⟨b, o, c, rfl, _, _, hk⟩ := h
  obtain ⟨b', o', c', rfl, _, _, hk'⟩ := h'
  obtain ⟨e1, e2⟩ := keyV_inj he
  injection e1 with e3 e4
  subst e3 e4
  exact kids_det hk hk' e2

/-- What a round keeps. -/
structure Lev (w0 wr : World) (u : Bool) (n : Nat) (v : Value) (done : List Ty) (ps : List (Value × List Ty)) (vs : List Value) : Prop where
  bl : Below w0.heap.size w0 wr
  st : SetAt wr w0.heap.size vs
  ow : wr.ownsRow (w0.heap.size + 1) 23 1 v ps.length (ps.map (·.1))
  ls : ∀ p ∈ ps, LstAt w0 u n p.1 p.2
  ky : ∀ y ∈ vs, ∃ p ∈ ps, y = keyOfV p.1
  fr : ∀ p ∈ ps, ∃ D ∈ done, p.2 = kidsT D
  tt : totL n ps ≤ (done.map (sizeT (n + 1))).sum
  al : u = true → ∀ D ∈ done, kidsT D ≠ [] → ∃ p ∈ ps, p.2 = kidsT D

section
variable {w0 wr wr' : World} {u : Bool} {n : Nat} {v : Value} {done : List Ty} {ps : List (Value × List Ty)} {vs : List Value}

theorem Lev.sz (h : Lev w0 wr u n v done ps vs) : w0.heap.size < wr.heap.size := set_lt h.st

theorem Lev.grow (h : Lev w0 wr u n v done ps vs) (hg : wr.grownBy wr' none) : Lev w0 wr' u n v done ps vs where
  bl := h.bl.grown hg h.bl.size (fun k hk => by cases hk)
  st := set_block h.st (hg.block _ h.sz (by simp))
  ow := h.ow.kept hg (by cases h1 : v.ownBlock <;> simp)
  ls := h.ls
  ky := h.ky
  fr := h.fr
  tt := h.tt
  al := h.al

theorem grown_drewN (w : World) (m : Nat) (row : Option Nat) : w.grownBy (w.drewN m) row := ⟨rfl, rfl, rfl, Nat.le_refl _, fun _ _ _ => rfl⟩

theorem Lev.goodK (h : Lev w0 wr u n v done ps vs) : ∀ y ∈ vs, GoodK wr y := by
  intro y hy
  obtain ⟨p, hp, rfl⟩ := h.ky y hy
  obtain ⟨b, o, c, e, _, hg, _⟩ := (h.ls p hp).good
  rw [e]
  exact ⟨_, _, rfl, hg.below h.bl⟩

theorem Lev.plainK (h : Lev w0 wr u n v done ps vs) (hu : u = true) : ∀ y ∈ vs, PlainK wr y := by
  intro y hy
  obtain ⟨p, hp, rfl⟩ := h.ky y hy
  obtain ⟨b, o, c, e, _, _, hg, _⟩ := (h.ls p hp).good
  rw [e]
  exact ⟨_, _, rfl, clean_below (hg hu) h.bl⟩

theorem size_pos {n : Nat} {D : Ty} : 1 ≤ sizeT (n + 1) D := by rw [sizeT]; omega

theorem Lev.skip (h : Lev w0 wr u n v done ps vs) {D : Ty} (hD : kidsT D = []) : Lev w0 wr u n v (done ++ [D]) ps vs where
  bl := h.bl
  st := h.st
  ow := h.ow
  ls := h.ls
  ky := h.ky
  fr p hp := by
    obtain ⟨E, hE, h2⟩ := h.fr p hp
    exact ⟨E, by simp [hE], h2⟩
  tt := by
    have := h.tt
    simp
    omega
  al hu E hE hne := by
    rcases List.mem_append.1 hE with hE | hE
    · exact h.al hu E hE hne
    · rw [List.mem_singleton.1 hE] at hne
      exact absurd hD hne

theorem Lev.had (h : Lev w0 wr u n v done ps vs) {D : Ty} {x : Value} (hx : LstAt w0 u n x (kidsT D)) (hf : ∃ y ∈ vs, PlainK wr (keyOfV x) → (∀ z ∈ vs, PlainK wr z) → y = keyOfV x) : Lev w0 wr u n v (done ++ [D]) ps vs where
  bl := h.bl
  st := h.st
  ow := h.ow
  ls := h.ls
  ky := h.ky
  fr p hp := by
    obtain ⟨E, hE, h2⟩ := h.fr p hp
    exact ⟨E, by simp [hE], h2⟩
  tt := by
    have := h.tt
    simp
    omega
  al hu E hE hne := by
    rcases List.mem_append.1 hE with hE | hE
    · exact h.al hu E hE hne
    · rw [List.mem_singleton.1 hE]
      obtain ⟨y, hy, hp⟩ := hf
      obtain ⟨b, o, c, e, _, _, hg, _⟩ := hx.good
      have hyx := hp (by rw [e]; exact ⟨_, _, rfl, clean_below (hg hu) h.bl⟩) (h.plainK hu)
      obtain ⟨p, hpm, he⟩ := h.ky y hy
      exact ⟨p, hpm, lst_det (h.ls p hpm) hx (he.symm.trans hyx)⟩

/-- One more: the set first, then the list. -/
theorem Lev.add {w1 w2 : World} {vs' : List Value} {v' : Value} (h : Lev w0 wr u n v done ps vs) {D : Ty} {x : Value} (hx : LstAt w0 u n x (kidsT D)) (hs : SetAt w1 w0.heap.size vs') (hg : wr.grownBy w1 (some w0.heap.size))
    (hsub : ∀ y ∈ vs', y ∈ vs ∨ y = keyOfV x) {o : Obj} (ho : w2.ownsRow (w0.heap.size + 1) 23 1 v' (ps.length + 1) (ps.map (·.1) ++ [x])) (hg2 : (w1.alloc o).grownBy w2 v.ownBlock) :
    Lev w0 w2 u n v' (done ++ [D]) (ps ++ [(x, kidsT D)]) vs' := by
  have hsz := h.sz
  have hlow : ∀ i, i ≤ w0.heap.size → w2.heap[i]? = w1.heap[i]? := fun i hi => by
    have h1 : i < w1.heap.size := Nat.lt_of_le_of_lt hi (Nat.lt_of_lt_of_le hsz hg.size)
    rw [hg2.block i (by simp; omega) (fun e => by have := (h.ow.lt i e.symm).1; omega), Below.heap_alloc _ _ _ h1]
  refine ⟨⟨?_, ?_, ?_, ?_, ?_⟩, ?_, ?_, ?_, ?_, ?_, ?_, ?_⟩
  · rw [hg2.os]; exact hg.os.trans h.bl.os
  · rw [hg2.tape]; exact hg.tape.trans h.bl.tape
  · rw [hg2.output]; exact hg.output.trans h.bl.output
  · have h1 := hg2.size
    have h2 := hg.size
    simp at h1
    omega
  · intro k hk
    rw [hlow k (by omega), hg.block k (by omega) (fun e => by injection e with e; omega)]
    exact h.bl.block k hk
  · exact set_block hs (hlow _ (Nat.le_refl _))
  · simpa using ho
  · intro p hp
    rcases List.mem_append.1 hp with hp | hp
    · exact h.ls p hp
    · rw [List.mem_singleton.1 hp]
      exact hx
  · intro y hy
    rcases hsub y hy with hy | rfl
    · obtain ⟨p, hp, e⟩ := h.ky y hy
      exact ⟨p, by simp [hp], e⟩
    · exact ⟨(x, kidsT D), by simp, rfl⟩
  · intro p hp
    rcases List.mem_append.1 hp with hp | hp
    · obtain ⟨E, hE, h2⟩ := h.fr p hp
      exact ⟨E, by simp [hE], h2⟩
    · rw [List.mem_singleton.1 hp]
      exact ⟨D, by simp, rfl⟩
  · have := h.tt
    unfold totL at this ⊢
    simp only [List.map_append, List.sum_append, List.map_cons, List.map_nil, List.sum_cons, List.sum_nil]
    rw [show sizeT (n + 1) D = 1 + ((kidsT D).map (sizeT n)).sum from rfl]
    omega
  · intro hu E hE hne
    rcases List.mem_append.1 hE with hE | hE
    · obtain ⟨p, hp, e⟩ := h.al hu E hE hne
      exact ⟨p, by simp [hp], e⟩
    · rw [List.mem_singleton.1 hE]
      exact ⟨(x, kidsT D), by simp, rfl⟩

end
end Go.Proofs.YtfjlkkohccihnabGreatDoor

/- types.listOf, types.nextLevel, types.Height by contracts. -/
namespace Go.Proofs.YtfjlkkohccihnabGreatDoor
open Go.RowKit

theorem unit_zero : (zeroValue 200).run Tryz.prog = fun w => .ok (.agg #[]) w := by funext w; kernel_rfl
theorem flat_take (Ls : List (List Ty)) (i : Nat) (hi : i < Ls.length) : (Ls.take (i + 1)).flatten = (Ls.take i).flatten ++ Ls[i] := by
  rw [List.take_succ_eq_append_getElem hi, List.flatten_append]
  simp

theorem sum_flat (f : Ty → Nat) : ∀ (Ls : List (List Ty)), (Ls.flatten.map f).sum = (Ls.map fun L => (L.map f).sum).sum
  | [] => rfl
  | L :: Ls => by rw [List.flatten_cons, List.map_append, List.sum_append, sum_flat f Ls]; simp

theorem one_new (W : World) (x : Value) (t : TypeId) : ∀ j u, ([x] : List Value)[j]? = some u → (W.alloc (.cells #[x] t)).cell? ((⟨W.heap.size, 0, none⟩ : Addr).add j) = some u := by
  intro j u hj
  cases j with
  | zero =>
    have hadd : (⟨W.heap.size, 0, none⟩ : Addr).add 0 = ⟨W.heap.size, 0, none⟩ := by simp [Addr.add]
    rw [hadd, cell_of_row _ _ 0 _ t (0, 0) (heap_alloc_last W _)]
    simpa using hj
  | succ j => simp at hj

theorem sum_take_le (l : List Nat) (k : Nat) : (l.take k).sum ≤ l.sum := by
  have := List.take_append_drop k l
  conv => rhs; rw [← this, List.sum_append]
  omega

theorem done_le {n : Nat} (qs : List (Value × List Ty)) (j k : Nat) (hj : j < qs.length) : ((((qs.map (·.2)).take j).flatten ++ (qs[j].2).take k).map (sizeT n)).sum ≤ totL n qs := by
  have h1 : ((((qs.map (·.2)).take j).flatten ++ (qs[j].2).take k).map (sizeT n)).sum ≤ (((qs.map (·.2)).take (j + 1)).flatten.map (sizeT n)).sum := by
    rw [flat_take _ _ (by simpa using hj), List.getElem_map, List.map_append, List.map_append, List.sum_append, List.sum_append, List.map_take]
    have := sum_take_le ((qs[j].2).map (sizeT n)) k
    omega
  refine Nat.le_trans h1 ?_
  rw [sum_flat, List.map_take, List.map_map]
  exact sum_take_le _ _

end Go.Proofs.YtfjlkkohccihnabGreatDoor

/- Levels of expressions: lists of nodes that lie in memory, and the lists within them; what a round of tree.nextLevel keeps. -/
namespace Go.Proofs.YtfjlkkohccihnabGreatDoor
open Go.RowKit

/-- A list of types, at least one. -/
def NLst (w : World) (_ : Bool) (n : Nat) (x : Value) (ks : List Ty) : Prop :=
  ∃ b o c, x = .slice (some ⟨b, o, none⟩) ks.length c ∧ ks ≠ [] ∧ ks.length ≤ reachBytes ∧ NKids w n (some ⟨b, o, none⟩) ks

theorem NLst.good {w : World} {u : Bool} {n : Nat} {x : Value} {ks : List Ty} (h : NLst w u n x ks) : ∃ b o c, x = .slice (some ⟨b, o, none⟩) ks.length c ∧ b < w.heap.size ∧ GoodA w ⟨b, o, none⟩ ∧ (u = true → PlainA w ⟨b, o, none⟩) ∧ ks ≠ [] ∧ ks.length ≤ reachBytes := by
  obtain ⟨b, o, c, rfl, hne, hl, hk⟩ := h
  rcases hk with hk | ⟨b', o', e, hcl, hc⟩
  · exact absurd hk hne
  · injection e with e
    injection e with e1 e2
    subst e1 e2
    have hp : PlainA w ⟨b, o, none⟩ := hcl
    exact ⟨b, o, c, rfl, clean_lt hcl, hp.good, fun _ => hp, hne, hl⟩

/-- One place and one length are one list. -/
theorem nlst_det {w : World} {u u' : Bool} {n m : Nat} {x x' : Value} {ks ks' : List Ty} (h : NLst w u n x ks) (h' : NLst w u' m x' ks') (he : keyOfV x = keyOfV x') : ks = ks' := by
  obtain ⟨b, o, c, rfl, _, _, hk⟩ := h
  obtain ⟨b', o', c', rfl, _, _, hk'⟩ := h'
  obtain ⟨e1, e2⟩ := keyV_inj he
  injection e1 with e3 e4
  subst e3 e4
  exact nkids_det hk hk' e2

theorem nlst_below {w w' : World} {u : Bool} {n : Nat} {x : Value} {ks : List Ty} (h : NLst w u n x ks) (hb : Below w.heap.size w w') : NLst w' u n x ks := by
  obtain ⟨b, o, c, h1, h2, h3, h4⟩ := h
  exact ⟨b, o, c, h1, h2, h3, nkids_below h4 hb⟩

/-- What a round keeps. -/
structure NLev (w0 wr : World) (u : Bool) (n : Nat) (v : Value) (done : List Ty) (ps : List (Value × List Ty)) (vs : List Value) : Prop where
  bl : Below w0.heap.size w0 wr
  st : SetAt wr w0.heap.size vs
  ow : wr.ownsRow (w0.heap.size + 1) 25 1 v ps.length (ps.map (·.1))
  ls : ∀ p ∈ ps, NLst w0 u n p.1 p.2
  ky : ∀ y ∈ vs, ∃ p ∈ ps, y = keyOfV p.1
  fr : ∀ p ∈ ps, ∃ D ∈ done, p.2 = kidsT D
  tt : totL n ps ≤ (done.map (sizeT (n + 1))).sum
  al : u = true → ∀ D ∈ done, kidsT D ≠ [] → ∃ p ∈ ps, p.2 = kidsT D

section
variable {w0 wr wr' : World} {u : Bool} {n : Nat} {v : Value} {done : List Ty} {ps : List (Value × List Ty)} {vs : List Value}

theorem NLev.sz (h : NLev w0 wr u n v done ps vs) : w0.heap.size < wr.heap.size := set_lt h.st

theorem NLev.grow (h : NLev w0 wr u n v done ps vs) (hg : wr.grownBy wr' none) : NLev w0 wr' u n v done ps vs where
  bl := h.bl.grown hg h.bl.size (fun k hk => by cases hk)
  st := set_block h.st (hg.block _ h.sz (by simp))
  ow := h.ow.kept hg (by cases h1 : v.ownBlock <;> simp)
  ls := h.ls
  ky := h.ky
  fr := h.fr
  tt := h.tt
  al := h.al

theorem NLev.goodK (h : NLev w0 wr u n v done ps vs) : ∀ y ∈ vs, GoodK wr y := by
  intro y hy
  obtain ⟨p, hp, rfl⟩ := h.ky y hy
  obtain ⟨b, o, c, e, _, hg, _⟩ := (h.ls p hp).good
  rw [e]
  exact ⟨_, _, rfl, hg.below h.bl⟩

theorem NLev.plainK (h : NLev w0 wr u n v done ps vs) (hu : u = true) : ∀ y ∈ vs, PlainK wr y := by
  intro y hy
  obtain ⟨p, hp, rfl⟩ := h.ky y hy
  obtain ⟨b, o, c, e, _, _, hg, _⟩ := (h.ls p hp).good
  rw [e]
  exact ⟨_, _, rfl, clean_below (hg hu) h.bl⟩

theorem NLev.skip (h : NLev w0 wr u n v done ps vs) {D : Ty} (hD : kidsT D = []) : NLev w0 wr u n v (done ++ [D]) ps vs where
  bl := h.bl
  st := h.st
  ow := h.ow
  ls := h.ls
  ky := h.ky
  fr p hp := by
    obtain ⟨E, hE, h2⟩ := h.fr p hp
    exact ⟨E, by simp [hE], h2⟩
  tt := by
    have := h.tt
    simp
    omega
  al hu E hE hne := by
    rcases List.mem_append.1 hE with hE | hE
    · exact h.al hu E hE hne
    · rw [List.mem_singleton.1 hE] at hne
      exact absurd hD hne

theorem NLev.had (h : NLev w0 wr u n v done ps vs) {D : Ty} {x : Value} (hx : NLst w0 u n x (kidsT D)) (hf : ∃ y ∈ vs, PlainK wr (keyOfV x) → (∀ z ∈ vs, PlainK wr z) → y = keyOfV x) : NLev w0 wr u n v (done ++ [D]) ps vs where
  bl := h.bl
  st := h.st
  ow := h.ow
  ls := h.ls
  ky := h.ky
  fr p hp := by
    obtain ⟨E, hE, h2⟩ := h.fr p hp
    exact ⟨E, by simp [hE], h2⟩
  tt := by
    have := h.tt
    simp
    omega
  al hu E hE hne := by
    rcases List.mem_append.1 hE with hE | hE
    · exact h.al hu E hE hne
    · rw [List.mem_singleton.1 hE]
      obtain ⟨y, hy, hp⟩ := hf
      obtain ⟨b, o, c, e, _, _, hg, _⟩ := hx.good
      have hyx := hp (by rw [e]; exact ⟨_, _, rfl, clean_below (hg hu) h.bl⟩) (h.plainK hu)
      obtain ⟨p, hpm, he⟩ := h.ky y hy
      exact ⟨p, hpm, nlst_det (h.ls p hpm) hx (he.symm.trans hyx)⟩

/-- One more: the set first, then the list. -/
theorem NLev.add {w1 w2 : World} {vs' : List Value} {v' : Value} (h : NLev w0 wr u n v done ps vs) {D : Ty} {x : Value} (hx : NLst w0 u n x (kidsT D)) (hs : SetAt w1 w0.heap.size vs') (hg : wr.grownBy w1 (some w0.heap.size))
    (hsub : ∀ y ∈ vs', y ∈ vs ∨ y = keyOfV x) {o : Obj} (ho : w2.ownsRow (w0.heap.size + 1) 25 1 v' (ps.length + 1) (ps.map (·.1) ++ [x])) (hg2 : (w1.alloc o).grownBy w2 v.ownBlock) :
    NLev w0 w2 u n v' (done ++ [D]) (ps ++ [(x, kidsT D)]) vs' := by
  have hsz := h.sz
  have hlow : ∀ i, i ≤ w0.heap.size → w2.heap[i]? = w1.heap[i]? := fun i hi => by
    have h1 : i < w1.heap.size := Nat.lt_of_le_of_lt hi (Nat.lt_of_lt_of_le hsz hg.size)
    rw [hg2.block i (by simp; omega) (fun e => by have := (h.ow.lt i e.symm).1; omega), Below.heap_alloc _ _ _ h1]
  refine ⟨⟨?_, ?_, ?_, ?_, ?_⟩, ?_, ?_, ?_, ?_, ?_, ?_, ?_⟩
  · rw [hg2.os]; exact hg.os.trans h.bl.os
  · rw [hg2.tape]; exact hg.tape.trans h.bl.tape
  · rw [hg2.output]; exact hg.output.trans h.bl.output
  · have h1 := hg2.size
    have h2 := hg.size
    simp at h1
    omega
  · intro k hk
    rw [hlow k (by omega), hg.block k (by omega) (fun e => by injection e with e; omega)]
    exact h.bl.block k hk
  · exact set_block hs (hlow _ (Nat.le_refl _))
  · simpa using ho
  · intro p hp
    rcases List.mem_append.1 hp with hp | hp
    · exact h.ls p hp
    · rw [List.mem_singleton.1 hp]
      exact hx
  · intro y hy
    rcases hsub y hy with hy | rfl
    · obtain ⟨p, hp, e⟩ := h.ky y hy
      exact ⟨p, by simp [hp], e⟩
    · exact ⟨(x, kidsT D), by simp, rfl⟩
  · intro p hp
    rcases List.mem_append.1 hp with hp | hp
    · obtain ⟨E, hE, h2⟩ := h.fr p hp
      exact ⟨E, by simp [hE], h2⟩
    · rw [List.mem_singleton.1 hp]
      exact ⟨D, by simp, rfl⟩
  · have := h.tt
    unfold totL at this ⊢
    simp only [List.map_append, List.sum_append, List.map_cons, List.map_nil, List.sum_cons, List.sum_nil]
    rw [show sizeT (n + 1) D = 1 + ((kidsT D).map (sizeT n)).sum from rfl]
    omega
  · intro hu E hE hne
    rcases List.mem_append.1 hE with hE | hE
    · obtain ⟨p, hp, e⟩ := h.al hu E hE hne
      exact ⟨p, by simp [hp], e⟩
    · rw [List.mem_singleton.1 hE]
      exact ⟨(x, kidsT D), by simp, rfl⟩

theorem ntot_len {w : World} : ∀ {ps : List (Value × List Ty)}, (∀ p ∈ ps, NLst w u n p.1 p.2) → ps.length ≤ totL n ps
  | [], _ => Nat.zero_le _
  | p :: ps, h => by
    have ih := ntot_len (ps := ps) fun q hq => h q (by simp [hq])
    unfold totL at ih ⊢
    obtain ⟨b, o, c, _, hne, _, hk⟩ := h p (by simp)
    have h1 : 1 ≤ (p.2.map (sizeT n)).sum := by
      rcases hk with hk | ⟨_, _, _, _, hc⟩
      · exact absurd hk hne
      · obtain ⟨_, _, _, _, _, _, _, _, ht⟩ := hc 0 (List.length_pos_iff.2 hne)
        obtain ⟨m, rfl⟩ : ∃ m, n = m + 1 := by
          cases n with
          | zero => exact ht.elim
          | succ m => exact ⟨m, rfl⟩
        obtain ⟨D, ks, e⟩ := List.exists_cons_of_ne_nil hne
        rw [e, List.map_cons, List.sum_cons]
        have := size_pos (n := m) (D := D)
        omega
    simp only [List.map_cons, List.sum_cons, List.length_cons]
    omega
end
end Go.Proofs.YtfjlkkohccihnabGreatDoor
