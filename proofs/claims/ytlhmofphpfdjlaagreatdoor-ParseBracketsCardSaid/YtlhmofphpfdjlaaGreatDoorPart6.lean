/- Part. -/
import Derived.LaidEql
import Derived.Maps.OwnSet
import Derived.ChangeKeysEq
import Derived.Test.YtlhmofphpfdjlaaGreatDoorPart5
set_option maxRecDepth 100000
set_option maxHeartbeats 4000000
/- Expressions that lie in memory, those that have no Types and no Names: their trees (a number N is N empty names). -/
namespace Go.Proofs.YtlhmofphpfdjlaaGreatDoor
open Go.Proofs.Tryz
open Go.RowKit
/-- What a node bears beside: its place, and where its empty lists lie. -/
structure PX where
  li : Int
  co : Int
  ta : Option Addr
  tc : Nat
  na : Option Addr
  nc : Nat
abbrev ndV (k : Nat) (tx : ByteArray) (N : Nat) (pq : PX) (ka : Option Addr) (kl kc : Nat) : Value := .agg #[.int .i64 k, .string tx, .int .i64 N, .int .i64 pq.li, .int .i64 pq.co, .slice pq.ta 0 pq.tc, .slice pq.na 0 pq.nc, .slice ka kl kc]
abbrev ndO (k : Nat) (tx : ByteArray) (N : Nat) (pq : PX) (ka : Option Addr) (kl kc : Nat) : Obj := .cells #[.int .i64 k, .string tx, .int .i64 N, .int .i64 pq.li, .int .i64 pq.co, .slice pq.ta 0 pq.tc, .slice pq.na 0 pq.nc, .slice ka kl kc] 27
def mkN (k : Nat) (tx : List UInt8) (N : Nat) (ks : List Ty) : Ty := mkT k tx (List.replicate N []) ks
/-- The eight cells of a node. -/
def NCells (w : World) (b o : Nat) (k : Nat) (tx : ByteArray) (N : Nat) (pq : PX) (ka : Option Addr) (kl kc : Nat) : Prop :=
  w.cell? ⟨b, o, none⟩ = some (.int .i64 k) /\ w.cell? ⟨b, o + 1, none⟩ = some (.string tx) /\ w.cell? ⟨b, o + 2, none⟩ = some (.int .i64 N) /\ w.cell? ⟨b, o + 3, none⟩ = some (.int .i64 pq.li) /\ w.cell? ⟨b, o + 4, none⟩ = some (.int .i64 pq.co) /\
  w.cell? ⟨b, o + 5, none⟩ = some (.slice pq.ta 0 pq.tc) /\ w.cell? ⟨b, o + 6, none⟩ = some (.slice pq.na 0 pq.nc) /\ w.cell? ⟨b, o + 7, none⟩ = some (.slice ka kl kc)
def NRow (w : World) (T : Nat -> ByteArray -> Nat -> PX -> Option Addr -> Nat -> Nat -> Ty -> Prop) (ka : Option Addr) (ks : List Ty) : Prop :=
  ks = [] ∨ ∃ b o, ka = some ⟨b, o, none⟩ /\ CleanB w b /\ ∀ i (h : i < ks.length), ∃ k tx N pq la ll lc, NCells w b (o + i * 8) k tx N pq la ll lc /\ T k tx N pq la ll lc ks[i]
/-- These parts are a node, at most n deep, whose tree is D. -/
def NdAt (w : World) : Nat -> Nat -> ByteArray -> Nat -> PX -> Option Addr -> Nat -> Nat -> Ty -> Prop
  | 0, _, _, _, _, _, _, _, _ => False
  | n + 1, k, tx, N, _, ka, kl, kc, D => ∃ ks : List Ty, kl = ks.length /\ D = mkN k tx.data.toList N ks /\ k <= 1000 /\ tx.size <= 1000 /\ N <= 1000 /\ 0 <= kc /\ ks.length <= 1000 /\ NRow w (NdAt w n) ka ks
abbrev NKids (w : World) (n : Nat) (ka : Option Addr) (ks : List Ty) : Prop := NRow w (NdAt w n) ka ks
section
variable {w w' : World} {n m : Nat} {k : Nat} {tx : ByteArray} {N : Nat} {pq : PX} {ka : Option Addr} {kl kc : Nat} {D : Ty} {ks : List Ty}
theorem NCells.below {b o : Nat} (h : NCells w b o k tx N pq ka kl kc) (hlt : b < w.heap.size) (hb : Below w.heap.size w w') : NCells w' b o k tx N pq ka kl kc := by
  obtain ⟨h0, h1, h2, h3, h4, h5, h6, h7⟩ := h
  exact ⟨(hb.cell (p := ⟨b, o, none⟩) hlt).trans h0, (hb.cell (p := ⟨b, o + 1, none⟩) hlt).trans h1, (hb.cell (p := ⟨b, o + 2, none⟩) hlt).trans h2, (hb.cell (p := ⟨b, o + 3, none⟩) hlt).trans h3, (hb.cell (p := ⟨b, o + 4, none⟩) hlt).trans h4, (hb.cell (p := ⟨b, o + 5, none⟩) hlt).trans h5, (hb.cell (p := ⟨b, o + 6, none⟩) hlt).trans h6, (hb.cell (p := ⟨b, o + 7, none⟩) hlt).trans h7⟩
theorem nd_below (h : NdAt w n k tx N pq ka kl kc D) (hb : Below w.heap.size w w') : NdAt w' n k tx N pq ka kl kc D := by
  induction n generalizing k tx N pq ka kl kc D with
  | zero => exact h.elim
  | succ n ih =>
    obtain ⟨ks, e1, e2, h1, h2, h3, h4, h5, h6⟩ := h
    refine ⟨ks, e1, e2, h1, h2, h3, h4, h5, ?_⟩
    rcases h6 with h6 | ⟨b, o, e, hcl, hc⟩
    · exact .inl h6
    · refine .inr ⟨b, o, e, clean_below hcl hb, fun i hi => ?_⟩
      obtain ⟨k, tx, N, pq, la, ll, lc, q, ht⟩ := hc i hi
      exact ⟨k, tx, N, pq, la, ll, lc, q.below (clean_lt hcl) hb, ih ht⟩
theorem nkids_below (h : NKids w n ka ks) (hb : Below w.heap.size w w') : NKids w' n ka ks := by
  rcases h with h6 | ⟨b, o, e, hcl, hc⟩
  · exact .inl h6
  · refine .inr ⟨b, o, e, clean_below hcl hb, fun i hi => ?_⟩
    obtain ⟨k, tx, N, pq, la, ll, lc, q, ht⟩ := hc i hi
    exact ⟨k, tx, N, pq, la, ll, lc, q.below (clean_lt hcl) hb, nd_below ht hb⟩
theorem nkid_at (h : NKids w n ka ks) {i : Nat} (hi : i < ks.length) : ∃ b o k tx N pq la ll lc, ka = some ⟨b, o, none⟩ /\ b < w.heap.size /\ NCells w b (o + i * 8) k tx N pq la ll lc /\ NdAt w n k tx N pq la ll lc ks[i] := by
  rcases h with rfl | ⟨b, o, rfl, hcl, hc⟩
  · cases hi
  · obtain ⟨k, tx, N, pq, la, ll, lc, q, ht⟩ := hc i hi
    exact ⟨b, o, k, tx, N, pq, la, ll, lc, rfl, clean_lt hcl, q, ht⟩
theorem nd_det {D' : Ty} (h : NdAt w n k tx N pq ka kl kc D) (h' : NdAt w m k tx N pq ka kl kc D') : D = D' := by
  induction n generalizing m k tx N pq ka kl kc D D' with
  | zero => exact h.elim
  | succ n ih =>
    cases m with
    | zero => exact h'.elim
    | succ m =>
      obtain ⟨ks, e1, rfl, _, _, _, _, _, h6⟩ := h
      obtain ⟨ks', e1', rfl, _, _, _, _, _, h6'⟩ := h'
      have hl : ks.length = ks'.length := by omega
      have : ks = ks' := by
        rcases h6 with rfl | ⟨b, o, rfl, _, hc⟩
        · exact (List.length_eq_zero_iff.1 hl.symm).symm
        · rcases h6' with rfl | ⟨b', o', ha, _, hc'⟩
          · exact List.length_eq_zero_iff.1 hl
          · injection ha with ha
            injection ha with hb ho
            subst hb ho
            refine List.ext_getElem hl fun i h1 h2 => ?_
            obtain ⟨k, tx, N, pq, la, ll, lc, ⟨q0, q1, q2, q3, q4, q5, q6, q7⟩, ht⟩ := hc i h1
            obtain ⟨k', tx', N', pq', la', ll', lc', ⟨p0, p1, p2, p3, p4, p5, p6, p7⟩, ht'⟩ := hc' i h2
            have e0 := Option.some.inj (q0.symm.trans p0)
            have e1 := Option.some.inj (q1.symm.trans p1)
            have e2 := Option.some.inj (q2.symm.trans p2)
            have e3 := Option.some.inj (q3.symm.trans p3)
            have e4 := Option.some.inj (q4.symm.trans p4)
            have e5 := Option.some.inj (q5.symm.trans p5)
            have e6 := Option.some.inj (q6.symm.trans p6)
            have e7 := Option.some.inj (q7.symm.trans p7)
            injection e0 with _ e0
            injection e1 with e1
            injection e2 with _ e2
            injection e3 with _ e3
            injection e4 with _ e4
            injection e5 with e5 _ e5c
            injection e6 with e6 _ e6c
            have eP : pq = pq' := by cases pq; cases pq'; simp_all
            injection e7 with e7 e8 e9
            have e0' : k = k' := by omega
            have e2' : N = N' := by omega
            subst e0' e1 e2' eP e7 e8 e9
            exact ih ht ht'
      rw [this]
theorem nkids_det {ks' : List Ty} (h : NKids w n ka ks) (h' : NKids w m ka ks') (hl : ks.length = ks'.length) : ks = ks' := by
  rcases h with rfl | ⟨b, o, rfl, _, hc⟩
  · exact (List.length_eq_zero_iff.1 hl.symm).symm
  · rcases h' with rfl | ⟨b', o', ha, _, hc'⟩
    · exact List.length_eq_zero_iff.1 hl
    · injection ha with ha
      injection ha with hb ho
      subst hb ho
      refine List.ext_getElem hl fun i h1 h2 => ?_
      obtain ⟨k, tx, N, pq, la, ll, lc, ⟨q0, q1, q2, q3, q4, q5, q6, q7⟩, ht⟩ := hc i h1
      obtain ⟨k', tx', N', pq', la', ll', lc', ⟨p0, p1, p2, p3, p4, p5, p6, p7⟩, ht'⟩ := hc' i h2
      have e0 := Option.some.inj (q0.symm.trans p0)
      have e1 := Option.some.inj (q1.symm.trans p1)
      have e2 := Option.some.inj (q2.symm.trans p2)
      have e3 := Option.some.inj (q3.symm.trans p3)
      have e4 := Option.some.inj (q4.symm.trans p4)
      have e5 := Option.some.inj (q5.symm.trans p5)
      have e6 := Option.some.inj (q6.symm.trans p6)
      have e7 := Option.some.inj (q7.symm.trans p7)
      injection e0 with _ e0
      injection e1 with e1
      injection e2 with _ e2
      injection e3 with _ e3
      injection e4 with _ e4
      injection e5 with e5 _ e5c
      injection e6 with e6 _ e6c
      have eP : pq = pq' := by cases pq; cases pq'; simp_all
      injection e7 with e7 e8 e9
      have e0' : k = k' := by omega
      have e2' : N = N' := by omega
      subst e0' e1 e2' eP e7 e8 e9
      exact nd_det ht ht'
end
/-- The cells of a row of eight. -/
theorem nd_facts {w1 : World} {b : Nat} {k : Nat} {tx : ByteArray} {N : Nat} {pq : PX} {ka : Option Addr} {kl kc : Nat} (h : w1.heap[b]? = some (ndO k tx N pq ka kl kc)) : NCells w1 b 0 k tx N pq ka kl kc /\ b < w1.heap.size := by
  refine ⟨⟨?_, ?_, ?_, ?_, ?_, ?_, ?_, ?_⟩, lt_of_block h⟩
  all_goals (rw [cell_of_row _ _ _ _ _ _ h]; rfl)
end Go.Proofs.YtlhmofphpfdjlaaGreatDoor
/- What tree asks of a node: its text, its N, its Kids; by contracts. -/
namespace Go.Proofs.YtlhmofphpfdjlaaGreatDoor
open Go.Proofs.Tryz
open Go.RowKit
/-- The operations of two. -/
def opsV : List (List UInt8) := [[111, 114], [97, 110, 100], [60], [60, 61], [61, 61], [43, 43], [43], [45], [94], [42], [47], [37], [38], [60, 60], [62, 62]]
def opB (i : Nat) : ByteArray := ⟨(opsV.getD i []).toArray⟩
def OpsN (w : World) : Prop := ∀ i, i < 15 -> w.cell? ⟨5, i, none⟩ = some (.string (opB i))
theorem OpsN.lt {w : World} (h : OpsN w) : 5 < w.heap.size := World.block_lt_of_cell? w _ (h 0 (by decide))
theorem OpsN.below {w w' : World} (h : OpsN w) (hb : Below w.heap.size w w') : OpsN w' := fun i hi => (hb.cell (show 5 < w.heap.size from h.lt)).trans (h i hi)
def opsA : List Value := (List.range 15).map fun i => .string (opB i)
theorem ops_at (i : Nat) (hi : i < 15) : opsA[i]? = some (.string (opB i)) := by simp [opsA, hi]
theorem OpsN.range {w : World} (h : OpsN w) : w.rangeAt 5 0 opsA := by
  intro j v hv
  have hj : j < 15 := by
    have := (List.getElem?_eq_some_iff.1 hv).1
    simpa [opsA] using this
  rw [ops_at j hj] at hv
  injection hv with hv
  rw [<- hv, Nat.zero_add]
  exact h j hj
theorem ops_size : (prog.info? 170).map (·.size) = some opsA.length := by kernel_rfl
def noOp (s : ByteArray) (k : Nat) : Prop := ∀ i, i < k -> s ≠ opB i
theorem ops_mem (s : ByteArray) : opsV.contains s.data.toList = true ↔ ∃ i, i < 15 /\ s = opB i := by
  rw [List.contains_iff_mem]
  constructor
  · intro h
    obtain ⟨i, hi, e⟩ := List.mem_iff_getElem.1 h
    refine ⟨i, hi, ?_⟩
    unfold opB
    rw [List.getD_eq_getElem?_getD, List.getElem?_eq_getElem hi, Option.getD_some, e]
  · rintro ⟨i, hi, e⟩
    rw [e]
    unfold opB
    rw [List.getD_eq_getElem?_getD, List.getElem?_eq_getElem (show i < opsV.length from hi), Option.getD_some]
    exact List.getElem_mem ..
theorem ops_index {A : List Value} {k : Nat} {t : ByteArray} (hk : k < 15) (h : A[k]? = some (.string t)) (w : World) :
    (Instr.index 170 (.agg A.toArray) (.int .i64 k)).run prog w = .ok (.string t) w := by
  have hu := underlying170
  have ha := isAgg9
  have hz := sizeOf9
  simp [Instr.index, asIntOf, run_underlying hu, part, ha, hz, Result.andThen, hk]
  rw [h]
  rfl
theorem isOp_c (s : ByteArray) (w : World) (hw : OpsN w) :
    Calls prog 103 #[.string s] w fun e w' => e = .returned (.bool (opsV.contains s.data.toList)) /\ w' = w := by
  obtain ⟨b, hb⟩ : ∃ b, b = opsV.contains s.data.toList := ⟨_, rfl⟩
  rw [<- hb]
  have HB := hideP hb
  clear hb
  have hr := hideP hw.range
  obtain ⟨A, hA⟩ : ∃ A, A = opsA := ⟨_, rfl⟩
  have hat := ops_at
  have hsz := ops_size
  rw [<- hA] at hr hat hsz
  clear hA hw
  have HA := hideP hat
  clear hat
  go_enter func103, ntmps103
  go_wp2_with (refine wpList_load_mid rfl 170 (.global 5) rfl 5 0 rfl A (.array 15 9) hr.out underlying170 rfl hsz ?_)
  go_loop [6] (fun i => ∃ k : Nat, k <= 15 /\ i = .int .i64 k /\ Hid (noOp s k)) (fun i => 15 - (intOf i).toNat)
  case atStart => exact ⟨0, by omega, rfl, fun i hi => by omega⟩
  case round =>
    obtain ⟨k, hk, rfl, hno⟩ := hrel
    by_cases hlt : k < 15
    · have hAk := HA.out k hlt
      obtain ⟨t, ht⟩ : ∃ t, t = opB k := ⟨_, rfl⟩
      rw [<- ht] at hAk
      have hix := ops_index hlt hAk w
      clear hAk
      have HT := hideP ht
      clear ht
      cases hq : (s.toList == t.toList)
      · have hno' : Hid (noOp s (k + 1)) := fun i hi => by
          by_cases hik : i = k
          · subst hik; rw [<- HT.out]; exact str_ne hq
          · exact hno.out i (by omega)
        go_wp2
        go_round
        case rel => exact ⟨k + 1, by omega, by go_num, hno'⟩
        case measure => simp [intOf]; omega
      · have e : b = true := by
          rw [HB.out]
          exact (ops_mem s).2 ⟨k, hlt, (str_eq.1 hq).trans HT.out⟩
        subst e
        go_wp2
        go_ret
        exact ⟨rfl, rfl⟩
    · have e : b = false := by
        rw [HB.out, Bool.eq_false_iff]
        intro h
        obtain ⟨i, hi, e⟩ := (ops_mem s).1 h
        exact hno.out i (by omega) e
      subst e
      go_wp2
      go_ret
      exact ⟨rfl, rfl⟩
theorem text_op (s : ByteArray) (w : World) (hw : OpsN w) : Calls prog 73 #[.string s, .int .i64 3] w fun e w' => e = .returned (.bool (opsV.contains s.data.toList)) /\ w' = w := by
  have HC := hideP (isOp_c s w hw)
  clear hw
  generalize opsV.contains s.data.toList = b at HC
  go_enter func73, ntmps73
  go_wp2_with fail
  refine HC.out.mono ?_
  rintro e w' ⟨rfl, rfl⟩
  go_wp2_with fail
  go_ret
  exact ⟨rfl, rfl⟩
theorem text_name (s : ByteArray) (hs : s.size <= 1000) (w : World) (hw : Words w) : Calls prog 73 #[.string s, .int .i64 1] w fun e w' => e = .returned (.bool (nameV s.data.toList)) /\ w' = w := by
  have HC := hideP (name_c s (by omega) w hw)
  clear hw
  generalize nameV s.data.toList = b at HC
  go_enter func73, ntmps73
  go_wp2_with fail
  refine HC.out.mono ?_
  rintro e w' ⟨rfl, rfl⟩
  go_wp2_with fail
  go_ret
  exact ⟨rfl, rfl⟩
theorem allNone_c (a : Option Addr) (c : Nat) (w : World) : Calls prog 75 #[.slice a 0 c, .func (.func 76) #[] #[]] w fun e w' => e = .returned (.bool true) /\ w' = w := by
  go_enter func75, ntmps75
  go_wp2_with fail
  go_loopw [9] (fun i wx => i = .int .i64 0 /\ wx = w) (fun _ _ => 0)
  case atStart => exact ⟨rfl, rfl⟩
  case round =>
    obtain ⟨rfl, rfl⟩ := hrel
    go_wp2_with fail
    go_ret
    exact ⟨rfl, by first | rfl | trivial⟩
/-- What a node may have, by its kind: text, most N, Types, Kids, whether it is named; as the package's table lays it. -/
def formN (k : Nat) : Nat × Nat × Nat × Nat × Nat × Nat × Bool :=
  [(0, 9223372036854775807, 0, 0, 0, 0, false), (2, 0, 0, 0, 0, 0, false), (0, 1, 0, 0, 0, 0, false), (0, 0, 0, 0, 0, 0, false), (1, 0, 0, 0, 0, 0, false), (1, 0, 0, 1, 2, 2, false), (1, 0, 1, 2, 1, 1, false), (0, 0, 0, 0, 2, 2, false), (0, 0, 0, 0, 0, 9223372036854775807, true), (1, 0, 0, 0, 1, 1, false),
   (1, 0, 0, 0, 2, 2, false), (0, 0, 0, 0, 3, 3, false), (0, 5, 0, 0, 1, 1, false), (0, 0, 1, 1, 1, 1, false), (3, 0, 0, 0, 2, 2, false), (0, 0, 0, 0, 1, 1, false), (0, 0, 0, 0, 1, 1, false), (0, 0, 0, 0, 1, 1, false), (0, 0, 0, 0, 0, 0, false), (1, 0, 1, 9223372036854775807, 0, 0, false)].getD k (0, 0, 0, 0, 0, 0, false)
def FormsN (w : World) : Prop := ∀ k, k < 20 -> w.cell? ⟨2, k * 7, none⟩ = some (.int .i64 (formN k).1) /\ w.cell? ⟨2, k * 7 + 1, none⟩ = some (.int .i64 (formN k).2.1) /\ w.cell? ⟨2, k * 7 + 2, none⟩ = some (.int .i64 (formN k).2.2.1) /\ w.cell? ⟨2, k * 7 + 3, none⟩ = some (.int .i64 (formN k).2.2.2.1) /\
  w.cell? ⟨2, k * 7 + 4, none⟩ = some (.int .i64 (formN k).2.2.2.2.1) /\ w.cell? ⟨2, k * 7 + 5, none⟩ = some (.int .i64 (formN k).2.2.2.2.2.1) /\ w.cell? ⟨2, k * 7 + 6, none⟩ = some (.bool (formN k).2.2.2.2.2.2)
theorem FormsN.lt {w : World} (h : FormsN w) : 2 < w.heap.size := World.block_lt_of_cell? w _ (h 0 (by decide)).1
theorem FormsN.below {w w' : World} (h : FormsN w) (hb : Below w.heap.size w w') : FormsN w' := fun k hk => by
  obtain ⟨h0, h1, h2, h3, h4, h5, h6⟩ := h k hk
  have hl : 2 < w.heap.size := h.lt
  exact ⟨(hb.cell hl).trans h0, (hb.cell hl).trans h1, (hb.cell hl).trans h2, (hb.cell hl).trans h3, (hb.cell hl).trans h4, (hb.cell hl).trans h5, (hb.cell hl).trans h6⟩
theorem frm_facts {w1 : World} {b : Nat} {y0 y1 y2 y3 y4 y5 y6 : Value} {t : TypeId} (h : w1.heap[b]? = some (.cells #[y0, y1, y2, y3, y4, y5, y6] t)) :
    (w1.cell? ⟨b, 0, none⟩ = some y0 /\ w1.cell? ⟨b, 1, none⟩ = some y1 /\ w1.cell? ⟨b, 2, none⟩ = some y2 /\ w1.cell? ⟨b, 3, none⟩ = some y3 /\ w1.cell? ⟨b, 4, none⟩ = some y4 /\ w1.cell? ⟨b, 5, none⟩ = some y5 /\ w1.cell? ⟨b, 6, none⟩ = some y6) /\ b < w1.heap.size := by
  refine ⟨⟨?_, ?_, ?_, ?_, ?_, ?_, ?_⟩, lt_of_block h⟩
  all_goals (rw [cell_of_row _ _ _ _ _ _ h]; rfl)
theorem fitsN_one (k : Nat) (tx : ByteArray) (N : Nat) (pq : PX) (ka : Option Addr) (kl kc : Nat) (tb : Bool) (w : World) (hk : k < 20) (hf : FormsN w) (hN : N <= (formN k).2.1) (ht : (formN k).2.2.1 = 0) (h1 : (formN k).2.2.2.2.1 <= kl) (h2 : kl <= (formN k).2.2.2.2.2.1) (hn : (formN k).2.2.2.2.2.2 = false) (_ : kl <= 1000) (_ : N <= 1000)
    (hT : ∀ wx, Below w.heap.size w wx -> Calls prog 73 #[.string tx, .int .i64 (formN k).1] wx fun e w' => e = .returned (.bool tb) /\ w' = wx) :
    Calls prog 39 #[ndV k tx N pq ka kl kc] w fun e w' => e = .returned (.bool tb) /\ Below w.heap.size w w' := by
  have hb0 := bl_alloc w (ndO k tx N pq ka kl kc)
  obtain ⟨f0, f1, f2, f3, f4, f5, f6⟩ := hf k hk
  rw [ht] at f2
  rw [hn] at f6
  have hlt := hf.lt
  obtain ⟨⟨t, mN, tl, tm, l, m, nb⟩, hq⟩ : ∃ q, q = formN k := ⟨_, rfl⟩
  rw [<- hq] at f0 f1 f3 f4 f5 hN h1 h2 hT
  simp only at f0 f1 f3 f4 f5 hN h1 h2 hT
  have HH := hideP (fun wx => holds_c l m kl h1 (by omega) wx)
  have HH0 := hideP (fun wx => holds_c 0 tm 0 (Nat.le_refl _) (by omega) wx)
  have HTX := hideP hT
  have HB0 := hideP hb0
  have k9 : ¬ (20 : Int) <= (k : Int) := by omega
  have k9' : (k : Int) < 20 := by omega
  have k0 : ¬ (k : Int) < 0 := by omega
  have n0 : ¬ (N : Int) < 0 := by omega
  have n1 : ¬ (mN : Int) < (N : Int) := by omega
  clear hq ht hn hf hT hb0
  go_enter func39, ntmps39
  go_wp2_with fail
  have HT : Hid (((w.alloc (ndO k tx N pq ka kl kc)).alloc (.cells #[.int .i64 t, .int .i64 mN, .int .i64 0, .int .i64 tm, .int .i64 l, .int .i64 m, .bool false] 124)).heap[w.heap.size]? = some (ndO k tx N pq ka kl kc)) := (Below.heap_alloc _ _ _ (by simp)).trans (heap_alloc_last w _)
  have HO : Hid (((w.alloc (ndO k tx N pq ka kl kc)).alloc (.cells #[.int .i64 t, .int .i64 mN, .int .i64 0, .int .i64 tm, .int .i64 l, .int .i64 m, .bool false] 124)).heap[w.heap.size + 1]? = some (.cells #[.int .i64 t, .int .i64 mN, .int .i64 0, .int .i64 tm, .int .i64 l, .int .i64 m, .bool false] 124)) := heap_at1 w _ _
  refine (HH0.out _).mono ?_
  rintro e w1 ⟨rfl, hb1⟩
  have HB1 := hideP (below_next (below_next HB0.out (bl_alloc _ _)) hb1)
  have HT1 := hideP ((hb1.block _ (lt_of_block HT.out)).trans HT.out)
  have HO1 := hideP ((hb1.block _ (lt_of_block HO.out)).trans HO.out)
  obtain ⟨⟨x0, x1, x2, x3, x4, x5, x6, x7⟩, hltx⟩ := nd_facts HT1.out
  obtain ⟨⟨y0, y1, y2, y3, y4, y5, y6⟩, hlty⟩ := frm_facts HO1.out
  simp only [Nat.zero_add] at x0 x1 x2 x3 x4 x5 x6 x7
  clear hb1 f0 f1 f2 f3 f4 f5 f6 HT HO
  go_wp2_with fail
  refine (HH.out _).mono ?_
  rintro e w2 ⟨rfl, hb2⟩
  have HB2 := hideP (below_next HB1.out hb2)
  have HT2 := hideP ((hb2.block _ (lt_of_block HT1.out)).trans HT1.out)
  have HO2 := hideP ((hb2.block _ (lt_of_block HO1.out)).trans HO1.out)
  clear hb2 x0 x1 x2 x3 x4 x5 x6 x7 y0 y1 y2 y3 y4 y5 y6 hltx hlty
  obtain ⟨⟨x0, x1, x2, x3, x4, x5, x6, x7⟩, hltx⟩ := nd_facts HT2.out
  obtain ⟨⟨y0, y1, y2, y3, y4, y5, y6⟩, hlty⟩ := frm_facts HO2.out
  simp only [Nat.zero_add] at x0 x1 x2 x3 x4 x5 x6 x7
  go_wp2_with fail
  refine (HTX.out _ HB2.out).mono ?_
  rintro e w3 ⟨rfl, rfl⟩
  cases tb
  · go_wp2_with fail
    go_ret
    exact ⟨rfl, HB2.out⟩
  · go_wp2_with fail
    refine (names_none pq.na pq.nc kl _).mono ?_
    rintro e w4 ⟨rfl, rfl⟩
    go_wp2_with fail
    refine (allNone_c _ _ _).mono ?_
    rintro e w5 ⟨rfl, rfl⟩
    go_wp2_with fail
    go_ret
    exact ⟨rfl, HB2.out⟩
end Go.Proofs.YtlhmofphpfdjlaaGreatDoor
/- Maps whose keys bear addresses: what a look-up and a store do, whatever marks the rows bear. -/
namespace Go.Proofs.YtlhmofphpfdjlaaGreatDoor
open Go.Proofs.Tryz
open Go.RowKit
/-- An address that may be held against others. -/
def GoodA (w : World) (a : Addr) : Prop := ∃ cs t fr, w.heap[a.block]? = some (.cells cs t fr) /\ w.frozen? a = false
/-- .. in a row that bears no mark. -/
def PlainA (w : World) (a : Addr) : Prop := CleanB w a.block
theorem PlainA.good {w : World} {a : Addr} (h : PlainA w a) : GoodA w a := by
  obtain ⟨cs, t, h⟩ := h
  exact ⟨cs, t, _, h, by simp [World.frozen?, h]⟩
theorem GoodA.below {w w' : World} {a : Addr} (h : GoodA w a) (hb : Below w.heap.size w w') : GoodA w' a := by
  obtain ⟨cs, t, fr, h, hf⟩ := h
  exact ⟨cs, t, fr, (hb.block _ (lt_of_block h)).trans h, (hb.frozen (lt_of_block h)).trans hf⟩
theorem drewN_zero (w : World) : w.drewN 0 = w := rfl
theorem run_sameAddr_any {P : Program} {w : World} {a b : Addr} (ha : GoodA w a) (hb : GoodA w b) :
    ∃ r n, (sameAddr a b).run P w = .ok r (w.drewN n) /\ (a = b -> r = true) /\ (PlainA w a -> PlainA w b -> (r = true -> a = b)) := by
  by_cases hbl : a.block = b.block
  · refine ⟨a == b, 0, by simp [sameAddr, hbl, drewN_zero], by simp, by simp⟩
  · obtain ⟨ca, ta, fa, ha1, ha2⟩ := ha
    obtain ⟨cb, tb, fb, hb1, hb2⟩ := hb
    have hs1 : w.shape? a.block = some (ta, ca.size) := by simp [World.shape?, ha1]
    have hs2 : w.shape? b.block = some (tb, cb.size) := by simp [World.shape?, hb1]
    by_cases hp : PlainA w a /\ PlainA w b
    · obtain ⟨⟨ca', ta', h1⟩, ⟨cb', tb', h2⟩⟩ := hp
      refine ⟨false, 0, by rw [run_sameAddr_other w (fun e => hbl (by rw [e])) h1 h2]; rfl, fun e => absurd (by rw [e]) hbl, fun _ _ h => by cases h⟩
    · have hno : PlainA w a -> PlainA w b -> False := fun h1 h2 => hp ⟨h1, h2⟩
      have hex : ∃ r n, (sameAddr a b).run P w = .ok r (w.drewN n) := by
        generalize hR : (sameAddr a b).run P w = R
        simp only [sameAddr, noView, viewAt, mayBeOne, stringish] at hR
        simp [hbl, ha2, hb2, hs1, hs2] at hR
        repeat' split at hR
        all_goals first | exact ⟨_, 0, hR.symm⟩ | exact ⟨_, 1, hR.symm⟩
      obtain ⟨r, n, h⟩ := hex
      exact ⟨r, n, h, fun e => absurd (by rw [e]) hbl, fun h1 h2 => (hno h1 h2).elim⟩
/-- A key: where a list begins, and how long it is. -/
def keyV (a : Addr) (m : Nat) : Value := .agg #[.pointer (some a), .int .i64 m]
/-- A key of two. -/
def key2V (a : Addr) (m : Nat) (b : Addr) (l : Nat) : Value := .agg #[.pointer (some a), .int .i64 m, .pointer (some b), .int .i64 l]
theorem ptr_size : ∀ w, (Go.sizeOf 44).run prog w = .ok 4 w := fun w => by kernel_rfl
theorem part_ptr (xs : Array Value) (w : World) (a : Addr) (h : xs[0]? = some (.pointer (some a))) : (part 182 xs 0).run prog w = .ok (.pointer (some a)) w := by
  simp [part, isAgg, run_underlying underlying182, h]
theorem part_len (xs : Array Value) (w : World) (m : Int) (h : xs[1]? = some (.int .i64 m)) : (part 3 xs 1).run prog w = .ok (.int .i64 m) w := by
  simp [part, isAgg, run_underlying underlying3, h]
theorem run_eq_ptr (d : Nat) (w : World) (a b : Addr) : (Op.equalIn (d + 1) 182 (.pointer (some a)) (.pointer (some b))).run prog w = (sameAddr a b).run prog w := by
  simp [Op.equalIn, run_underlying underlying182]
theorem run_eq_int (d : Nat) (w : World) (m l : Nat) : (Op.equalIn (d + 1) 3 (.int .i64 m) (.int .i64 l)).run prog w = .ok (m == l) w := by
  simp [Op.equalIn, run_underlying underlying3]
  rw [Bool.eq_iff_iff]
  simp
  omega
end Go.Proofs.YtlhmofphpfdjlaaGreatDoor
