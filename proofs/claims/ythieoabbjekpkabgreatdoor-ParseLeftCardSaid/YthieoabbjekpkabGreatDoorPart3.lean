/- Part of the proof of ParseLeft: the texts that follow, in build order. -/
import Derived.Test.YthieoabbjekpkabGreatDoorPart2
import Derived.Test.YthieoabbjekpkabGreatDoorPart1
import Derived.WalkSmall
import Derived.Laws.Rows
import Derived.Deep.WholeRow
import Derived.OneCell
import Derived.Deep.QuietTactic
import Derived.BigQuiet
import Derived.Laws.OwnMore
import Derived.Deep.MidRow

/- A type that came in as an argument, as a type that lies in memory; of whatever program. -/
namespace Go.Proofs.YthieoabbjekpkabGreatDoor
open Go.RowKit

theorem one_cell {cs : List Value} {o : Nat} (h : cs.length = 4) (ho : o < 4) : ∃ c, (cs.drop o).take 1 = [c] ∧ cs[o]? = some c := by
  match cs, h, o, ho with
  | [a, b, c, d], _, 0, _ => exact ⟨a, rfl, rfl⟩
  | [a, b, c, d], _, 1, _ => exact ⟨b, rfl, rfl⟩
  | [a, b, c, d], _, 2, _ => exact ⟨c, rfl, rfl⟩
  | [a, b, c, d], _, 3, _ => exact ⟨d, rfl, rfl⟩

theorem ty_of_trod {H : Type} {enc : TypeId × Value → H} {P : Program} {w : World} {T N K I S : TypeId} (R : TyRow P T N K I S) (fuel : Nat) : ∀ {cs : List Value} {x : DataW H × List MemPlace},
    DataW.trod enc P w 0 (fun _ => true) true fuel T cs = some x → (∀ m ∈ x.1.weights P T, m ≤ reachBytes) → (∀ b off, MemPlace.cell b off ∈ x.2 → w.frozen? ⟨b, off, none⟩ = false) → ∃ D, TyAt w false fuel (.agg cs.toArray) D := by
  induction fuel using Nat.strongRecOn with
  | ind fuel ih =>
    intro cs x h hw hfz
    obtain ⟨f0, f1, f2, f3, uT, ⟨t0, o0⟩, ⟨t1, o1⟩, ⟨t2, o2⟩, ⟨t3, o3⟩⟩ := R.uT
    obtain ⟨xs, n, rfl, rfl, hl, hxl, hf⟩ := DataW.trod_struct uT h
    rw [R.cT] at hl
    have hxl4 : xs.length = 4 := hxl
    obtain ⟨y0, y1, y2, y3, rfl⟩ : ∃ y0 y1 y2 y3, xs = [y0, y1, y2, y3] := by
      match xs, hxl4 with
      | [a, b, c, d], _ => exact ⟨a, b, c, d, rfl⟩
    have g0 := hf 0 f0 rfl
    have g1 := hf 1 f1 rfl
    have g2 := hf 2 f2 rfl
    have g3 := hf 3 f3 rfl
    rw [t0, o0, R.cI] at g0
    rw [t1, o1, R.cS] at g1
    rw [t2, o2, R.cN] at g2
    rw [t3, o3, R.cK] at g3
    obtain ⟨a0, e0, q0⟩ := one_cell (o := 0) hl (by omega)
    obtain ⟨a1, e1, q1⟩ := one_cell (o := 1) hl (by omega)
    obtain ⟨a2, e2, q2⟩ := one_cell (o := 2) hl (by omega)
    obtain ⟨a3, e3, q3⟩ := one_cell (o := 3) hl (by omega)
    have hcs : cs = [a0, a1, a2, a3] := by
      match cs, hl, q0, q1, q2, q3 with
      | [_, _, _, _], _, q0, q1, q2, q3 =>
        injection q0 with q0
        injection q1 with q1
        injection q2 with q2
        injection q3 with q3
        rw [q0, q1, q2, q3]
    rw [e0] at g0
    rw [e1] at g1
    rw [e2] at g2
    rw [e3] at g3
    have hwe : ∀ (j : Nat) (t : TypeId) (y : DataW H × List MemPlace), [I, S, N, K][j]? = some t → [y0, y1, y2, y3][j]? = some y → ∀ m ∈ y.1.weights P t, m ≤ reachBytes := by
      intro j t y hj hy m hm
      refine hw m ?_
      rw [DataW.weights, uT]
      refine DataW.weights_mem_each (j := j) (t := t) (d := y.1) ?_ ?_ m hm
      · show [f0.type, f1.type, f2.type, f3.type][j]? = some t
        rw [t0, t1, t2, t3]
        exact hj
      · rw [List.getElem?_map, hy]
        rfl
    obtain ⟨k, hk, ek, hwf⟩ := DataW.trod_int R.uI g0
    obtain ⟨s, hs, es, _⟩ := DataW.trod_string R.uS g1
    obtain ⟨na, nc, ns, hn, hna, hns, hn1, hn2⟩ := names_of_trod R g2 (hwe 2 N y2 rfl rfl)
    injection hk with hk _
    injection hs with hs _
    injection hn with hn _
    subst hk hs hn
    have hsl : s.size ≤ reachBytes := by
      have := hwe 1 S y1 rfl rfl s.data.toList.length (by
        have e : y1 = (DataW.lit (Lit.string s.data.toList), []) := es
        rw [e, DataW.weights]
        exact List.mem_singleton.2 rfl)
      rwa [byteArray_len] at this
    rcases DataW.trod_slice R.uK g3 with ⟨hk0, _⟩ | ⟨a, len, cap, elems, rest, m, rfl, hk0, hy, _, hlc, _, hlen, hel, hsp, _⟩
    · injection hk0 with hk0 _
      subst hk0 hcs
      exact ⟨_, k, s, na, nc, none, 0, ns, [], rfl, rfl, hwf, hsl, hns, ⟨hn1, Nat.le_trans hn1 hn2⟩, ⟨Nat.le_refl _, Nat.zero_le _⟩, hna, .inl rfl⟩
    · injection hk0 with hk0 _
      subst hk0 hcs
      have hwk := hwe 3 K y3 rfl rfl
      have hfk : ∀ b off, MemPlace.cell b off ∈ y3.2 → w.frozen? ⟨b, off, none⟩ = false := fun b off hm => hfz b off (by simp [hm])
      have hy32 : y3.2 = MemPlace.row a ((elems.length + rest.length) * P.cellsOf T) ++ (elems ++ rest).flatMap (·.2) := by rw [hy]
      rw [hy32, R.cT] at hfk
      have hy3 : y3.1 = DataW.slice (elems.map (·.1)) (rest.map (·.1)) := by rw [hy]
      rw [hy3] at hwk
      have hrl := (hsp rfl).1
      have hcap : cap ≤ reachBytes := by
        have h1 : (elems.length + rest.length) * P.bytesOf T ≤ reachBytes := hwk _ (by
          rw [DataW.weights, R.uK]
          simp)
        have h2 := Nat.le_mul_of_pos_right (elems.length + rest.length) R.bT
        omega
      have hkid : ∀ i, i < len → ∃ c0 c1 c2 c3 D, w.cell? (a.add (i * 4)) = some c0 ∧ w.cell? ((a.add (i * 4)).add 1) = some c1 ∧ w.cell? ((a.add (i * 4)).add 2) = some c2 ∧ w.cell? ((a.add (i * 4)).add 3) = some c3 ∧ TyAt w false m (.agg #[c0, c1, c2, c3]) D := by
        intro i hi
        have h1 := hel i hi
        have h2 : i < elems.length := by omega
        rw [List.getElem?_eq_getElem h2, Option.bind_eq_some_iff, R.cT] at h1
        obtain ⟨cs', p1, p2⟩ := h1
        obtain ⟨_, hl4, p3⟩ := World.cells?_some p1
        obtain ⟨D, hD⟩ := ih m (by omega) p2 (fun mm hm => hwk mm (by
          rw [DataW.weights, R.uK]
          exact List.mem_cons_of_mem _ (List.mem_append_left _ (weights_all (d := elems[i].1) (List.mem_map.2 ⟨_, List.getElem_mem h2, rfl⟩) _ hm))))
          (fun b off hm => hfk b off (List.mem_append_right _ (List.mem_flatMap.2 ⟨elems[i], List.mem_append_left _ (List.getElem_mem h2), hm⟩)))
        match cs', hl4, p3, hD with
        | [c0, c1, c2, c3], _, p3, hD =>
          have z0 := p3 0 (by omega)
          have hz : (a.add (i * 4)).add 0 = a.add (i * 4) := by simp [Addr.add]
          rw [hz] at z0
          exact ⟨c0, c1, c2, c3, D, z0, p3 1 (by omega), p3 2 (by omega), p3 3 (by omega), hD⟩
      by_cases h0 : len = 0
      · subst h0
        exact ⟨_, k, s, na, nc, some a, cap, ns, [], rfl, rfl, hwf, hsl, hns, ⟨hn1, Nat.le_trans hn1 hn2⟩, ⟨Nat.zero_le _, Nat.zero_le _⟩, hna, .inl rfl⟩
      · obtain ⟨b, o, spot⟩ := a
        obtain ⟨c0, _, _, _, _, hc0, _⟩ := hkid 0 (by omega)
        have hspot : spot = none := by simpa [Addr.add] using World.cell?_spot hc0
        subst hspot
        have hadd : ∀ i, (⟨b, o, none⟩ : Addr).add i = ⟨b, o + i, none⟩ := fun i => by unfold Addr.add; split <;> simp_all
        have hadd2 : ∀ i j, (⟨b, o + i, none⟩ : Addr).add j = ⟨b, o + i + j, none⟩ := fun i j => by unfold Addr.add; split <;> simp_all
        have hg : ∀ i, ∃ D, i < len → ∃ c0 c1 c2 c3, w.cell? ⟨b, o + i * 4, none⟩ = some c0 ∧ w.cell? ⟨b, o + i * 4 + 1, none⟩ = some c1 ∧ w.cell? ⟨b, o + i * 4 + 2, none⟩ = some c2 ∧ w.cell? ⟨b, o + i * 4 + 3, none⟩ = some c3 ∧ TyAt w false m (.agg #[c0, c1, c2, c3]) D := fun i => by
          by_cases hi : i < len
          · obtain ⟨c0, c1, c2, c3, D, h0, h1, h2, h3, hD⟩ := hkid i hi
            rw [hadd] at h0
            rw [hadd, hadd2] at h1 h2 h3
            exact ⟨D, fun _ => ⟨c0, c1, c2, c3, h0, h1, h2, h3, hD⟩⟩
          · exact ⟨.nil, fun h => absurd h hi⟩
        obtain ⟨f, hf⟩ := Classical.axiomOfChoice hg
        have hc0' : w.cell? ⟨b, o, none⟩ = some c0 := by simpa [Addr.add] using hc0
        refine ⟨_, k, s, na, nc, some ⟨b, o, none⟩, cap, ns, (List.range len).map f, by simp, rfl, hwf, hsl, hns, ⟨hn1, Nat.le_trans hn1 hn2⟩, ⟨by simpa using hlc, Nat.le_trans (by simpa using hlc) hcap⟩, hna, .inr ⟨b, o, rfl, World.block_lt_of_cell? w _ hc0', hfk b o (List.mem_append_left _ (List.mem_map.2 ⟨0, List.mem_range.2 (by omega), rfl⟩)), fun h => (by cases h), ?_⟩⟩
        intro i hi
        have hi' : i < len := by simpa using hi
        obtain ⟨c0, c1, c2, c3, h0, h1, h2, h3, hD⟩ := hf i hi'
        refine ⟨c0, c1, c2, c3, h0, h1, h2, h3, ?_⟩
        rw [List.getElem_map, List.getElem_range]
        exact ty_mono hD (by omega)
end Go.Proofs.YthieoabbjekpkabGreatDoor

/- How this program lays types out; small facts of memory that the contracts of stage 3 share. -/
namespace Go.Proofs.YthieoabbjekpkabGreatDoor
open Go.RowKit

theorem tyRow : TyRow Tryz.prog 48 24 23 3 9 where
  uT := ⟨_, _, _, _, Tryz.underlying48, ⟨rfl, rfl⟩, ⟨rfl, rfl⟩, ⟨rfl, rfl⟩, ⟨rfl, rfl⟩⟩
  uI := Tryz.underlying3
  uS := Tryz.underlying9
  uN := Tryz.underlying24
  uK := Tryz.underlying23
  cT := by kernel_rfl
  cI := by kernel_rfl
  cS := by kernel_rfl
  cN := by kernel_rfl
  cK := by kernel_rfl
  bT := of_decide_eq_true (by kernel_rfl)
  bS := of_decide_eq_true (by kernel_rfl)

theorem below_next {w w1 w2 : World} (h : Below w.heap.size w w1) (k : Below w1.heap.size w1 w2) : Below w.heap.size w w2 := h.trans (k.mono h.size)
theorem bl_alloc (w : World) (o : Obj) : Below w.heap.size w (w.alloc o) := (Below.refl _ w).alloc (Nat.le_refl _) o
theorem ret_int {k : IntKind} {a b : Int} (h : a = b) : Ending.returned (.int k a) = .returned (.int k b) := by rw [h]

/-- A type in a box of the call's own. -/
abbrev tyO (k : Int) (nm : ByteArray) (na : Option Addr) (nl nc : Nat) (ka : Option Addr) (kl kc : Nat) : Obj := .cells #[.int .i64 k, .string nm, .slice na nl nc, .slice ka kl kc] 48

/-- The box, as long as nothing of it turns. -/
theorem box_at {w wr : World} {k : Int} {nm : ByteArray} {na : Option Addr} {nl nc : Nat} {ka : Option Addr} {kl kc B : Nat} (h : Below B (w.alloc (tyO k nm na nl nc ka kl kc)) wr) (hB : w.heap.size < B) :
    wr.cell? ⟨w.heap.size, 0, none⟩ = some (.int .i64 k) ∧ wr.cell? ⟨w.heap.size, 1, none⟩ = some (.string nm) ∧ wr.cell? ⟨w.heap.size, 2, none⟩ = some (.slice na nl nc) ∧ wr.cell? ⟨w.heap.size, 3, none⟩ = some (.slice ka kl kc) := by
  have hh : wr.heap[w.heap.size]? = some (tyO k nm na nl nc ka kl kc) := (h.block _ hB).trans (heap_alloc_last w _)
  refine ⟨?_, ?_, ?_, ?_⟩ <;> (rw [cell_of_row _ _ _ _ _ _ hh]; rfl)

theorem sum_take (f : Ty → Nat) (ks : List Ty) (j : Nat) (hj : j < ks.length) : ((ks.take (j + 1)).map f).sum = ((ks.take j).map f).sum + f ks[j] := by
  rw [List.take_succ_eq_append_getElem hj, List.map_append, List.sum_append]
  simp
end Go.Proofs.YthieoabbjekpkabGreatDoor

/- Types in memory that was made from some block on, in rows that bear no mark. -/
namespace Go.Proofs.YthieoabbjekpkabGreatDoor
open Go.RowKit

def NamesF (w : World) (lo : Nat) (a : Option Addr) (ns : List (List UInt8)) : Prop :=
  ns = [] ∨ ∃ b o, a = some ⟨b, o, none⟩ ∧ lo ≤ b ∧ b < w.heap.size ∧ ∀ i (h : i < ns.length), w.cell? ⟨b, o + i, none⟩ = some (.string ⟨ns[i].toArray⟩)

def RowF (w : World) (lo : Nat) (T : Value → Ty → Prop) (ka : Option Addr) (ks : List Ty) : Prop :=
  ks = [] ∨ ∃ b o, ka = some ⟨b, o, none⟩ ∧ lo ≤ b ∧ CleanB w b ∧ ∀ i (h : i < ks.length), ∃ c0 c1 c2 c3, w.cell? ⟨b, o + i * 4, none⟩ = some c0 ∧ w.cell? ⟨b, o + i * 4 + 1, none⟩ = some c1 ∧
      w.cell? ⟨b, o + i * 4 + 2, none⟩ = some c2 ∧ w.cell? ⟨b, o + i * 4 + 3, none⟩ = some c3 ∧ T (.agg #[c0, c1, c2, c3]) ks[i]

/-- The value v is a type, at most n deep, whose tree is D, in memory from block lo on. -/
def TyF (w : World) (lo : Nat) : Nat → Value → Ty → Prop
  | 0, _, _ => False
  | n + 1, v, D => ∃ (k : Int) (nm : ByteArray) (na : Option Addr) (nc : Nat) (ka : Option Addr) (kc : Nat) (ns : List (List UInt8)) (ks : List Ty),
    v = .agg #[.int .i64 k, .string nm, .slice na ns.length nc, .slice ka ks.length kc] ∧ D = mkT k nm.data.toList ns ks ∧ (Lit.int .i64 k).wf = true ∧ nm.size ≤ reachBytes ∧ (∀ s ∈ ns, s.length ≤ reachBytes) ∧
    (ns.length ≤ nc ∧ ns.length ≤ reachBytes) ∧ (ks.length ≤ kc ∧ ks.length ≤ reachBytes) ∧ NamesF w lo na ns ∧ RowF w lo (fun v D => TyF w lo n v D) ka ks

abbrev KidsF (w : World) (lo n : Nat) (ka : Option Addr) (ks : List Ty) : Prop := RowF w lo (fun v D => TyF w lo n v D) ka ks

theorem clean_frozen {w : World} {b o : Nat} (h : CleanB w b) : w.frozen? ⟨b, o, none⟩ = false := by
  obtain ⟨cs, t, h⟩ := h
  simp [World.frozen?, h]

theorem clean_lt {w : World} {b : Nat} (h : CleanB w b) : b < w.heap.size := by
  obtain ⟨cs, t, h⟩ := h
  exact lt_of_block h

section
variable {w w' : World} {lo lo' n m : Nat} {v : Value} {D : Ty} {a ka : Option Addr} {ns : List (List UInt8)} {ks : List Ty}

theorem NamesF.at (h : NamesF w lo a ns) : NamesAt w a ns := by
  rcases h with h | ⟨b, o, e, _, hlt, hc⟩
  · exact .inl h
  · exact .inr ⟨b, o, e, hlt, hc⟩

theorem tyF_at (h : TyF w lo n v D) : TyAt w true n v D := by
  induction n generalizing v D with
  | zero => exact h.elim
  | succ n ih =>
    obtain ⟨k, nm, na, nc, ka, kc, ns, ks, h1, h2, h3, h4, h5, h6, h7, h8, h9⟩ := h
    refine ⟨k, nm, na, nc, ka, kc, ns, ks, h1, h2, h3, h4, h5, h6, h7, h8.at, ?_⟩
    rcases h9 with h9 | ⟨b, o, e, _, hcl, hc⟩
    · exact .inl h9
    · refine .inr ⟨b, o, e, clean_lt hcl, clean_frozen hcl, fun _ => hcl, fun i hi => ?_⟩
      obtain ⟨c0, c1, c2, c3, e0, e1, e2, e3, ht⟩ := hc i hi
      exact ⟨c0, c1, c2, c3, e0, e1, e2, e3, ih ht⟩

/-- It stays while blocks from lo on stay. -/
theorem tyF_keep (h : TyF w lo n v D) (hsz : w.heap.size ≤ w'.heap.size) (hk : ∀ b, lo ≤ b → b < w.heap.size → w'.heap[b]? = w.heap[b]?) : TyF w' lo n v D := by
  induction n generalizing v D with
  | zero => exact h.elim
  | succ n ih =>
    obtain ⟨k, nm, na, nc, ka, kc, ns, ks, h1, h2, h3, h4, h5, h6, h7, h8, h9⟩ := h
    refine ⟨k, nm, na, nc, ka, kc, ns, ks, h1, h2, h3, h4, h5, h6, h7, ?_, ?_⟩
    · rcases h8 with h8 | ⟨b, o, e, hl, hlt, hc⟩
      · exact .inl h8
      · exact .inr ⟨b, o, e, hl, Nat.lt_of_lt_of_le hlt hsz, fun i hi => (World.cell?_of_block (w := w) (a := ⟨b, o + i, none⟩) (hk b hl hlt)).trans (hc i hi)⟩
    · rcases h9 with h9 | ⟨b, o, e, hl, hcl, hc⟩
      · exact .inl h9
      · have hlt := clean_lt hcl
        have hcl' : CleanB w' b := by
          obtain ⟨cs, t, hh⟩ := hcl
          exact ⟨cs, t, (hk b hl hlt).trans hh⟩
        refine .inr ⟨b, o, e, hl, hcl', fun i hi => ?_⟩
        obtain ⟨c0, c1, c2, c3, e0, e1, e2, e3, ht⟩ := hc i hi
        have hcell : ∀ j, w'.cell? ⟨b, j, none⟩ = w.cell? ⟨b, j, none⟩ := fun j => World.cell?_of_block (w := w) (a := ⟨b, j, none⟩) (hk b hl hlt)
        exact ⟨c0, c1, c2, c3, (hcell _).trans e0, (hcell _).trans e1, (hcell _).trans e2, (hcell _).trans e3, ih ht⟩

theorem tyF_below (h : TyF w lo n v D) (hb : Below w.heap.size w w') : TyF w' lo n v D := tyF_keep h hb.size fun b _ hlt => hb.block b hlt

theorem tyF_lower (h : TyF w lo n v D) (hl : lo' ≤ lo) : TyF w lo' n v D := by
  induction n generalizing v D with
  | zero => exact h.elim
  | succ n ih =>
    obtain ⟨k, nm, na, nc, ka, kc, ns, ks, h1, h2, h3, h4, h5, h6, h7, h8, h9⟩ := h
    refine ⟨k, nm, na, nc, ka, kc, ns, ks, h1, h2, h3, h4, h5, h6, h7, ?_, ?_⟩
    · rcases h8 with h8 | ⟨b, o, e, hb, hlt, hc⟩
      · exact .inl h8
      · exact .inr ⟨b, o, e, by omega, hlt, hc⟩
    · rcases h9 with h9 | ⟨b, o, e, hb, hcl, hc⟩
      · exact .inl h9
      · refine .inr ⟨b, o, e, by omega, hcl, fun i hi => ?_⟩
        obtain ⟨c0, c1, c2, c3, e0, e1, e2, e3, ht⟩ := hc i hi
        exact ⟨c0, c1, c2, c3, e0, e1, e2, e3, ih ht⟩

theorem tyF_mono (h : TyF w lo n v D) (hm : n ≤ m) : TyF w lo m v D := by
  induction n generalizing m v D with
  | zero => exact h.elim
  | succ n ih =>
    obtain ⟨m, rfl⟩ : ∃ p, m = p + 1 := ⟨m - 1, by omega⟩
    obtain ⟨k, nm, na, nc, ka, kc, ns, ks, h1, h2, h3, h4, h5, h6, h7, h8, h9⟩ := h
    refine ⟨k, nm, na, nc, ka, kc, ns, ks, h1, h2, h3, h4, h5, h6, h7, h8, ?_⟩
    rcases h9 with h9 | ⟨b, o, e, hb, hcl, hc⟩
    · exact .inl h9
    · refine .inr ⟨b, o, e, hb, hcl, fun i hi => ?_⟩
      obtain ⟨c0, c1, c2, c3, e0, e1, e2, e3, ht⟩ := hc i hi
      exact ⟨c0, c1, c2, c3, e0, e1, e2, e3, ih ht (by omega)⟩

/-- A fresh type is a value of four cells. -/
theorem tyF_form (h : TyF w lo n v D) : ∃ (k : Int) (nm : ByteArray) (na : Option Addr) (nl nc : Nat) (ka : Option Addr) (kl kc : Nat), v = .agg #[.int .i64 k, .string nm, .slice na nl nc, .slice ka kl kc] ∧ kindT D = k := by
  cases n with
  | zero => exact h.elim
  | succ n =>
    obtain ⟨k, nm, na, nc, ka, kc, ns, ks, h1, h2, _⟩ := h
    exact ⟨k, nm, na, _, nc, ka, _, kc, h1, by rw [h2]; rfl⟩

theorem kidF_at (h : KidsF w lo n ka ks) {i : Nat} (hi : i < ks.length) :
    ∃ b o k nm na nl nc la ll lc, ka = some ⟨b, o, none⟩ ∧ b < w.heap.size ∧ w.cell? ⟨b, o + i * 4, none⟩ = some (.int .i64 k) ∧ w.cell? ⟨b, o + i * 4 + 1, none⟩ = some (.string nm) ∧ w.cell? ⟨b, o + i * 4 + 2, none⟩ = some (.slice na nl nc) ∧
      w.cell? ⟨b, o + i * 4 + 3, none⟩ = some (.slice la ll lc) ∧ TyF w lo n (.agg #[.int .i64 k, .string nm, .slice na nl nc, .slice la ll lc]) ks[i] := by
  rcases h with rfl | ⟨b, o, rfl, _, hcl, hc⟩
  · cases hi
  · obtain ⟨c0, c1, c2, c3, q0, q1, q2, q3, ht⟩ := hc i hi
    obtain ⟨k, nm, na, nl, nc, ka, kl, kc, e, _⟩ := tyF_form ht
    injection e with e
    injection e with e
    injection e with e0 e
    injection e with e1 e
    injection e with e2 e
    injection e with e3 _
    subst e0 e1 e2 e3
    exact ⟨b, o, k, nm, na, nl, nc, ka, kl, kc, rfl, clean_lt hcl, q0, q1, q2, q3, ht⟩
end

/-- The cells of a type. -/
abbrev Cells := Int × ByteArray × Option Addr × Nat × Nat × Option Addr × Nat × Nat
def Cells.list (c : Cells) : List Value := [.int .i64 c.1, .string c.2.1, .slice c.2.2.1 c.2.2.2.1 c.2.2.2.2.1, .slice c.2.2.2.2.2.1 c.2.2.2.2.2.2.1 c.2.2.2.2.2.2.2]
def Cells.val (c : Cells) : Value := .agg c.list.toArray

theorem tyF_cells {w : World} {lo n : Nat} {v : Value} {D : Ty} (h : TyF w lo n v D) : ∃ c : Cells, v = c.val ∧ kindT D = c.1 := by
  obtain ⟨k, nm, na, nl, nc, ka, kl, kc, e, e2⟩ := tyF_form h
  exact ⟨(k, nm, na, nl, nc, ka, kl, kc), e, e2⟩

theorem cells_flat : ∀ (cs : List Cells) (i : Nat) (hi : i < cs.length) (j : Nat), j < 4 → (cs.flatMap Cells.list)[i * 4 + j]? = cs[i].list[j]?
  | [], _, hi, _, _ => by cases hi
  | c :: cs, 0, _, j, hj => by
    rw [List.flatMap_cons, List.getElem?_append_left (by simp [Cells.list]; omega)]
    simp
  | c :: cs, i + 1, hi, j, hj => by
    rw [List.flatMap_cons, List.getElem?_append_right (by simp [Cells.list]; omega)]
    have := cells_flat cs i (by simpa using hi) j hj
    simp only [List.getElem_cons_succ]
    rw [← this]
    congr 1
    simp [Cells.list]
    omega

/-- Rows that the call owns, as rows of fresh types. -/
theorem kidsF_of_owns {w : World} {base lo t n : Nat} {v : Value} {cs : List Cells} {ks : List Ty} (h : w.ownsRow base t 4 v cs.length (cs.flatMap Cells.list)) (hl : lo ≤ base) (hlen : ks.length = cs.length)
    (hk : ∀ i (h1 : i < cs.length) (h2 : i < ks.length), TyF w lo n cs[i].val ks[i]) : ∃ a cap, v = .slice a ks.length cap ∧ ks.length ≤ cap ∧ KidsF w lo n a ks := by
  rcases h.2 with ⟨rfl, h0⟩ | ⟨g, cap, cur, rfl, hg, hh, hcap, _, _, hcur⟩
  · have : ks = [] := List.length_eq_zero_iff.1 (by omega)
    exact ⟨none, 0, by rw [this]; rfl, by rw [this]; exact Nat.le_refl _, .inl this⟩
  · refine ⟨some ⟨g, 0, none⟩, cap, by rw [hlen], by omega, .inr ⟨g, 0, rfl, by omega, ⟨_, _, hh⟩, fun i hi => ?_⟩⟩
    have hi' : i < cs.length := by omega
    have hcell : ∀ j, j < 4 → w.cell? ⟨g, 0 + i * 4 + j, none⟩ = cs[i].list[j]? := by
      intro j hj
      have h1 := h.cellAt (i * 4 + j) (by omega)
      rw [show 0 + i * 4 + j = i * 4 + j by omega, h1]
      exact cells_flat cs i hi' j hj
    exact ⟨_, _, _, _, hcell 0 (by omega), hcell 1 (by omega), hcell 2 (by omega), hcell 3 (by omega), hk i hi' hi⟩
end Go.Proofs.YthieoabbjekpkabGreatDoor

/- Small facts of memory that the contracts share; of whatever functions. -/
namespace Go.Proofs.YthieoabbjekpkabGreatDoor
open Go.RowKit

abbrev zTy : Value := .agg #[.int .i64 0, .string ⟨#[]⟩, .slice none 0 0, .slice none 0 0]

theorem results_cell_tmp {fn : Func} {p u : Tmp} {ty : TypeId} (h : fn.results = #[.cell p ty, .tmp u]) (tmps : Array Value) {P : Program} {w : World} {g : Nat} {t : TypeId} {cs : Array Value} {fr : Nat × Nat} {fs : Array Field}
    (hp : tmps.getD p undef = .pointer (some ⟨g, 0, none⟩)) (hg : w.heap[g]? = some (.cells cs t fr))
    (hu : P.underlying ty = some (.struct fs)) (hi : (P.info? ty).map (·.size) = some cs.size) :
    (results fn tmps).run P w = .ok (.tuple #[.agg cs, tmps.getD u undef]) w := by
  have hp' : tmps[p]?.getD undef = .pointer (some ⟨g, 0, none⟩) := by simpa using hp
  simp [results, h, hp', asAddr, run_loadVar_row w g t ty cs fr _ hg hu rfl hi]

theorem ty_size : (Tryz.prog.info? 48).map (·.size) = some 4 := by kernel_rfl
theorem info_ty : (Tryz.prog.info? 48).map (fun i => (i.zero, i.size, i.bytes)) = some (some zTy, 4, 72) := by kernel_rfl
theorem info_str : (Tryz.prog.info? 9).map (fun i => (i.zero, i.size, i.bytes)) = some (some (.string ⟨#[]⟩), 1, 16) := by kernel_rfl

theorem cells_setCell {w : World} {b o : Nat} {cs : Array Value} {u : Value} {t : TypeId} {fr : Nat × Nat} (h : w.heap[b]? = some (.cells cs t fr)) : (w.setCell ⟨b, o, none⟩ u).heap[b]? = some (.cells (cs.setIfInBounds o u) t fr) := by
  simp [World.setCell, Array.getElem?_modify, h]

/-- Four cells stored into a row of four. -/
theorem set4 {w : World} {b : Nat} {y0 y1 y2 y3 : Value} {t : TypeId} {fr : Nat × Nat} (h : w.heap[b]? = some (.cells #[y0, y1, y2, y3] t fr)) (x0 x1 x2 x3 : Value) :
    ((((w.setCell ⟨b, 0, none⟩ x0).setCell ⟨b, 1, none⟩ x1).setCell ⟨b, 2, none⟩ x2).setCell ⟨b, 3, none⟩ x3).heap[b]? = some (.cells #[x0, x1, x2, x3] t fr) :=
  cells_setCell (cells_setCell (cells_setCell (cells_setCell h)))

theorem below_set4 {B : Nat} {a w : World} {b : Nat} (h : Below B a w) (hb : B ≤ b) (x0 x1 x2 x3 : Value) : Below B a ((((w.setCell ⟨b, 0, none⟩ x0).setCell ⟨b, 1, none⟩ x1).setCell ⟨b, 2, none⟩ x2).setCell ⟨b, 3, none⟩ x3) :=
  (((h.setCell hb _).setCell hb _).setCell hb _).setCell hb _

/-- .. and all other rows stay. -/
theorem other_set4 {w : World} {b i : Nat} (hi : i ≠ b) (x0 x1 x2 x3 : Value) : ((((w.setCell ⟨b, 0, none⟩ x0).setCell ⟨b, 1, none⟩ x1).setCell ⟨b, 2, none⟩ x2).setCell ⟨b, 3, none⟩ x3).heap[i]? = w.heap[i]? := by
  rw [Below.heap_setCell _ _ _ _ hi, Below.heap_setCell _ _ _ _ hi, Below.heap_setCell _ _ _ _ hi, Below.heap_setCell _ _ _ _ hi]

theorem heap_at1 (w : World) (o1 o2 : Obj) : ((w.alloc o1).alloc o2).heap[w.heap.size + 1]? = some o2 := by
  have := heap_alloc_last (w.alloc o1) o2
  simpa using this

/-- The result's row, ahead of what is stored: four cells of the call's own. -/
theorem res_facts {w1 : World} {b : Nat} {y0 y1 y2 y3 : Value} {t : TypeId} (h : w1.heap[b]? = some (.cells #[y0, y1, y2, y3] t)) :
    (w1.cell? ⟨b, 0, none⟩ = some y0 ∧ w1.cell? ⟨b, 1, none⟩ = some y1 ∧ w1.cell? ⟨b, 2, none⟩ = some y2 ∧ w1.cell? ⟨b, 3, none⟩ = some y3) ∧
    (w1.frozen? ⟨b, 0, none⟩ = false ∧ w1.frozen? ⟨b, 1, none⟩ = false ∧ w1.frozen? ⟨b, 2, none⟩ = false ∧ w1.frozen? ⟨b, 3, none⟩ = false) ∧ b < w1.heap.size := by
  refine ⟨⟨?_, ?_, ?_, ?_⟩, ⟨?_, ?_, ?_, ?_⟩, lt_of_block h⟩
  all_goals first | (rw [cell_of_row _ _ _ _ _ _ h]; rfl) | simp [World.frozen?, h]

theorem size_set4 (w : World) (b : Nat) (x0 x1 x2 x3 : Value) : ((((w.setCell ⟨b, 0, none⟩ x0).setCell ⟨b, 1, none⟩ x1).setCell ⟨b, 2, none⟩ x2).setCell ⟨b, 3, none⟩ x3).heap.size = w.heap.size := by simp [World.setCell]

end Go.Proofs.YthieoabbjekpkabGreatDoor

/- types.Size by a contract. -/
namespace Go.Proofs.YthieoabbjekpkabGreatDoor
open Go.RowKit

end Go.Proofs.YthieoabbjekpkabGreatDoor

/- What types.norm leaves; types.Tag and types.parts by contracts; small facts of memory. -/
namespace Go.Proofs.YthieoabbjekpkabGreatDoor
open Go.RowKit

/-- What norm leaves. -/
def NormPost (w : World) (n : Nat) (D : Ty) (e : Ending) (w' : World) : Prop :=
  Below w.heap.size w w' ∧ match normT n D with
  | none => e = .returned (.tuple #[zTy, .bool false])
  | some E => ∃ v, e = .returned (.tuple #[v, .bool true]) ∧ TyF w' w.heap.size n v E

def tagV (k : Int) : Int := if 1 ≤ k ∧ k ≤ 6 then k - 1 else -1

theorem normT_rec {n : Nat} {nm : List UInt8} {ns : List (List UInt8)} {ks : List Ty} : normT (n + 1) (mkT 5 nm ns ks) = match ks.mapM (normT n) with | none => none | some ks => recordV ns ks := by
  rw [normT, kind_mk, kids_mk, names_mk, if_neg (by decide), if_pos (by decide)]
  rfl
theorem normT_fun {n : Nat} {nm : List UInt8} {ns : List (List UInt8)} {ks : List Ty} : normT (n + 1) (mkT 6 nm ns ks) = match ks.mapM (normT n) with | none => none | some ks => funV ks := by
  rw [normT, kind_mk, kids_mk, if_neg (by decide), if_pos (by decide)]
  rfl
theorem normT_uni {n : Nat} {nm : List UInt8} {ns : List (List UInt8)} {ks : List Ty} : normT (n + 1) (mkT 7 nm ns ks) = match ks.mapM (normT n) with | none => none | some ks => unionV n ks := by
  rw [normT, kind_mk, kids_mk, if_neg (by decide), if_pos (by decide)]
  rfl
theorem normT_base {n : Nat} {k : Int} {nm : List UInt8} {ns : List (List UInt8)} {ks : List Ty} (h : 0 ≤ k ∧ k ≤ 4) : normT (n + 1) (mkT k nm ns ks) = some (mkT k [] [] []) := by
  rw [normT, kind_mk, if_pos h]
theorem normT_other {n : Nat} {k : Int} {nm : List UInt8} {ns : List (List UInt8)} {ks : List Ty} (h : k < 0 ∨ 7 < k) : normT (n + 1) (mkT k nm ns ks) = none := by
  rw [normT, kind_mk, if_neg (by omega), if_neg (by omega)]

/-- The two ways of norm. -/
theorem norm_ways {w w' : World} {n : Nat} {D : Ty} {e : Ending} (h : NormPost w n D e w') : Below w.heap.size w w' ∧ ((normT n D = none ∧ e = .returned (.tuple #[zTy, .bool false])) ∨
    ∃ (E : Ty) (k : Int) (nm : ByteArray) (na : Option Addr) (nl nc : Nat) (ka : Option Addr) (kl kc : Nat), normT n D = some E ∧ e = .returned (.tuple #[.agg #[.int .i64 k, .string nm, .slice na nl nc, .slice ka kl kc], .bool true]) ∧
      TyF w' w.heap.size n (.agg #[.int .i64 k, .string nm, .slice na nl nc, .slice ka kl kc]) E ∧ kindT E = k) := by
  obtain ⟨hb, hm⟩ := h
  refine ⟨hb, ?_⟩
  cases hn : normT n D with
  | none =>
    rw [hn] at hm
    exact .inl ⟨rfl, hm⟩
  | some E =>
    rw [hn] at hm
    obtain ⟨v, he, ht⟩ := hm
    obtain ⟨k, nm, na, nl, nc, ka, kl, kc, rfl, e2⟩ := tyF_form ht
    exact .inr ⟨E, k, nm, na, nl, nc, ka, kl, kc, rfl, he, ht, e2⟩

/-- Nothing is answered: noughts in the result's row, with a box behind. -/
theorem no_answer {w w1 : World} {n : Nat} {D : Ty} {b : Nat} {y0 y1 y2 y3 : Value} (hn : normT n D = none) (hb : Below w.heap.size w w1) (hw : w.heap.size ≤ b) (h : w1.heap[b]? = some (.cells #[y0, y1, y2, y3] 48)) (o : Obj) :
    ((((((w1.setCell ⟨b, 0, none⟩ (.int .i64 0)).setCell ⟨b, 1, none⟩ (.string ⟨#[]⟩)).setCell ⟨b, 2, none⟩ (.slice none 0 0)).setCell ⟨b, 3, none⟩ (.slice none 0 0)).alloc o).heap[b]? = some (.cells #[.int .i64 0, .string ⟨#[]⟩, .slice none 0 0, .slice none 0 0] 48)) ∧
    NormPost w n D (.returned (.tuple #[zTy, .bool false])) (((((w1.setCell ⟨b, 0, none⟩ (.int .i64 0)).setCell ⟨b, 1, none⟩ (.string ⟨#[]⟩)).setCell ⟨b, 2, none⟩ (.slice none 0 0)).setCell ⟨b, 3, none⟩ (.slice none 0 0)).alloc o) := by
  refine ⟨(Below.heap_alloc _ _ _ (by rw [size_set4]; exact lt_of_block h)).trans (set4 h _ _ _ _), (below_set4 hb hw _ _ _ _).alloc (by rw [size_set4]; exact hb.size) _, ?_⟩
  rw [hn]

/-- .. with none. -/
theorem no_answer0 {w w1 : World} {n : Nat} {D : Ty} {b : Nat} {y0 y1 y2 y3 : Value} (hn : normT n D = none) (hb : Below w.heap.size w w1) (hw : w.heap.size ≤ b) (h : w1.heap[b]? = some (.cells #[y0, y1, y2, y3] 48)) :
    (((((w1.setCell ⟨b, 0, none⟩ (.int .i64 0)).setCell ⟨b, 1, none⟩ (.string ⟨#[]⟩)).setCell ⟨b, 2, none⟩ (.slice none 0 0)).setCell ⟨b, 3, none⟩ (.slice none 0 0)).heap[b]? = some (.cells #[.int .i64 0, .string ⟨#[]⟩, .slice none 0 0, .slice none 0 0] 48)) ∧
    NormPost w n D (.returned (.tuple #[zTy, .bool false])) ((((w1.setCell ⟨b, 0, none⟩ (.int .i64 0)).setCell ⟨b, 1, none⟩ (.string ⟨#[]⟩)).setCell ⟨b, 2, none⟩ (.slice none 0 0)).setCell ⟨b, 3, none⟩ (.slice none 0 0)) := by
  refine ⟨set4 h _ _ _ _, below_set4 hb hw _ _ _ _, ?_⟩
  rw [hn]

theorem norm_conv {w w' : World} {n : Nat} {D : Ty} {e e' : Ending} (h : NormPost w n D e' w') (he : e = e') : NormPost w n D e w' := by rw [he]; exact h

/-- An answer. -/
theorem an_answer {w w' : World} {n : Nat} {D E : Ty} {e : Ending} {v : Value} (hn : normT n D = some E) (hb : Below w.heap.size w w') (h : TyF w' w.heap.size n v E) (he : e = .returned (.tuple #[v, .bool true])) : NormPost w n D e w' := by
  refine ⟨hb, ?_⟩
  rw [hn]
  exact ⟨v, he, h⟩
end Go.Proofs.YthieoabbjekpkabGreatDoor

/- What tree asks of a written type, of normal types: the small functions by contracts. -/
namespace Go.Proofs.YthieoabbjekpkabGreatDoor
open Go.RowKit

theorem holds_c (a b n : Nat) (h1 : a ≤ n) (h2 : (n : Int) ≤ b) (w : World) :
    Calls Tryz.prog 64 #[.agg #[.int .i64 a, .int .i64 b], .int .i64 n] w fun e w' => e = .returned (.bool true) ∧ Below w.heap.size w w' := by
  have e1 : (a : Int) ≤ (n : Int) := by omega
  go_enter Tryz.func64, Tryz.ntmps64
  go_wp2_with fail
  go_ret
  exact ⟨rfl, bl_alloc _ _⟩

theorem text_none (w : World) : Calls Tryz.prog 65 #[.string ⟨#[]⟩, .int .i64 0] w fun e w' => e = .returned (.bool true) ∧ w' = w := by
  go_enter Tryz.func65, Tryz.ntmps65
  go_wp2_with fail
  go_ret
  exact ⟨rfl, rfl⟩

theorem names_none (a : Option Addr) (c k : Nat) (w : World) : Calls Tryz.prog 66 #[.slice a 0 c, .bool false, .int .i64 k] w fun e w' => e = .returned (.bool true) ∧ w' = w := by
  go_enter Tryz.func66, Tryz.ntmps66
  go_wp2_with fail
  go_ret
  exact ⟨rfl, rfl⟩

theorem name_cell {w : World} {na : Option Addr} {ns : List (List UInt8)} (h : NamesAt w na ns) {i : Nat} (hi : i < ns.length) : ∃ b o, na = some ⟨b, o, none⟩ ∧ b < w.heap.size ∧ w.cell? ⟨b, o + i, none⟩ = some (.string ⟨ns[i].toArray⟩) := by
  rcases h with rfl | ⟨b, o, e, hb, hc⟩
  · cases hi
  · exact ⟨b, o, e, hb, hc i hi⟩

set_option maxHeartbeats 1000000 in
theorem allNames_c (na : Option Addr) (nc : Nat) (ns : List (List UInt8)) (w : World) (hw : Words w) (h : NamesAt w na ns) (hl : ns.length ≤ 140737488351232) (hn : ∀ s ∈ ns, nameV s = true) :
    Calls Tryz.prog 102 #[.slice na ns.length nc, .func (.func 99) #[] #[]] w fun e w' => e = .returned (.bool true) ∧ w' = w := by
  have HN := hideP h
  have HV := hideP hn
  have HW := hideP hw
  clear h hn hw
  go_enter Tryz.func102, Tryz.ntmps102
  go_wp2_with fail
  go_loopw [9] (fun i wx => ∃ j : Nat, i = .int .i64 j ∧ j ≤ ns.length ∧ wx = w) (fun i _ => ns.length - (intOf i).toNat)
  case atStart => exact ⟨0, rfl, Nat.zero_le _, rfl⟩
  case round =>
    obtain ⟨j, rfl, hj, rfl⟩ := hrel
    by_cases hlt : j < ns.length
    · have hjl : (j : Int) < (ns.length : Int) := by omega
      obtain ⟨b, o, rfl, hb, hc⟩ := name_cell HN.out hlt
      have hv := HV.out _ (List.getElem_mem hlt)
      obtain ⟨S, hS⟩ : ∃ S : ByteArray, S = ⟨ns[j].toArray⟩ := ⟨_, rfl⟩
      rw [← hS] at hc
      have hn : nameV S.data.toList = true := by rw [hS]; simpa using hv
      have hz : S.size ≤ 140737488351232 := by
        by_cases h0 : S.size = 0
        · omega
        · have := nameV_cons (S := S) (by omega)
          rw [hn] at this
          simp at this
          omega
      have HC := hideP (name_c S hz wr HW.out)
      rw [hn] at HC
      clear hS hv hn
      go_wp2_with fail
      refine HC.out.mono ?_
      rintro e w' ⟨rfl, rfl⟩
      go_wp2_with fail
      exact ⟨⟨j + 1, by go_num, by omega, by first | rfl | trivial⟩, by simp [intOf]; omega⟩
    · have hjl : ¬ (j : Int) < (ns.length : Int) := by omega
      go_wp2_with fail
      go_ret
      exact ⟨rfl, by first | rfl | trivial⟩

theorem names_all (na : Option Addr) (nc : Nat) (ns : List (List UInt8)) (w : World) (hw : Words w) (h : NamesAt w na ns) (hl : ns.length ≤ 140737488351232) (hn : ∀ s ∈ ns, nameV s = true) :
    Calls Tryz.prog 66 #[.slice na ns.length nc, .bool true, .int .i64 ns.length] w fun e w' => e = .returned (.bool true) ∧ w' = w := by
  have HC := hideP (allNames_c na nc ns w hw h hl hn)
  have e1 : ((ns.length : Int) == (ns.length : Int)) = true := by simp
  clear h hn hw
  go_enter Tryz.func66, Tryz.ntmps66
  go_wp2_with fail
  refine HC.out.mono ?_
  rintro e w' ⟨rfl, rfl⟩
  go_wp2_with fail
  go_ret
  exact ⟨rfl, rfl⟩

/-- What a written type may have, by its kind: text, least and most Kids, whether it is named; as the package's table lays it. -/
def formV (k : Nat) : Nat × Nat × Nat × Bool := if k = 5 then (0, 0, 9223372036854775807, true) else if k = 6 then (0, 2, 2, false) else if k = 7 then (0, 2, 9223372036854775807, false) else if k = 8 then (1, 0, 0, false) else (0, 0, 0, false)
def Forms (w : World) : Prop := ∀ k, k < 9 → w.cell? ⟨6, k * 4, none⟩ = some (.int .i64 (formV k).1) ∧ w.cell? ⟨6, k * 4 + 1, none⟩ = some (.int .i64 (formV k).2.1) ∧ w.cell? ⟨6, k * 4 + 2, none⟩ = some (.int .i64 (formV k).2.2.1) ∧ w.cell? ⟨6, k * 4 + 3, none⟩ = some (.bool (formV k).2.2.2)

theorem Forms.lt {w : World} (h : Forms w) : 6 < w.heap.size := World.block_lt_of_cell? w _ (h 0 (by decide)).1
theorem Forms.below {w w' : World} (h : Forms w) (hb : Below w.heap.size w w') : Forms w' := fun k hk => by
  obtain ⟨h0, h1, h2, h3⟩ := h k hk
  exact ⟨(hb.cell (show 6 < w.heap.size from h.lt)).trans h0, (hb.cell (show 6 < w.heap.size from h.lt)).trans h1, (hb.cell (show 6 < w.heap.size from h.lt)).trans h2, (hb.cell (show 6 < w.heap.size from h.lt)).trans h3⟩

set_option maxHeartbeats 4000000 in
set_option maxRecDepth 100000 in
theorem fits_one (k nl kl : Nat) (na : Option Addr) (nc : Nat) (ka : Option Addr) (kc : Nat) (w : World) (hk : k < 9) (hf : Forms w) (ht : (formV k).1 = 0) (h1 : (formV k).2.1 ≤ kl) (h2 : kl ≤ (formV k).2.2.1) (_ : kl ≤ 140737488351232)
    (hN : ∀ wx, Below w.heap.size w wx → Calls Tryz.prog 66 #[.slice na nl nc, .bool (formV k).2.2.2, .int .i64 kl] wx fun e w' => e = .returned (.bool true) ∧ w' = wx) :
    Calls Tryz.prog 105 #[.agg #[.int .i64 k, .string ⟨#[]⟩, .slice na nl nc, .slice ka kl kc]] w fun e w' => e = .returned (.bool true) ∧ Below w.heap.size w w' := by
  have hb0 := bl_alloc w (tyO k ⟨#[]⟩ na nl nc ka kl kc)
  obtain ⟨f0, f1, f2, f3⟩ := hf k hk
  rw [ht] at f0
  have hlt := hf.lt
  obtain ⟨⟨t, l, m, nb⟩, hq⟩ : ∃ q, q = formV k := ⟨_, rfl⟩
  rw [← hq] at f1 f2 f3 h1 h2 hN
  simp only at f1 f2 f3 h1 h2 hN
  have HH := hideP (fun wx => holds_c l m kl h1 (by omega) wx)
  have HN := hideP hN
  have HB0 := hideP hb0
  have k9 : ¬ (9 : Int) ≤ (k : Int) := by omega
  have k9' : (k : Int) < 9 := by omega
  have k0 : ¬ (k : Int) < 0 := by omega
  clear hq ht hf hN hb0
  go_enter Tryz.func105, Tryz.ntmps105
  go_wp2_with fail
  have HT : Hid (((w.alloc (tyO k ⟨#[]⟩ na nl nc ka kl kc)).alloc (.cells #[.int .i64 0, .int .i64 l, .int .i64 m, .bool nb] 177)).heap[w.heap.size]? = some (tyO k ⟨#[]⟩ na nl nc ka kl kc)) := (Below.heap_alloc _ _ _ (by simp)).trans (heap_alloc_last w _)
  have HO : Hid (((w.alloc (tyO k ⟨#[]⟩ na nl nc ka kl kc)).alloc (.cells #[.int .i64 0, .int .i64 l, .int .i64 m, .bool nb] 177)).heap[w.heap.size + 1]? = some (.cells #[.int .i64 0, .int .i64 l, .int .i64 m, .bool nb] 177)) := heap_at1 w _ _
  refine (HH.out _).mono ?_
  rintro e w1 ⟨rfl, hb1⟩
  have HB1 := hideP (below_next (below_next HB0.out (bl_alloc _ _)) hb1)
  obtain ⟨⟨x0, x1, x2, x3⟩, _, hltx⟩ := res_facts ((hb1.block _ (lt_of_block HT.out)).trans HT.out)
  obtain ⟨⟨y0, y1, y2, y3⟩, _, hlty⟩ := res_facts ((hb1.block _ (lt_of_block HO.out)).trans HO.out)
  clear hb1 f0 f1 f2 f3
  go_wp2_with fail
  refine (text_none _).mono ?_
  rintro e w2 ⟨rfl, rfl⟩
  go_wp2_with fail
  refine (HN.out _ HB1.out).mono ?_
  rintro e w2 ⟨rfl, rfl⟩
  go_wp2_with fail
  go_ret
  exact ⟨rfl, HB1.out⟩

theorem typeFits_c (n : Nat) (v : Value) (D : Ty) (w : World) (h : TyAt w false (n + 1) v D) (hn : NormT (n + 1) D) (hw : Words w) (hf : Forms w) :
    Calls Tryz.prog 105 #[v] w fun e w' => e = .returned (.bool true) ∧ Below w.heap.size w w' := by
  obtain ⟨k, nm, na, nc, ka, kc, ns, ks, rfl, rfl, _, _, _, ⟨_, hnl⟩, ⟨_, hkl⟩, hns, _⟩ := h
  have hnm : ∀ {l : List UInt8}, nm.data.toList = l → l = [] → nm = ⟨#[]⟩ := fun e1 e2 => by
    cases nm
    rw [e2] at e1
    simp at e1
    rw [e1]
  rcases hn with ⟨k', h0, h4, e⟩ | ⟨ns', ks', e, h2, h3, h4, _⟩ | ⟨a, b, e, _⟩ | ⟨ks', e, h2, _⟩
  · obtain ⟨e1, e2, e3, e4⟩ := mkT_inj e
    obtain rfl := hnm e2 rfl
    subst e1 e3 e4
    obtain ⟨m, rfl⟩ : ∃ m : Nat, k = m := ⟨k.toNat, by omega⟩
    have hm : m ≤ 4 := by omega
    have hfv : formV m = (0, 0, 0, false) := by
      unfold formV
      rw [if_neg (by omega), if_neg (by omega), if_neg (by omega), if_neg (by omega)]
    exact fits_one m 0 0 na nc ka kc w (by omega) hf (by rw [hfv]) (by rw [hfv]; exact Nat.le_refl _) (by rw [hfv]; exact Nat.le_refl _) (by omega) fun wx _ => by rw [hfv]; exact names_none na nc 0 wx
  · obtain ⟨e1, e2, e3, e4⟩ := mkT_inj e
    obtain rfl := hnm e2 rfl
    subst e1 e3 e4
    refine fits_one 5 ns.length ks.length na nc ka kc w (by omega) hf rfl (Nat.zero_le _) (Nat.le_trans hkl (by decide)) hkl fun wx hwx => ?_
    rw [← h2]
    exact names_all na nc ns wx (hw.below hwx) (names_below hns hwx) hnl h4
  · obtain ⟨e1, e2, e3, e4⟩ := mkT_inj e
    obtain rfl := hnm e2 rfl
    subst e1 e3 e4
    exact fits_one 6 0 2 na nc ka kc w (by omega) hf rfl (Nat.le_refl _) (Nat.le_refl _) (by omega) fun wx _ => names_none na nc 2 wx
  · obtain ⟨e1, e2, e3, e4⟩ := mkT_inj e
    obtain rfl := hnm e2 rfl
    subst e1 e3 e4
    exact fits_one 7 0 ks.length na nc ka kc w (by omega) hf rfl h2 (Nat.le_trans hkl (by decide)) hkl fun wx _ => names_none na nc ks.length wx
end Go.Proofs.YthieoabbjekpkabGreatDoor

/- Expressions that lie in memory, those that have no Types and no Names: their trees (a number N is N empty names). -/
namespace Go.Proofs.YthieoabbjekpkabGreatDoor
open Go.RowKit

/-- What a node bears beside: its place, and where its empty lists lie. -/
structure PX where
  li : Int
  co : Int
  ta : Option Addr
  tc : Nat
  na : Option Addr
  nc : Nat

abbrev ndV (k : Nat) (tx : ByteArray) (N : Nat) (pq : PX) (ka : Option Addr) (kl kc : Nat) : Value := .agg #[.int .i64 k, .string tx, .int .i64 N, .int .i64 pq.li, .int .i64 pq.co, .slice pq.ta 0 pq.tc, .slice pq.na 0 pq.nc, .slice ka kl kc]
abbrev ndO (k : Nat) (tx : ByteArray) (N : Nat) (pq : PX) (ka : Option Addr) (kl kc : Nat) : Obj := .cells #[.int .i64 k, .string tx, .int .i64 N, .int .i64 pq.li, .int .i64 pq.co, .slice pq.ta 0 pq.tc, .slice pq.na 0 pq.nc, .slice ka kl kc] 27
def mkN (k : Nat) (tx : List UInt8) (N : Nat) (ks : List Ty) : Ty := mkT k tx (List.replicate N []) ks

/-- The eight cells of a node. -/
def NCells (w : World) (b o : Nat) (k : Nat) (tx : ByteArray) (N : Nat) (pq : PX) (ka : Option Addr) (kl kc : Nat) : Prop :=
  w.cell? ⟨b, o, none⟩ = some (.int .i64 k) ∧ w.cell? ⟨b, o + 1, none⟩ = some (.string tx) ∧ w.cell? ⟨b, o + 2, none⟩ = some (.int .i64 N) ∧ w.cell? ⟨b, o + 3, none⟩ = some (.int .i64 pq.li) ∧ w.cell? ⟨b, o + 4, none⟩ = some (.int .i64 pq.co) ∧
  w.cell? ⟨b, o + 5, none⟩ = some (.slice pq.ta 0 pq.tc) ∧ w.cell? ⟨b, o + 6, none⟩ = some (.slice pq.na 0 pq.nc) ∧ w.cell? ⟨b, o + 7, none⟩ = some (.slice ka kl kc)

def NRow (w : World) (T : Nat → ByteArray → Nat → PX → Option Addr → Nat → Nat → Ty → Prop) (ka : Option Addr) (ks : List Ty) : Prop :=
  ks = [] ∨ ∃ b o, ka = some ⟨b, o, none⟩ ∧ CleanB w b ∧ ∀ i (h : i < ks.length), ∃ k tx N pq la ll lc, NCells w b (o + i * 8) k tx N pq la ll lc ∧ T k tx N pq la ll lc ks[i]

/-- These parts are a node, at most n deep, whose tree is D. -/
def NdAt (w : World) : Nat → Nat → ByteArray → Nat → PX → Option Addr → Nat → Nat → Ty → Prop
  | 0, _, _, _, _, _, _, _, _ => False
  | n + 1, k, tx, N, _, ka, kl, kc, D => ∃ ks : List Ty, kl = ks.length ∧ D = mkN k tx.data.toList N ks ∧ k ≤ 1000 ∧ tx.size ≤ 1000 ∧ N ≤ 1000 ∧ 0 ≤ kc ∧ ks.length ≤ 1000 ∧ NRow w (NdAt w n) ka ks

abbrev NKids (w : World) (n : Nat) (ka : Option Addr) (ks : List Ty) : Prop := NRow w (NdAt w n) ka ks

section
variable {w w' : World} {n m : Nat} {k : Nat} {tx : ByteArray} {N : Nat} {pq : PX} {ka : Option Addr} {kl kc : Nat} {D : Ty} {ks : List Ty}

theorem NCells.below {b o : Nat} (h : NCells w b o k tx N pq ka kl kc) (hlt : b < w.heap.size) (hb : Below w.heap.size w w') : NCells w' b o k tx N pq ka kl kc := by
  obtain ⟨h0, h1, h2, h3, h4, h5, h6, h7⟩ := h
  exact ⟨(hb.cell (p := ⟨b, o, none⟩) hlt).trans h0, (hb.cell (p := ⟨b, o + 1, none⟩) hlt).trans h1, (hb.cell (p := ⟨b, o + 2, none⟩) hlt).trans h2, (hb.cell (p := ⟨b, o + 3, none⟩) hlt).trans h3, (hb.cell (p := ⟨b, o + 4, none⟩) hlt).trans h4, (hb.cell (p := ⟨b, o + 5, none⟩) hlt).trans h5, (hb.cell (p := ⟨b, o + 6, none⟩) hlt).trans h6, (hb.cell (p := ⟨b, o + 7, none⟩) hlt).trans h7⟩

theorem nd_below (h : NdAt w n k tx N pq ka kl kc D) (hb : Below w.heap.size w w') : NdAt w' n k tx N pq ka kl kc D := by
  induction n generalizing k tx N pq ka kl kc D with
  | zero => exact h.elim
  | succ n ih =>
    obtain ⟨ks, e1, e2, h1, h2, h3, h4, h5, h6⟩ := h
    refine ⟨ks, e1, e2, h1, h2, h3, h4, h5, ?_⟩
    rcases h6 with h6 | ⟨b, o, e, hcl, hc⟩
    · exact .inl h6
    · refine .inr ⟨b, o, e, clean_below hcl hb, fun i hi => ?_⟩
      obtain ⟨k, tx, N, pq, la, ll, lc, q, ht⟩ := hc i hi
      exact ⟨k, tx, N, pq, la, ll, lc, q.below (clean_lt hcl) hb, ih ht⟩

theorem nkids_below (h : NKids w n ka ks) (hb : Below w.heap.size w w') : NKids w' n ka ks := by
  rcases h with h6 | ⟨b, o, e, hcl, hc⟩
  · exact .inl h6
  · refine .inr ⟨b, o, e, clean_below hcl hb, fun i hi => ?_⟩
    obtain ⟨k, tx, N, pq, la, ll, lc, q, ht⟩ := hc i hi
    exact ⟨k, tx, N, pq, la, ll, lc, q.below (clean_lt hcl) hb, nd_below ht hb⟩

theorem nkid_at (h : NKids w n ka ks) {i : Nat} (hi : i < ks.length) : ∃ b o k tx N pq la ll lc, ka = some ⟨b, o, none⟩ ∧ b < w.heap.size ∧ NCells w b (o + i * 8) k tx N pq la ll lc ∧ NdAt w n k tx N pq la ll lc ks[i] := by
  rcases h with rfl | ⟨b, o, rfl, hcl, hc⟩
  · cases hi
  · obtain ⟨k, tx, N, pq, la, ll, lc, q, ht⟩ := hc i hi
    exact ⟨b, o, k, tx, N, pq, la, ll, lc, rfl, clean_lt hcl, q, ht⟩

theorem nd_det {D' : Ty} (h : NdAt w n k tx N pq ka kl kc D) (h' : NdAt w m k tx N pq ka kl kc D') : D = D' := by
  induction n generalizing m k tx N pq ka kl kc D D' with
  | zero => exact h.elim
  | succ n ih =>
    cases m with
    | zero => exact h'.elim
    | succ m =>
      obtain ⟨ks, e1, rfl, _, _, _, _, _, h6⟩ := h
      obtain ⟨ks', e1', rfl, _, _, _, _, _, h6'⟩ := h'
      have hl : ks.length = ks'.length := by omega
      have : ks = ks' := by
        rcases h6 with rfl | ⟨b, o, rfl, _, hc⟩
        · exact (List.length_eq_zero_iff.1 hl.symm).symm
        · rcases h6' with rfl | ⟨b', o', ha, _, hc'⟩
          · exact List.length_eq_zero_iff.1 hl
          · injection ha with ha
            injection ha with hb ho
            subst hb ho
            refine List.ext_getElem hl fun i h1 h2 => ?_
            obtain ⟨k, tx, N, pq, la, ll, lc, ⟨q0, q1, q2, q3, q4, q5, q6, q7⟩, ht⟩ := hc i h1
            obtain ⟨k', tx', N', pq', la', ll', lc', ⟨p0, p1, p2, p3, p4, p5, p6, p7⟩, ht'⟩ := hc' i h2
            have e0 := Option.some.inj (q0.symm.trans p0)
            have e1 := Option.some.inj (q1.symm.trans p1)
            have e2 := Option.some.inj (q2.symm.trans p2)
            have e3 := Option.some.inj (q3.symm.trans p3)
            have e4 := Option.some.inj (q4.symm.trans p4)
            have e5 := Option.some.inj (q5.symm.trans p5)
            have e6 := Option.some.inj (q6.symm.trans p6)
            have e7 := Option.some.inj (q7.symm.trans p7)
            injection e0 with _ e0
            injection e1 with e1
            injection e2 with _ e2
            injection e3 with _ e3
            injection e4 with _ e4
            injection e5 with e5 _ e5c
            injection e6 with e6 _ e6c
            have eP : pq = pq' := by cases pq; cases pq'; simp_all
            injection e7 with e7 e8 e9
            have e0' : k = k' := by omega
            have e2' : N = N' := by omega
            subst e0' e1 e2' eP e7 e8 e9
            exact ih ht ht'
      rw [this]

theorem nkids_det {ks' : List Ty} (h : NKids w n ka ks) (h' : NKids w m ka ks') (hl : ks.length = ks'.length) : ks = ks' := by
  rcases h with rfl | ⟨b, o, rfl, _, hc⟩
  · exact (List.length_eq_zero_iff.1 hl.symm).symm
  · rcases h' with rfl | ⟨b', o', ha, _, hc'⟩
    · exact List.length_eq_zero_iff.1 hl
    · injection ha with ha
      injection ha with hb ho
      subst hb ho
      refine List.ext_getElem hl fun i h1 h2 => ?_
      obtain ⟨k, tx, N, pq, la, ll, lc, ⟨q0, q1, q2, q3, q4, q5, q6, q7⟩, ht⟩ := hc i h1
      obtain ⟨k', tx', N', pq', la', ll', lc', ⟨p0, p1, p2, p3, p4, p5, p6, p7⟩, ht'⟩ := hc' i h2
      have e0 := Option.some.inj (q0.symm.trans p0)
      have e1 := Option.some.inj (q1.symm.trans p1)
      have e2 := Option.some.inj (q2.symm.trans p2)
      have e3 := Option.some.inj (q3.symm.trans p3)
      have e4 := Option.some.inj (q4.symm.trans p4)
      have e5 := Option.some.inj (q5.symm.trans p5)
      have e6 := Option.some.inj (q6.symm.trans p6)
      have e7 := Option.some.inj (q7.symm.trans p7)
      injection e0 with _ e0
      injection e1 with e1
      injection e2 with _ e2
      injection e3 with _ e3
      injection e4 with _ e4
      injection e5 with e5 _ e5c
      injection e6 with e6 _ e6c
      have eP : pq = pq' := by cases pq; cases pq'; simp_all
      injection e7 with e7 e8 e9
      have e0' : k = k' := by omega
      have e2' : N = N' := by omega
      subst e0' e1 e2' eP e7 e8 e9
      exact nd_det ht ht'
end

/-- The cells of a row of eight. -/
theorem nd_facts {w1 : World} {b : Nat} {k : Nat} {tx : ByteArray} {N : Nat} {pq : PX} {ka : Option Addr} {kl kc : Nat} (h : w1.heap[b]? = some (ndO k tx N pq ka kl kc)) : NCells w1 b 0 k tx N pq ka kl kc ∧ b < w1.heap.size := by
  refine ⟨⟨?_, ?_, ?_, ?_, ?_, ?_, ?_, ?_⟩, lt_of_block h⟩
  all_goals (rw [cell_of_row _ _ _ _ _ _ h]; rfl)
end Go.Proofs.YthieoabbjekpkabGreatDoor

/- What tree asks of a node: its text, its N, its Kids; by contracts. -/
namespace Go.Proofs.YthieoabbjekpkabGreatDoor
open Go.RowKit

/-- The operations of two. -/
def opsV : List (List UInt8) := [[111, 114], [97, 110, 100], [60], [60, 61], [61, 61], [43, 43], [43], [45], [94], [42], [47], [37], [38], [60, 60], [62, 62]]
def opB (i : Nat) : ByteArray := ⟨(opsV.getD i []).toArray⟩
def OpsN (w : World) : Prop := ∀ i, i < 15 → w.cell? ⟨5, i, none⟩ = some (.string (opB i))
theorem OpsN.lt {w : World} (h : OpsN w) : 5 < w.heap.size := World.block_lt_of_cell? w _ (h 0 (by decide))
theorem OpsN.below {w w' : World} (h : OpsN w) (hb : Below w.heap.size w w') : OpsN w' := fun i hi => (hb.cell (show 5 < w.heap.size from h.lt)).trans (h i hi)
def opsA : List Value := (List.range 15).map fun i => .string (opB i)
theorem ops_at (i : Nat) (hi : i < 15) : opsA[i]? = some (.string (opB i)) := by simp [opsA, hi]
theorem OpsN.range {w : World} (h : OpsN w) : w.rangeAt 5 0 opsA := by
  intro j v hv
  have hj : j < 15 := by
    have := (List.getElem?_eq_some_iff.1 hv).1
    simpa [opsA] using this
  rw [ops_at j hj] at hv
  injection hv with hv
  rw [← hv, Nat.zero_add]
  exact h j hj
theorem ops_size : (Tryz.prog.info? 171).map (·.size) = some opsA.length := by kernel_rfl
def noOp (s : ByteArray) (k : Nat) : Prop := ∀ i, i < k → s ≠ opB i
theorem ops_mem (s : ByteArray) : opsV.contains s.data.toList = true ↔ ∃ i, i < 15 ∧ s = opB i := by
  rw [List.contains_iff_mem]
  constructor
  · intro h
    obtain ⟨i, hi, e⟩ := List.mem_iff_getElem.1 h
    refine ⟨i, hi, ?_⟩
    unfold opB
    rw [List.getD_eq_getElem?_getD, List.getElem?_eq_getElem hi, Option.getD_some, e]
  · rintro ⟨i, hi, e⟩
    rw [e]
    unfold opB
    rw [List.getD_eq_getElem?_getD, List.getElem?_eq_getElem (show i < opsV.length from hi), Option.getD_some]
    exact List.getElem_mem ..
theorem ops_index {A : List Value} {k : Nat} {t : ByteArray} (hk : k < 15) (h : A[k]? = some (.string t)) (w : World) :
    (Instr.index 171 (.agg A.toArray) (.int .i64 k)).run Tryz.prog w = .ok (.string t) w := by
  have hu := Tryz.underlying171
  have ha := Tryz.isAgg9
  have hz := Tryz.sizeOf9
  simp [Instr.index, asIntOf, run_underlying hu, part, ha, hz, Result.andThen, hk]
  rw [h]
  rfl

set_option maxRecDepth 100000 in
theorem isOp_c (s : ByteArray) (w : World) (hw : OpsN w) :
    Calls Tryz.prog 101 #[.string s] w fun e w' => e = .returned (.bool (opsV.contains s.data.toList)) ∧ w' = w := by
  obtain ⟨b, hb⟩ : ∃ b, b = opsV.contains s.data.toList := ⟨_, rfl⟩
  rw [← hb]
  have HB := hideP hb
  clear hb
  have hr := hideP hw.range
  obtain ⟨A, hA⟩ : ∃ A, A = opsA := ⟨_, rfl⟩
  have hat := ops_at
  have hsz := ops_size
  rw [← hA] at hr hat hsz
  clear hA hw
  have HA := hideP hat
  clear hat
  go_enter Tryz.func101, Tryz.ntmps101
  go_wp2_with (refine wpList_load_mid rfl 171 (.global 5) rfl 5 0 rfl A (.array 15 9) hr.out Tryz.underlying171 rfl hsz ?_)
  go_loop [6] (fun i => ∃ k : Nat, k ≤ 15 ∧ i = .int .i64 k ∧ Hid (noOp s k)) (fun i => 15 - (intOf i).toNat)
  case atStart => exact ⟨0, by omega, rfl, fun i hi => by omega⟩
  case round =>
    obtain ⟨k, hk, rfl, hno⟩ := hrel
    by_cases hlt : k < 15
    · have hAk := HA.out k hlt
      obtain ⟨t, ht⟩ : ∃ t, t = opB k := ⟨_, rfl⟩
      rw [← ht] at hAk
      have hix := ops_index hlt hAk w
      clear hAk
      have HT := hideP ht
      clear ht
      cases hq : (s.toList == t.toList)
      · have hno' : Hid (noOp s (k + 1)) := fun i hi => by
          by_cases hik : i = k
          · subst hik; rw [← HT.out]; exact str_ne hq
          · exact hno.out i (by omega)
        go_wp2
        go_round
        case rel => exact ⟨k + 1, by omega, by go_num, hno'⟩
        case measure => simp [intOf]; omega
      · have e : b = true := by
          rw [HB.out]
          exact (ops_mem s).2 ⟨k, hlt, (str_eq.1 hq).trans HT.out⟩
        subst e
        go_wp2
        go_ret
        exact ⟨rfl, rfl⟩
    · have e : b = false := by
        rw [HB.out, Bool.eq_false_iff]
        intro h
        obtain ⟨i, hi, e⟩ := (ops_mem s).1 h
        exact hno.out i (by omega) e
      subst e
      go_wp2
      go_ret
      exact ⟨rfl, rfl⟩


theorem text_op (s : ByteArray) (w : World) (hw : OpsN w) : Calls Tryz.prog 65 #[.string s, .int .i64 3] w fun e w' => e = .returned (.bool (opsV.contains s.data.toList)) ∧ w' = w := by
  have HC := hideP (isOp_c s w hw)
  clear hw
  generalize opsV.contains s.data.toList = b at HC
  go_enter Tryz.func65, Tryz.ntmps65
  go_wp2_with fail
  refine HC.out.mono ?_
  rintro e w' ⟨rfl, rfl⟩
  go_wp2_with fail
  go_ret
  exact ⟨rfl, rfl⟩

theorem text_name (s : ByteArray) (hs : s.size ≤ 1000) (w : World) (hw : Words w) : Calls Tryz.prog 65 #[.string s, .int .i64 1] w fun e w' => e = .returned (.bool (nameV s.data.toList)) ∧ w' = w := by
  have HC := hideP (name_c s (by omega) w hw)
  clear hw
  generalize nameV s.data.toList = b at HC
  go_enter Tryz.func65, Tryz.ntmps65
  go_wp2_with fail
  refine HC.out.mono ?_
  rintro e w' ⟨rfl, rfl⟩
  go_wp2_with fail
  go_ret
  exact ⟨rfl, rfl⟩

theorem allNone_c (a : Option Addr) (c : Nat) (w : World) : Calls Tryz.prog 67 #[.slice a 0 c, .func (.func 68) #[] #[]] w fun e w' => e = .returned (.bool true) ∧ w' = w := by
  go_enter Tryz.func67, Tryz.ntmps67
  go_wp2_with fail
  go_loopw [9] (fun i wx => i = .int .i64 0 ∧ wx = w) (fun _ _ => 0)
  case atStart => exact ⟨rfl, rfl⟩
  case round =>
    obtain ⟨rfl, rfl⟩ := hrel
    go_wp2_with fail
    go_ret
    exact ⟨rfl, by first | rfl | trivial⟩

/-- What a node may have, by its kind: text, most N, Types, Kids, whether it is named; as the package's table lays it. -/
def formN (k : Nat) : Nat × Nat × Nat × Nat × Nat × Nat × Bool :=
  [(0, 9223372036854775807, 0, 0, 0, 0, false), (2, 0, 0, 0, 0, 0, false), (0, 1, 0, 0, 0, 0, false), (0, 0, 0, 0, 0, 0, false), (1, 0, 0, 0, 0, 0, false), (1, 0, 0, 1, 2, 2, false), (1, 0, 1, 2, 1, 1, false), (0, 0, 0, 0, 2, 2, false), (0, 0, 0, 0, 0, 9223372036854775807, true), (1, 0, 0, 0, 1, 1, false),
   (1, 0, 0, 0, 2, 2, false), (0, 0, 0, 0, 3, 3, false), (0, 5, 0, 0, 1, 1, false), (0, 0, 1, 1, 1, 1, false), (3, 0, 0, 0, 2, 2, false), (0, 0, 0, 0, 1, 1, false), (0, 0, 0, 0, 1, 1, false), (0, 0, 0, 0, 1, 1, false), (0, 0, 0, 0, 0, 0, false), (1, 0, 1, 9223372036854775807, 0, 0, false)].getD k (0, 0, 0, 0, 0, 0, false)
def FormsN (w : World) : Prop := ∀ k, k < 20 → w.cell? ⟨2, k * 7, none⟩ = some (.int .i64 (formN k).1) ∧ w.cell? ⟨2, k * 7 + 1, none⟩ = some (.int .i64 (formN k).2.1) ∧ w.cell? ⟨2, k * 7 + 2, none⟩ = some (.int .i64 (formN k).2.2.1) ∧ w.cell? ⟨2, k * 7 + 3, none⟩ = some (.int .i64 (formN k).2.2.2.1) ∧
  w.cell? ⟨2, k * 7 + 4, none⟩ = some (.int .i64 (formN k).2.2.2.2.1) ∧ w.cell? ⟨2, k * 7 + 5, none⟩ = some (.int .i64 (formN k).2.2.2.2.2.1) ∧ w.cell? ⟨2, k * 7 + 6, none⟩ = some (.bool (formN k).2.2.2.2.2.2)
theorem FormsN.lt {w : World} (h : FormsN w) : 2 < w.heap.size := World.block_lt_of_cell? w _ (h 0 (by decide)).1
theorem FormsN.below {w w' : World} (h : FormsN w) (hb : Below w.heap.size w w') : FormsN w' := fun k hk => by
  obtain ⟨h0, h1, h2, h3, h4, h5, h6⟩ := h k hk
  have hl : 2 < w.heap.size := h.lt
  exact ⟨(hb.cell hl).trans h0, (hb.cell hl).trans h1, (hb.cell hl).trans h2, (hb.cell hl).trans h3, (hb.cell hl).trans h4, (hb.cell hl).trans h5, (hb.cell hl).trans h6⟩

theorem frm_facts {w1 : World} {b : Nat} {y0 y1 y2 y3 y4 y5 y6 : Value} {t : TypeId} (h : w1.heap[b]? = some (.cells #[y0, y1, y2, y3, y4, y5, y6] t)) :
    (w1.cell? ⟨b, 0, none⟩ = some y0 ∧ w1.cell? ⟨b, 1, none⟩ = some y1 ∧ w1.cell? ⟨b, 2, none⟩ = some y2 ∧ w1.cell? ⟨b, 3, none⟩ = some y3 ∧ w1.cell? ⟨b, 4, none⟩ = some y4 ∧ w1.cell? ⟨b, 5, none⟩ = some y5 ∧ w1.cell? ⟨b, 6, none⟩ = some y6) ∧ b < w1.heap.size := by
  refine ⟨⟨?_, ?_, ?_, ?_, ?_, ?_, ?_⟩, lt_of_block h⟩
  all_goals (rw [cell_of_row _ _ _ _ _ _ h]; rfl)

set_option maxHeartbeats 4000000 in
set_option maxRecDepth 100000 in
theorem fitsN_one (k : Nat) (tx : ByteArray) (N : Nat) (pq : PX) (ka : Option Addr) (kl kc : Nat) (tb : Bool) (w : World) (hk : k < 20) (hf : FormsN w) (hN : N ≤ (formN k).2.1) (ht : (formN k).2.2.1 = 0) (h1 : (formN k).2.2.2.2.1 ≤ kl) (h2 : kl ≤ (formN k).2.2.2.2.2.1) (hn : (formN k).2.2.2.2.2.2 = false) (_ : kl ≤ 1000) (_ : N ≤ 1000)
    (hT : ∀ wx, Below w.heap.size w wx → Calls Tryz.prog 65 #[.string tx, .int .i64 (formN k).1] wx fun e w' => e = .returned (.bool tb) ∧ w' = wx) :
    Calls Tryz.prog 34 #[ndV k tx N pq ka kl kc] w fun e w' => e = .returned (.bool tb) ∧ Below w.heap.size w w' := by
  have hb0 := bl_alloc w (ndO k tx N pq ka kl kc)
  obtain ⟨f0, f1, f2, f3, f4, f5, f6⟩ := hf k hk
  rw [ht] at f2
  rw [hn] at f6
  have hlt := hf.lt
  obtain ⟨⟨t, mN, tl, tm, l, m, nb⟩, hq⟩ : ∃ q, q = formN k := ⟨_, rfl⟩
  rw [← hq] at f0 f1 f3 f4 f5 hN h1 h2 hT
  simp only at f0 f1 f3 f4 f5 hN h1 h2 hT
  have HH := hideP (fun wx => holds_c l m kl h1 (by omega) wx)
  have HH0 := hideP (fun wx => holds_c 0 tm 0 (Nat.le_refl _) (by omega) wx)
  have HTX := hideP hT
  have HB0 := hideP hb0
  have k9 : ¬ (20 : Int) ≤ (k : Int) := by omega
  have k9' : (k : Int) < 20 := by omega
  have k0 : ¬ (k : Int) < 0 := by omega
  have n0 : ¬ (N : Int) < 0 := by omega
  have n1 : ¬ (mN : Int) < (N : Int) := by omega
  clear hq ht hn hf hT hb0
  go_enter Tryz.func34, Tryz.ntmps34
  go_wp2_with fail
  have HT : Hid (((w.alloc (ndO k tx N pq ka kl kc)).alloc (.cells #[.int .i64 t, .int .i64 mN, .int .i64 0, .int .i64 tm, .int .i64 l, .int .i64 m, .bool false] 115)).heap[w.heap.size]? = some (ndO k tx N pq ka kl kc)) := (Below.heap_alloc _ _ _ (by simp)).trans (heap_alloc_last w _)
  have HO : Hid (((w.alloc (ndO k tx N pq ka kl kc)).alloc (.cells #[.int .i64 t, .int .i64 mN, .int .i64 0, .int .i64 tm, .int .i64 l, .int .i64 m, .bool false] 115)).heap[w.heap.size + 1]? = some (.cells #[.int .i64 t, .int .i64 mN, .int .i64 0, .int .i64 tm, .int .i64 l, .int .i64 m, .bool false] 115)) := heap_at1 w _ _
  refine (HH0.out _).mono ?_
  rintro e w1 ⟨rfl, hb1⟩
  have HB1 := hideP (below_next (below_next HB0.out (bl_alloc _ _)) hb1)
  have HT1 := hideP ((hb1.block _ (lt_of_block HT.out)).trans HT.out)
  have HO1 := hideP ((hb1.block _ (lt_of_block HO.out)).trans HO.out)
  obtain ⟨⟨x0, x1, x2, x3, x4, x5, x6, x7⟩, hltx⟩ := nd_facts HT1.out
  obtain ⟨⟨y0, y1, y2, y3, y4, y5, y6⟩, hlty⟩ := frm_facts HO1.out
  simp only [Nat.zero_add] at x0 x1 x2 x3 x4 x5 x6 x7
  clear hb1 f0 f1 f2 f3 f4 f5 f6 HT HO
  go_wp2_with fail
  refine (HH.out _).mono ?_
  rintro e w2 ⟨rfl, hb2⟩
  have HB2 := hideP (below_next HB1.out hb2)
  have HT2 := hideP ((hb2.block _ (lt_of_block HT1.out)).trans HT1.out)
  have HO2 := hideP ((hb2.block _ (lt_of_block HO1.out)).trans HO1.out)
  clear hb2 x0 x1 x2 x3 x4 x5 x6 x7 y0 y1 y2 y3 y4 y5 y6 hltx hlty
  obtain ⟨⟨x0, x1, x2, x3, x4, x5, x6, x7⟩, hltx⟩ := nd_facts HT2.out
  obtain ⟨⟨y0, y1, y2, y3, y4, y5, y6⟩, hlty⟩ := frm_facts HO2.out
  simp only [Nat.zero_add] at x0 x1 x2 x3 x4 x5 x6 x7
  go_wp2_with fail
  refine (HTX.out _ HB2.out).mono ?_
  rintro e w3 ⟨rfl, rfl⟩
  cases tb
  · go_wp2_with fail
    go_ret
    exact ⟨rfl, HB2.out⟩
  · go_wp2_with fail
    refine (names_none pq.na pq.nc kl _).mono ?_
    rintro e w4 ⟨rfl, rfl⟩
    go_wp2_with fail
    refine (allNone_c _ _ _).mono ?_
    rintro e w5 ⟨rfl, rfl⟩
    go_wp2_with fail
    go_ret
    exact ⟨rfl, HB2.out⟩
end Go.Proofs.YthieoabbjekpkabGreatDoor
