/- Part of the proof of TreeNormal: the texts that follow, in build order. -/
import Derived.Test.YtmpcjcjacpjilabGreatDoorPart2
import Derived.Test.YtmpcjcjacpjilabGreatDoorPart1
import Derived.WalkSmall
import Derived.Laws.Rows
import Derived.Deep.WholeRow
import Derived.OneCell
import Derived.Deep.QuietTactic
import Derived.BigQuiet
import Derived.Laws.OwnMore
import Derived.Shelf.SlSortCmp.WholeK
import Derived.Shelf.SlSortCmp.NoneTotal
import Derived.Ground.SlsfProg
import Derived.Shelf.SlGeneric
import Derived.Shelf.Strings.Builder1
import Derived.Shelf.Strings.Builder2
import Derived.Shelf.Strings.OnBuilder
import Derived.Shelf.Small.Bits
import Derived.Shelf.Small.Strs
import Derived.Shelf.Strconv.Itoa0
import Derived.Shelf.Strconv.Itoa1
import Derived.Shelf.LaysM
import Derived.Shelf.Strconv.Itoa2
import Derived.Shelf.Strconv.Itoa3
import Derived.Shelf.Strings.Search1
import Derived.Shelf.Slices.Equal
import Derived.Shelf.Slices.Empties2
import Derived.Test.YtmpcjcjacpjilabGreatDoorProg
import Derived.Deep.MidRow

/- A type that came in as an argument, as a type that lies in memory; of whatever program. -/
namespace Go.Proofs.YtmpcjcjacpjilabGreatDoor
open Go.RowKit

theorem one_cell {cs : List Value} {o : Nat} (h : cs.length = 4) (ho : o < 4) : ∃ c, (cs.drop o).take 1 = [c] ∧ cs[o]? = some c := by
  match cs, h, o, ho with
  | [a, b, c, d], _, 0, _ => exact ⟨a, rfl, rfl⟩
  | [a, b, c, d], _, 1, _ => exact ⟨b, rfl, rfl⟩
  | [a, b, c, d], _, 2, _ => exact ⟨c, rfl, rfl⟩
  | [a, b, c, d], _, 3, _ => exact ⟨d, rfl, rfl⟩

theorem ty_of_trod {H : Type} {enc : TypeId × Value → H} {P : Program} {w : World} {T N K I S : TypeId} (R : TyRow P T N K I S) (fuel : Nat) : ∀ {cs : List Value} {x : DataW H × List MemPlace},
    DataW.trod enc P w 0 (fun _ => true) true fuel T cs = some x → (∀ m ∈ x.1.weights P T, m ≤ reachBytes) → (∀ b off, MemPlace.cell b off ∈ x.2 → w.frozen? ⟨b, off, none⟩ = false) → ∃ D, TyAt w false fuel (.agg cs.toArray) D := by
  induction fuel using Nat.strongRecOn with
  | ind fuel ih =>
    intro cs x h hw hfz
    obtain ⟨f0, f1, f2, f3, uT, ⟨t0, o0⟩, ⟨t1, o1⟩, ⟨t2, o2⟩, ⟨t3, o3⟩⟩ := R.uT
    obtain ⟨xs, n, rfl, rfl, hl, hxl, hf⟩ := DataW.trod_struct uT h
    rw [R.cT] at hl
    have hxl4 : xs.length = 4 := hxl
    obtain ⟨y0, y1, y2, y3, rfl⟩ : ∃ y0 y1 y2 y3, xs = [y0, y1, y2, y3] := by
      match xs, hxl4 with
      | [a, b, c, d], _ => exact ⟨a, b, c, d, rfl⟩
    have g0 := hf 0 f0 rfl
    have g1 := hf 1 f1 rfl
    have g2 := hf 2 f2 rfl
    have g3 := hf 3 f3 rfl
    rw [t0, o0, R.cI] at g0
    rw [t1, o1, R.cS] at g1
    rw [t2, o2, R.cN] at g2
    rw [t3, o3, R.cK] at g3
    obtain ⟨a0, e0, q0⟩ := one_cell (o := 0) hl (by omega)
    obtain ⟨a1, e1, q1⟩ := one_cell (o := 1) hl (by omega)
    obtain ⟨a2, e2, q2⟩ := one_cell (o := 2) hl (by omega)
    obtain ⟨a3, e3, q3⟩ := one_cell (o := 3) hl (by omega)
    have hcs : cs = [a0, a1, a2, a3] := by
      match cs, hl, q0, q1, q2, q3 with
      | [_, _, _, _], _, q0, q1, q2, q3 =>
        injection q0 with q0
        injection q1 with q1
        injection q2 with q2
        injection q3 with q3
        rw [q0, q1, q2, q3]
    rw [e0] at g0
    rw [e1] at g1
    rw [e2] at g2
    rw [e3] at g3
    have hwe : ∀ (j : Nat) (t : TypeId) (y : DataW H × List MemPlace), [I, S, N, K][j]? = some t → [y0, y1, y2, y3][j]? = some y → ∀ m ∈ y.1.weights P t, m ≤ reachBytes := by
      intro j t y hj hy m hm
      refine hw m ?_
      rw [DataW.weights, uT]
      refine DataW.weights_mem_each (j := j) (t := t) (d := y.1) ?_ ?_ m hm
      · show [f0.type, f1.type, f2.type, f3.type][j]? = some t
        rw [t0, t1, t2, t3]
        exact hj
      · rw [List.getElem?_map, hy]
        rfl
    obtain ⟨k, hk, ek, hwf⟩ := DataW.trod_int R.uI g0
    obtain ⟨s, hs, es, _⟩ := DataW.trod_string R.uS g1
    obtain ⟨na, nc, ns, hn, hna, hns, hn1, hn2⟩ := names_of_trod R g2 (hwe 2 N y2 rfl rfl)
    injection hk with hk _
    injection hs with hs _
    injection hn with hn _
    subst hk hs hn
    have hsl : s.size ≤ reachBytes := by
      have := hwe 1 S y1 rfl rfl s.data.toList.length (by
        have e : y1 = (DataW.lit (Lit.string s.data.toList), []) := es
        rw [e, DataW.weights]
        exact List.mem_singleton.2 rfl)
      rwa [byteArray_len] at this
    rcases DataW.trod_slice R.uK g3 with ⟨hk0, _⟩ | ⟨a, len, cap, elems, rest, m, rfl, hk0, hy, _, hlc, _, hlen, hel, hsp, _⟩
    · injection hk0 with hk0 _
      subst hk0 hcs
      exact ⟨_, k, s, na, nc, none, 0, ns, [], rfl, rfl, hwf, hsl, hns, ⟨hn1, Nat.le_trans hn1 hn2⟩, ⟨Nat.le_refl _, Nat.zero_le _⟩, hna, .inl rfl⟩
    · injection hk0 with hk0 _
      subst hk0 hcs
      have hwk := hwe 3 K y3 rfl rfl
      have hfk : ∀ b off, MemPlace.cell b off ∈ y3.2 → w.frozen? ⟨b, off, none⟩ = false := fun b off hm => hfz b off (by simp [hm])
      have hy32 : y3.2 = MemPlace.row a ((elems.length + rest.length) * P.cellsOf T) ++ (elems ++ rest).flatMap (·.2) := by rw [hy]
      rw [hy32, R.cT] at hfk
      have hy3 : y3.1 = DataW.slice (elems.map (·.1)) (rest.map (·.1)) := by rw [hy]
      rw [hy3] at hwk
      have hrl := (hsp rfl).1
      have hcap : cap ≤ reachBytes := by
        have h1 : (elems.length + rest.length) * P.bytesOf T ≤ reachBytes := hwk _ (by
          rw [DataW.weights, R.uK]
          simp)
        have h2 := Nat.le_mul_of_pos_right (elems.length + rest.length) R.bT
        omega
      have hkid : ∀ i, i < len → ∃ c0 c1 c2 c3 D, w.cell? (a.add (i * 4)) = some c0 ∧ w.cell? ((a.add (i * 4)).add 1) = some c1 ∧ w.cell? ((a.add (i * 4)).add 2) = some c2 ∧ w.cell? ((a.add (i * 4)).add 3) = some c3 ∧ TyAt w false m (.agg #[c0, c1, c2, c3]) D := by
        intro i hi
        have h1 := hel i hi
        have h2 : i < elems.length := by omega
        rw [List.getElem?_eq_getElem h2, Option.bind_eq_some_iff, R.cT] at h1
        obtain ⟨cs', p1, p2⟩ := h1
        obtain ⟨_, hl4, p3⟩ := World.cells?_some p1
        obtain ⟨D, hD⟩ := ih m (by omega) p2 (fun mm hm => hwk mm (by
          rw [DataW.weights, R.uK]
          exact List.mem_cons_of_mem _ (List.mem_append_left _ (weights_all (d := elems[i].1) (List.mem_map.2 ⟨_, List.getElem_mem h2, rfl⟩) _ hm))))
          (fun b off hm => hfk b off (List.mem_append_right _ (List.mem_flatMap.2 ⟨elems[i], List.mem_append_left _ (List.getElem_mem h2), hm⟩)))
        match cs', hl4, p3, hD with
        | [c0, c1, c2, c3], _, p3, hD =>
          have z0 := p3 0 (by omega)
          have hz : (a.add (i * 4)).add 0 = a.add (i * 4) := by simp [Addr.add]
          rw [hz] at z0
          exact ⟨c0, c1, c2, c3, D, z0, p3 1 (by omega), p3 2 (by omega), p3 3 (by omega), hD⟩
      by_cases h0 : len = 0
      · subst h0
        exact ⟨_, k, s, na, nc, some a, cap, ns, [], rfl, rfl, hwf, hsl, hns, ⟨hn1, Nat.le_trans hn1 hn2⟩, ⟨Nat.zero_le _, Nat.zero_le _⟩, hna, .inl rfl⟩
      · obtain ⟨b, o, spot⟩ := a
        obtain ⟨c0, _, _, _, _, hc0, _⟩ := hkid 0 (by omega)
        have hspot : spot = none := by simpa [Addr.add] using World.cell?_spot hc0
        subst hspot
        have hadd : ∀ i, (⟨b, o, none⟩ : Addr).add i = ⟨b, o + i, none⟩ := fun i => by unfold Addr.add; split <;> simp_all
        have hadd2 : ∀ i j, (⟨b, o + i, none⟩ : Addr).add j = ⟨b, o + i + j, none⟩ := fun i j => by unfold Addr.add; split <;> simp_all
        have hg : ∀ i, ∃ D, i < len → ∃ c0 c1 c2 c3, w.cell? ⟨b, o + i * 4, none⟩ = some c0 ∧ w.cell? ⟨b, o + i * 4 + 1, none⟩ = some c1 ∧ w.cell? ⟨b, o + i * 4 + 2, none⟩ = some c2 ∧ w.cell? ⟨b, o + i * 4 + 3, none⟩ = some c3 ∧ TyAt w false m (.agg #[c0, c1, c2, c3]) D := fun i => by
          by_cases hi : i < len
          · obtain ⟨c0, c1, c2, c3, D, h0, h1, h2, h3, hD⟩ := hkid i hi
            rw [hadd] at h0
            rw [hadd, hadd2] at h1 h2 h3
            exact ⟨D, fun _ => ⟨c0, c1, c2, c3, h0, h1, h2, h3, hD⟩⟩
          · exact ⟨.nil, fun h => absurd h hi⟩
        obtain ⟨f, hf⟩ := Classical.axiomOfChoice hg
        have hc0' : w.cell? ⟨b, o, none⟩ = some c0 := by simpa [Addr.add] using hc0
        refine ⟨_, k, s, na, nc, some ⟨b, o, none⟩, cap, ns, (List.range len).map f, by simp, rfl, hwf, hsl, hns, ⟨hn1, Nat.le_trans hn1 hn2⟩, ⟨by simpa using hlc, Nat.le_trans (by simpa using hlc) hcap⟩, hna, .inr ⟨b, o, rfl, World.block_lt_of_cell? w _ hc0', hfk b o (List.mem_append_left _ (List.mem_map.2 ⟨0, List.mem_range.2 (by omega), rfl⟩)), fun h => (by cases h), ?_⟩⟩
        intro i hi
        have hi' : i < len := by simpa using hi
        obtain ⟨c0, c1, c2, c3, h0, h1, h2, h3, hD⟩ := hf i hi'
        refine ⟨c0, c1, c2, c3, h0, h1, h2, h3, ?_⟩
        rw [List.getElem_map, List.getElem_range]
        exact ty_mono hD (by omega)
end Go.Proofs.YtmpcjcjacpjilabGreatDoor

/- How this program lays types out; small facts of memory that the contracts of stage 3 share. -/
namespace Go.Proofs.YtmpcjcjacpjilabGreatDoor
open Go.RowKit

theorem tyRow : TyRow Tryz.prog 25 22 23 3 9 where
  uT := ⟨_, _, _, _, Tryz.underlying25, ⟨rfl, rfl⟩, ⟨rfl, rfl⟩, ⟨rfl, rfl⟩, ⟨rfl, rfl⟩⟩
  uI := Tryz.underlying3
  uS := Tryz.underlying9
  uN := Tryz.underlying22
  uK := Tryz.underlying23
  cT := by kernel_rfl
  cI := by kernel_rfl
  cS := by kernel_rfl
  cN := by kernel_rfl
  cK := by kernel_rfl
  bT := of_decide_eq_true (by kernel_rfl)
  bS := of_decide_eq_true (by kernel_rfl)

theorem below_next {w w1 w2 : World} (h : Below w.heap.size w w1) (k : Below w1.heap.size w1 w2) : Below w.heap.size w w2 := h.trans (k.mono h.size)
theorem bl_alloc (w : World) (o : Obj) : Below w.heap.size w (w.alloc o) := (Below.refl _ w).alloc (Nat.le_refl _) o
theorem ret_int {k : IntKind} {a b : Int} (h : a = b) : Ending.returned (.int k a) = .returned (.int k b) := by rw [h]

/-- A type in a box of the call's own. -/
abbrev tyO (k : Int) (nm : ByteArray) (na : Option Addr) (nl nc : Nat) (ka : Option Addr) (kl kc : Nat) : Obj := .cells #[.int .i64 k, .string nm, .slice na nl nc, .slice ka kl kc] 25

/-- The box, as long as nothing of it turns. -/
theorem box_at {w wr : World} {k : Int} {nm : ByteArray} {na : Option Addr} {nl nc : Nat} {ka : Option Addr} {kl kc B : Nat} (h : Below B (w.alloc (tyO k nm na nl nc ka kl kc)) wr) (hB : w.heap.size < B) :
    wr.cell? ⟨w.heap.size, 0, none⟩ = some (.int .i64 k) ∧ wr.cell? ⟨w.heap.size, 1, none⟩ = some (.string nm) ∧ wr.cell? ⟨w.heap.size, 2, none⟩ = some (.slice na nl nc) ∧ wr.cell? ⟨w.heap.size, 3, none⟩ = some (.slice ka kl kc) := by
  have hh : wr.heap[w.heap.size]? = some (tyO k nm na nl nc ka kl kc) := (h.block _ hB).trans (heap_alloc_last w _)
  refine ⟨?_, ?_, ?_, ?_⟩ <;> (rw [cell_of_row _ _ _ _ _ _ hh]; rfl)

theorem sum_take (f : Ty → Nat) (ks : List Ty) (j : Nat) (hj : j < ks.length) : ((ks.take (j + 1)).map f).sum = ((ks.take j).map f).sum + f ks[j] := by
  rw [List.take_succ_eq_append_getElem hj, List.map_append, List.sum_append]
  simp
end Go.Proofs.YtmpcjcjacpjilabGreatDoor

/- types.Size by a contract. -/
namespace Go.Proofs.YtmpcjcjacpjilabGreatDoor
open Go.RowKit

set_option maxHeartbeats 1000000 in
theorem sizeUpTo_c (n : Nat) : ∀ (v : Value) (D : Ty) (w : World) (most : Nat), TyAt w false n v D → 1 ≤ most → most ≤ 201 →
    Calls Tryz.prog 19 #[v, .int .i64 most] w fun e w' => e = .returned (.int .i64 (min (sizeT n D) most : Nat)) ∧ Below w.heap.size w w' := by
  induction n with
  | zero => intro v D w most h; exact h.elim
  | succ n ih =>
    intro v D w most h h1 h2
    obtain ⟨k, nm, na, nc, ka, kc, ns, ks, rfl, rfl, _, _, _, ⟨_, hnl⟩, ⟨_, hkl⟩, _, hks⟩ := h
    have hkl' : ks.length ≤ 140737488351232 := hkl
    rw [sizeT, kids_mk]
    have HK := hideP hks
    clear hks hnl hkl
    go_enter Tryz.func19, Tryz.ntmps19
    go_wp2_with fail
    go_loopw [5, 11] (fun s i wr => ∃ (j m : Nat), s = .int .i64 m ∧ i = .int .i64 j ∧ j ≤ ks.length ∧ m ≤ most ∧ 1 ≤ m ∧ Hid (m = min (1 + ((ks.take j).map (sizeT n)).sum) most) ∧
      Hid (Below (w.heap.size + 1) (w.alloc (tyO k nm na ns.length nc ka ks.length kc)) wr)) (fun _ i _ => ks.length - (intOf i).toNat)
    case atStart => exact ⟨0, 1, rfl, rfl, Nat.zero_le _, h1, Nat.le_refl _, show _ = _ by simp; omega, Below.refl _ _⟩
    case round =>
      obtain ⟨j, m, rfl, rfl, hj, hm, hm1, hs, hb⟩ := hrel
      by_cases hlt : j < ks.length
      · have hjl : (j : Int) < (ks.length : Int) := by omega
        obtain ⟨b, o, k', nm', na', nl', nc', la', ll', lc', rfl, hbl, q0, q1, q2, q3, ht⟩ := kid_at HK.out hlt
        have hb0 : Below w.heap.size w wr := (bl_alloc _ _).trans (hb.out.mono (Nat.le_succ _))
        have r0 := (hb0.cell (p := ⟨b, o + j * 4, none⟩) hbl).trans q0
        have r1 := (hb0.cell (p := ⟨b, o + j * 4 + 1, none⟩) hbl).trans q1
        have r2 := (hb0.cell (p := ⟨b, o + j * 4 + 2, none⟩) hbl).trans q2
        have r3 := (hb0.cell (p := ⟨b, o + j * 4 + 3, none⟩) hbl).trans q3
        have HT := hideP (ty_below (ty_below ht hb0) (bl_alloc wr (tyO k' nm' na' nl' nc' la' ll' lc')))
        have hsz : w.heap.size + 1 ≤ wr.heap.size := by have := hb.out.size; simpa using this
        clear q0 q1 q2 q3 ht hb0
        by_cases he : m = most
        · subst he
          go_wp2_with fail
          go_ret
          refine ⟨ret_int ?_, ((bl_alloc _ _).trans (hb.out.mono (Nat.le_succ _))).alloc (by omega) _⟩
          have := hs.out
          have h3 := sum_take (sizeT n) ks j hlt
          have h4 : ((ks.take (j + 1)).map (sizeT n)).sum ≤ (ks.map (sizeT n)).sum := by
            have h5 := List.take_append_drop (j + 1) ks
            conv => rhs; rw [← h5, List.map_append, List.sum_append]
            omega
          omega
        · have hne : ((m : Int) == (most : Int)) = false := by rw [beq_eq_false_iff_ne]; omega
          go_wp2_with fail
          have hc := ih _ _ _ (most - m) HT.out (by omega) (by omega)
          rw [show ((most - m : Nat) : Int) = (most : Int) - (m : Int) by omega] at hc
          refine hc.mono ?_
          rintro e w' ⟨rfl, hb'⟩
          have HB := hideP hb'
          obtain ⟨x, hx⟩ : ∃ x : Nat, x = min (sizeT n ks[j]) (most - m) := ⟨_, rfl⟩
          rw [← hx]
          have HX := hideP hx
          have hxb : m + x ≤ most := by omega
          clear hb' hc hx
          go_wp2_with fail
          refine ⟨⟨j + 1, m + x, by go_num, by go_num, by omega, hxb, by omega, show _ = _ from ?_, hb.out.trans (((Below.refl _ _).alloc hsz _).trans (HB.out.mono (by simp; omega)))⟩, by simp [intOf]; omega⟩
          rw [sum_take _ _ _ hlt, HX.out]
          have := hs.out
          omega
      · have hjl : ¬ (j : Int) < (ks.length : Int) := by omega
        clear HK
        go_wp2_with fail
        go_ret
        refine ⟨ret_int ?_, (bl_alloc _ _).trans (hb.out.mono (Nat.le_succ _))⟩
        have e2 := hs.out
        rw [List.take_of_length_le (by omega)] at e2
        omega

theorem size_c (n : Nat) (v : Value) (D : Ty) (w : World) (h : TyAt w false n v D) :
    Calls Tryz.prog 10 #[v] w fun e w' => e = .returned (.int .i64 (min (sizeT n D) 201 : Nat)) ∧ Below w.heap.size w w' := by
  have hh := h
  cases n with
  | zero => exact h.elim
  | succ n =>
    obtain ⟨k, nm, na, nc, ka, kc, ns, ks, rfl, rfl, _⟩ := hh
    have HT := hideP (ty_below h (bl_alloc w (tyO k nm na ns.length nc ka ks.length kc)))
    clear h
    go_enter Tryz.func10, Tryz.ntmps10
    go_wp2_with fail
    refine (sizeUpTo_c _ _ _ _ 201 HT.out (by omega) (by omega)).mono ?_
    rintro e w' ⟨rfl, hb'⟩
    have HB := hideP (below_next (bl_alloc w _) hb')
    clear hb'
    go_wp2_with fail
    go_ret
    exact ⟨rfl, HB.out⟩
end Go.Proofs.YtmpcjcjacpjilabGreatDoor

/- Types in memory that was made from some block on, in rows that bear no mark. -/
namespace Go.Proofs.YtmpcjcjacpjilabGreatDoor
open Go.RowKit

def NamesF (w : World) (lo : Nat) (a : Option Addr) (ns : List (List UInt8)) : Prop :=
  ns = [] ∨ ∃ b o, a = some ⟨b, o, none⟩ ∧ lo ≤ b ∧ b < w.heap.size ∧ ∀ i (h : i < ns.length), w.cell? ⟨b, o + i, none⟩ = some (.string ⟨ns[i].toArray⟩)

def RowF (w : World) (lo : Nat) (T : Value → Ty → Prop) (ka : Option Addr) (ks : List Ty) : Prop :=
  ks = [] ∨ ∃ b o, ka = some ⟨b, o, none⟩ ∧ lo ≤ b ∧ CleanB w b ∧ ∀ i (h : i < ks.length), ∃ c0 c1 c2 c3, w.cell? ⟨b, o + i * 4, none⟩ = some c0 ∧ w.cell? ⟨b, o + i * 4 + 1, none⟩ = some c1 ∧
      w.cell? ⟨b, o + i * 4 + 2, none⟩ = some c2 ∧ w.cell? ⟨b, o + i * 4 + 3, none⟩ = some c3 ∧ T (.agg #[c0, c1, c2, c3]) ks[i]

/-- The value v is a type, at most n deep, whose tree is D, in memory from block lo on. -/
def TyF (w : World) (lo : Nat) : Nat → Value → Ty → Prop
  | 0, _, _ => False
  | n + 1, v, D => ∃ (k : Int) (nm : ByteArray) (na : Option Addr) (nc : Nat) (ka : Option Addr) (kc : Nat) (ns : List (List UInt8)) (ks : List Ty),
    v = .agg #[.int .i64 k, .string nm, .slice na ns.length nc, .slice ka ks.length kc] ∧ D = mkT k nm.data.toList ns ks ∧ (Lit.int .i64 k).wf = true ∧ nm.size ≤ reachBytes ∧ (∀ s ∈ ns, s.length ≤ reachBytes) ∧
    (ns.length ≤ nc ∧ ns.length ≤ reachBytes) ∧ (ks.length ≤ kc ∧ ks.length ≤ reachBytes) ∧ NamesF w lo na ns ∧ RowF w lo (fun v D => TyF w lo n v D) ka ks

abbrev KidsF (w : World) (lo n : Nat) (ka : Option Addr) (ks : List Ty) : Prop := RowF w lo (fun v D => TyF w lo n v D) ka ks

theorem clean_frozen {w : World} {b o : Nat} (h : CleanB w b) : w.frozen? ⟨b, o, none⟩ = false := by
  obtain ⟨cs, t, h⟩ := h
  simp [World.frozen?, h]

theorem clean_lt {w : World} {b : Nat} (h : CleanB w b) : b < w.heap.size := by
  obtain ⟨cs, t, h⟩ := h
  exact lt_of_block h

section
variable {w w' : World} {lo lo' n m : Nat} {v : Value} {D : Ty} {a ka : Option Addr} {ns : List (List UInt8)} {ks : List Ty}

theorem NamesF.at (h : NamesF w lo a ns) : NamesAt w a ns := by
  rcases h with h | ⟨b, o, e, _, hlt, hc⟩
  · exact .inl h
  · exact .inr ⟨b, o, e, hlt, hc⟩

theorem tyF_at (h : TyF w lo n v D) : TyAt w true n v D := by
  induction n generalizing v D with
  | zero => exact h.elim
  | succ n ih =>
    obtain ⟨k, nm, na, nc, ka, kc, ns, ks, h1, h2, h3, h4, h5, h6, h7, h8, h9⟩ := h
    refine ⟨k, nm, na, nc, ka, kc, ns, ks, h1, h2, h3, h4, h5, h6, h7, h8.at, ?_⟩
    rcases h9 with h9 | ⟨b, o, e, _, hcl, hc⟩
    · exact .inl h9
    · refine .inr ⟨b, o, e, clean_lt hcl, clean_frozen hcl, fun _ => hcl, fun i hi => ?_⟩
      obtain ⟨c0, c1, c2, c3, e0, e1, e2, e3, ht⟩ := hc i hi
      exact ⟨c0, c1, c2, c3, e0, e1, e2, e3, ih ht⟩

/-- It stays while blocks from lo on stay. -/
theorem tyF_keep (h : TyF w lo n v D) (hsz : w.heap.size ≤ w'.heap.size) (hk : ∀ b, lo ≤ b → b < w.heap.size → w'.heap[b]? = w.heap[b]?) : TyF w' lo n v D := by
  induction n generalizing v D with
  | zero => exact h.elim
  | succ n ih =>
    obtain ⟨k, nm, na, nc, ka, kc, ns, ks, h1, h2, h3, h4, h5, h6, h7, h8, h9⟩ := h
    refine ⟨k, nm, na, nc, ka, kc, ns, ks, h1, h2, h3, h4, h5, h6, h7, ?_, ?_⟩
    · rcases h8 with h8 | ⟨b, o, e, hl, hlt, hc⟩
      · exact .inl h8
      · exact .inr ⟨b, o, e, hl, Nat.lt_of_lt_of_le hlt hsz, fun i hi => (World.cell?_of_block (w := w) (a := ⟨b, o + i, none⟩) (hk b hl hlt)).trans (hc i hi)⟩
    · rcases h9 with h9 | ⟨b, o, e, hl, hcl, hc⟩
      · exact .inl h9
      · have hlt := clean_lt hcl
        have hcl' : CleanB w' b := by
          obtain ⟨cs, t, hh⟩ := hcl
          exact ⟨cs, t, (hk b hl hlt).trans hh⟩
        refine .inr ⟨b, o, e, hl, hcl', fun i hi => ?_⟩
        obtain ⟨c0, c1, c2, c3, e0, e1, e2, e3, ht⟩ := hc i hi
        have hcell : ∀ j, w'.cell? ⟨b, j, none⟩ = w.cell? ⟨b, j, none⟩ := fun j => World.cell?_of_block (w := w) (a := ⟨b, j, none⟩) (hk b hl hlt)
        exact ⟨c0, c1, c2, c3, (hcell _).trans e0, (hcell _).trans e1, (hcell _).trans e2, (hcell _).trans e3, ih ht⟩

theorem tyF_below (h : TyF w lo n v D) (hb : Below w.heap.size w w') : TyF w' lo n v D := tyF_keep h hb.size fun b _ hlt => hb.block b hlt

theorem tyF_lower (h : TyF w lo n v D) (hl : lo' ≤ lo) : TyF w lo' n v D := by
  induction n generalizing v D with
  | zero => exact h.elim
  | succ n ih =>
    obtain ⟨k, nm, na, nc, ka, kc, ns, ks, h1, h2, h3, h4, h5, h6, h7, h8, h9⟩ := h
    refine ⟨k, nm, na, nc, ka, kc, ns, ks, h1, h2, h3, h4, h5, h6, h7, ?_, ?_⟩
    · rcases h8 with h8 | ⟨b, o, e, hb, hlt, hc⟩
      · exact .inl h8
      · exact .inr ⟨b, o, e, by omega, hlt, hc⟩
    · rcases h9 with h9 | ⟨b, o, e, hb, hcl, hc⟩
      · exact .inl h9
      · refine .inr ⟨b, o, e, by omega, hcl, fun i hi => ?_⟩
        obtain ⟨c0, c1, c2, c3, e0, e1, e2, e3, ht⟩ := hc i hi
        exact ⟨c0, c1, c2, c3, e0, e1, e2, e3, ih ht⟩

theorem tyF_mono (h : TyF w lo n v D) (hm : n ≤ m) : TyF w lo m v D := by
  induction n generalizing m v D with
  | zero => exact h.elim
  | succ n ih =>
    obtain ⟨m, rfl⟩ : ∃ p, m = p + 1 := ⟨m - 1, by omega⟩
    obtain ⟨k, nm, na, nc, ka, kc, ns, ks, h1, h2, h3, h4, h5, h6, h7, h8, h9⟩ := h
    refine ⟨k, nm, na, nc, ka, kc, ns, ks, h1, h2, h3, h4, h5, h6, h7, h8, ?_⟩
    rcases h9 with h9 | ⟨b, o, e, hb, hcl, hc⟩
    · exact .inl h9
    · refine .inr ⟨b, o, e, hb, hcl, fun i hi => ?_⟩
      obtain ⟨c0, c1, c2, c3, e0, e1, e2, e3, ht⟩ := hc i hi
      exact ⟨c0, c1, c2, c3, e0, e1, e2, e3, ih ht (by omega)⟩

/-- A fresh type is a value of four cells. -/
theorem tyF_form (h : TyF w lo n v D) : ∃ (k : Int) (nm : ByteArray) (na : Option Addr) (nl nc : Nat) (ka : Option Addr) (kl kc : Nat), v = .agg #[.int .i64 k, .string nm, .slice na nl nc, .slice ka kl kc] ∧ kindT D = k := by
  cases n with
  | zero => exact h.elim
  | succ n =>
    obtain ⟨k, nm, na, nc, ka, kc, ns, ks, h1, h2, _⟩ := h
    exact ⟨k, nm, na, _, nc, ka, _, kc, h1, by rw [h2]; rfl⟩

theorem kidF_at (h : KidsF w lo n ka ks) {i : Nat} (hi : i < ks.length) :
    ∃ b o k nm na nl nc la ll lc, ka = some ⟨b, o, none⟩ ∧ b < w.heap.size ∧ w.cell? ⟨b, o + i * 4, none⟩ = some (.int .i64 k) ∧ w.cell? ⟨b, o + i * 4 + 1, none⟩ = some (.string nm) ∧ w.cell? ⟨b, o + i * 4 + 2, none⟩ = some (.slice na nl nc) ∧
      w.cell? ⟨b, o + i * 4 + 3, none⟩ = some (.slice la ll lc) ∧ TyF w lo n (.agg #[.int .i64 k, .string nm, .slice na nl nc, .slice la ll lc]) ks[i] := by
  rcases h with rfl | ⟨b, o, rfl, _, hcl, hc⟩
  · cases hi
  · obtain ⟨c0, c1, c2, c3, q0, q1, q2, q3, ht⟩ := hc i hi
    obtain ⟨k, nm, na, nl, nc, ka, kl, kc, e, _⟩ := tyF_form ht
    injection e with e
    injection e with e
    injection e with e0 e
    injection e with e1 e
    injection e with e2 e
    injection e with e3 _
    subst e0 e1 e2 e3
    exact ⟨b, o, k, nm, na, nl, nc, ka, kl, kc, rfl, clean_lt hcl, q0, q1, q2, q3, ht⟩
end

/-- The cells of a type. -/
abbrev Cells := Int × ByteArray × Option Addr × Nat × Nat × Option Addr × Nat × Nat
def Cells.list (c : Cells) : List Value := [.int .i64 c.1, .string c.2.1, .slice c.2.2.1 c.2.2.2.1 c.2.2.2.2.1, .slice c.2.2.2.2.2.1 c.2.2.2.2.2.2.1 c.2.2.2.2.2.2.2]
def Cells.val (c : Cells) : Value := .agg c.list.toArray

theorem tyF_cells {w : World} {lo n : Nat} {v : Value} {D : Ty} (h : TyF w lo n v D) : ∃ c : Cells, v = c.val ∧ kindT D = c.1 := by
  obtain ⟨k, nm, na, nl, nc, ka, kl, kc, e, e2⟩ := tyF_form h
  exact ⟨(k, nm, na, nl, nc, ka, kl, kc), e, e2⟩

theorem cells_flat : ∀ (cs : List Cells) (i : Nat) (hi : i < cs.length) (j : Nat), j < 4 → (cs.flatMap Cells.list)[i * 4 + j]? = cs[i].list[j]?
  | [], _, hi, _, _ => by cases hi
  | c :: cs, 0, _, j, hj => by
    rw [List.flatMap_cons, List.getElem?_append_left (by simp [Cells.list]; omega)]
    simp
  | c :: cs, i + 1, hi, j, hj => by
    rw [List.flatMap_cons, List.getElem?_append_right (by simp [Cells.list]; omega)]
    have := cells_flat cs i (by simpa using hi) j hj
    simp only [List.getElem_cons_succ]
    rw [← this]
    congr 1
    simp [Cells.list]
    omega

/-- Rows that the call owns, as rows of fresh types. -/
theorem kidsF_of_owns {w : World} {base lo t n : Nat} {v : Value} {cs : List Cells} {ks : List Ty} (h : w.ownsRow base t 4 v cs.length (cs.flatMap Cells.list)) (hl : lo ≤ base) (hlen : ks.length = cs.length)
    (hk : ∀ i (h1 : i < cs.length) (h2 : i < ks.length), TyF w lo n cs[i].val ks[i]) : ∃ a cap, v = .slice a ks.length cap ∧ ks.length ≤ cap ∧ KidsF w lo n a ks := by
  rcases h.2 with ⟨rfl, h0⟩ | ⟨g, cap, cur, rfl, hg, hh, hcap, _, _, hcur⟩
  · have : ks = [] := List.length_eq_zero_iff.1 (by omega)
    exact ⟨none, 0, by rw [this]; rfl, by rw [this]; exact Nat.le_refl _, .inl this⟩
  · refine ⟨some ⟨g, 0, none⟩, cap, by rw [hlen], by omega, .inr ⟨g, 0, rfl, by omega, ⟨_, _, hh⟩, fun i hi => ?_⟩⟩
    have hi' : i < cs.length := by omega
    have hcell : ∀ j, j < 4 → w.cell? ⟨g, 0 + i * 4 + j, none⟩ = cs[i].list[j]? := by
      intro j hj
      have h1 := h.cellAt (i * 4 + j) (by omega)
      rw [show 0 + i * 4 + j = i * 4 + j by omega, h1]
      exact cells_flat cs i hi' j hj
    exact ⟨_, _, _, _, hcell 0 (by omega), hcell 1 (by omega), hcell 2 (by omega), hcell 3 (by omega), hk i hi' hi⟩
end Go.Proofs.YtmpcjcjacpjilabGreatDoor

/- The contracts of Go's library that this seat uses, laid at its dump: each is one application of the shelf's theorem. -/
namespace Go.Proofs
open Go.Shelf Go.RowKit Go.Lib
def Tryz.lays156_ren : Go.Shelf.Ren := ⟨fun | 156 => 33 | 165 => 59 | 166 => 60 | 169 => 61 | 240 => 78 | 241 => 79 | 276 => 94 | 277 => 95 | n => n, fun | 31 => 22 | 9 => 9 | 3 => 3 | 4 => 4 | 0 => 0 | 20 => 20 | 72 => 94 | 76 => 98 | 70 => 91 | 37 => 92 | 75 => 97 | 127 => 119 | 164 => 138 | 5 => 5 | 80 => 100 | n => n, fun | n => n⟩
theorem Tryz.lays156 : Go.Proofs.Lays.n156 Tryz.prog Tryz.lays156_ren := {
  mixed := by kernel_rfl
  f156 := Tryz.func33.trans (congrArg some (by kernel_rfl))
  f165 := Tryz.func59.trans (congrArg some (by kernel_rfl))
  f166 := Tryz.func60.trans (congrArg some (by kernel_rfl))
  f169 := Tryz.func61.trans (congrArg some (by kernel_rfl))
  f240 := Tryz.func78.trans (congrArg some (by kernel_rfl))
  f241 := Tryz.func79.trans (congrArg some (by kernel_rfl))
  f276 := Tryz.func94.trans (congrArg some (by kernel_rfl))
  f277 := Tryz.func95.trans (congrArg some (by kernel_rfl))
  t0 := Tryz.underlying0
  a0 := Tryz.isAgg0
  z0 := Tryz.sizeOf0
  v0 := Tryz.zeroValue0
  t3 := Tryz.underlying3
  a3 := Tryz.isAgg3
  z3 := Tryz.sizeOf3
  v3 := Tryz.zeroValue3
  t4 := Tryz.underlying4
  a4 := Tryz.isAgg4
  z4 := Tryz.sizeOf4
  v4 := Tryz.zeroValue4
  t9 := Tryz.underlying9
  a9 := Tryz.isAgg9
  z9 := Tryz.sizeOf9
  v9 := Tryz.zeroValue9
  t20 := Tryz.underlying20
  a20 := Tryz.isAgg20
  z20 := Tryz.sizeOf20
  v20 := Tryz.zeroValue20
  t31 := Tryz.underlying22
  a31 := Tryz.isAgg22
  z31 := Tryz.sizeOf22
  v31 := Tryz.zeroValue22
  t37 := Tryz.underlying92
  a37 := Tryz.isAgg92
  z37 := Tryz.sizeOf92
  v37 := Tryz.zeroValue92
  t70 := Tryz.underlying91
  a70 := Tryz.isAgg91
  z70 := Tryz.sizeOf91
  v70 := Tryz.zeroValue91
  t72 := Tryz.underlying94
  a72 := Tryz.isAgg94
  z72 := Tryz.sizeOf94
  v72 := Tryz.zeroValue94
  t75 := Tryz.underlying97
  a75 := Tryz.isAgg97
  z75 := Tryz.sizeOf97
  v75 := Tryz.zeroValue97
  t76 := Tryz.underlying98
  a76 := Tryz.isAgg98
  z76 := Tryz.sizeOf98
  v76 := Tryz.zeroValue98
  t127 := Tryz.underlying119
  a127 := Tryz.isAgg119
  z127 := Tryz.sizeOf119
  v127 := Tryz.zeroValue119
  t164 := Tryz.underlying138
  a164 := Tryz.isAgg138
  z164 := Tryz.sizeOf138
  v164 := Tryz.zeroValue138 }
theorem Tryz.Builder_Extra_156 : Builder.Extra Tryz.prog Tryz.lays156_ren := {
  sizeBuilder := by kernel_rfl
  liesBuilder := by kernel_rfl
  t5 := Tryz.underlying5
  a5 := Tryz.isAgg5
  z5 := Tryz.sizeOf5
  v5 := Tryz.zeroValue5
  infoByte := by kernel_rfl
  cellsByte := by kernel_rfl
  sizeByte := by kernel_rfl
  neB5 := by decide }
theorem Tryz.strings_Join_none (a : Option Addr) (c : Nat) (sep : ByteArray) (w : World) :
    Calls Tryz.prog 33 #[.slice a 0 c, .string sep] w fun e w' => e = .returned (.string ⟨#[]⟩) ∧ w' = w := Any.strings_Join_none Tryz.lays156 Tryz.Builder_Extra_156 a c sep w
theorem Tryz.strings_Join (bk o c : Nat) (xs : List ByteArray) (sep : ByteArray) (w : World) (hcells : ∀ (j : Nat) x, xs[j]? = some x → w.cell? ⟨bk, o + j, none⟩ = some (.string x)) (hbk : bk < w.heap.size) (hN : xs.length ≤ 140737488355328) (hcap : xs.length ≤ c) (hlen : (Lib.join (xs.map (·.data.toList)) sep.data.toList).length ≤ 140737488355328) :
    Calls Tryz.prog 33 #[.slice (some ⟨bk, o, none⟩) xs.length c, .string sep] w fun e w' => e = .returned (.string ⟨(Lib.join (xs.map (·.data.toList)) sep.data.toList).toArray⟩) ∧ Below w.heap.size w w' := Any.strings_Join Tryz.lays156 Tryz.Builder_Extra_156 bk o c xs sep w hcells hbk hN hcap hlen
def Tryz.lays106_ren : Go.Shelf.Ren := ⟨fun | 106 => 47 | 213 => 74 | 265 => 93 | n => n, fun | 9 => 9 | 3 => 3 | n => n, fun | n => n⟩
theorem Tryz.lays106 : Go.Proofs.Lays.n106 Tryz.prog Tryz.lays106_ren := {
  mixed := by kernel_rfl
  f106 := Tryz.func47.trans (congrArg some (by kernel_rfl))
  f213 := Tryz.func74.trans (congrArg some (by kernel_rfl))
  f265 := Tryz.func93.trans (congrArg some (by kernel_rfl))
  t3 := Tryz.underlying3
  a3 := Tryz.isAgg3
  z3 := Tryz.sizeOf3
  v3 := Tryz.zeroValue3
  t9 := Tryz.underlying9
  a9 := Tryz.isAgg9
  z9 := Tryz.sizeOf9
  v9 := Tryz.zeroValue9 }
theorem Tryz.strings_Compare (a b : ByteArray) (w : World) :
    Calls Tryz.prog 47 #[.string a, .string b] w fun e w' => e = .returned (.int .i64 (Lib.compareBytes a.data.toList b.data.toList)) ∧ w' = w := Any.strings_Compare Tryz.lays106 a b w
def Tryz.lays193_ren : Go.Shelf.Ren := ⟨fun | 193 => 58 | n => n, fun | 31 => 22 | 9 => 9 | 4 => 4 | 3 => 3 | 0 => 0 | n => n, fun | n => n⟩
theorem Tryz.lays193 : Go.Proofs.Lays.n193 Tryz.prog Tryz.lays193_ren := {
  mixed := by kernel_rfl
  f193 := Tryz.func58.trans (congrArg some (by kernel_rfl))
  t0 := Tryz.underlying0
  a0 := Tryz.isAgg0
  z0 := Tryz.sizeOf0
  v0 := Tryz.zeroValue0
  t3 := Tryz.underlying3
  a3 := Tryz.isAgg3
  z3 := Tryz.sizeOf3
  v3 := Tryz.zeroValue3
  t4 := Tryz.underlying4
  a4 := Tryz.isAgg4
  z4 := Tryz.sizeOf4
  v4 := Tryz.zeroValue4
  t9 := Tryz.underlying9
  a9 := Tryz.isAgg9
  z9 := Tryz.sizeOf9
  v9 := Tryz.zeroValue9
  t31 := Tryz.underlying22
  a31 := Tryz.isAgg22
  z31 := Tryz.sizeOf22
  v31 := Tryz.zeroValue22 }
theorem Tryz.slices_Equal_string (b1 o1 n c b2 o2 m d : Nat) (xs ys : List ByteArray) (w : World) (hx : n ≤ xs.length) (hy : m ≤ ys.length) (hbig : n ≤ 9223372036854775807) (hbig2 : m ≤ 9223372036854775807) (hc1 : ∀ j, j < xs.length → w.cell? ⟨b1, o1 + j, none⟩ = some (.string (xs.getD j ByteArray.empty))) (hc2 : ∀ j, j < ys.length → w.cell? ⟨b2, o2 + j, none⟩ = some (.string (ys.getD j ByteArray.empty))) :
    Calls Tryz.prog 58 #[.slice (some ⟨b1, o1, none⟩) n c, .slice (some ⟨b2, o2, none⟩) m d] w fun e w' => e = .returned (.bool (decide (xs.take n = ys.take m))) ∧ ∃ q, w' = w.drewN q := Any.slices_Equal_string Tryz.lays193 b1 o1 n c b2 o2 m d xs ys w hx hy hbig hbig2 hc1 hc2
theorem Tryz.slices_Equal_string_empty (a1 a2 : Option Addr) (c m d : Nat) (w : World) (hbig2 : m ≤ 9223372036854775807) :
    Calls Tryz.prog 58 #[.slice a1 0 c, .slice a2 m d] w fun e w' => e = .returned (.bool (decide (m = 0))) ∧ w' = w := Any.slices_Equal_string_empty Tryz.lays193 a1 a2 c m d w hbig2
theorem Tryz.slices_Equal_string_lens (a1 a2 : Option Addr) (n c m d : Nat) (w : World) (hnm : n ≠ m) :
    Calls Tryz.prog 58 #[.slice a1 n c, .slice a2 m d] w fun e w' => e = .returned (.bool false) ∧ w' = w := Any.slices_Equal_string_lens Tryz.lays193 a1 a2 n c m d w hnm
def Tryz.laysSort_ren : Go.Shelf.Ren := ⟨fun | 6 => 45 | 15 => 73 | 14 => 72 | 28 => 91 | 29 => 92 | 20 => 83 | 21 => 84 | 22 => 85 | 23 => 86 | 24 => 87 | 25 => 88 | 26 => 89 | 27 => 90 | 46 => 98 | 47 => 99 | 48 => 100 | 49 => 101 | 50 => 102 | 57 => 107 | n => n, fun | 22 => 70 | 24 => 68 | 25 => 74 | 3 => 3 | 39 => 114 | 0 => 0 | 53 => 134 | 55 => 136 | 4 => 4 | 46 => 127 | 45 => 126 | 50 => 131 | 5 => 5 | 9 => 9 | 66 => 142 | 70 => 146 | 76 => 152 | 77 => 153 | n => n, fun | n => n⟩
theorem Tryz.laysSort : Go.Proofs.SlLaysF0.n6 Tryz.prog Tryz.laysSort_ren := {
  mixed := by kernel_rfl
  f6 := ⟨Tryz.f45.name, by decide, Tryz.func45.trans (congrArg some (by kernel_rfl))⟩
  f14 := ⟨Tryz.f72.name, by decide, Tryz.func72.trans (congrArg some (by kernel_rfl))⟩
  f15 := Tryz.func73.trans (congrArg some (by kernel_rfl))
  f20 := ⟨Tryz.f83.name, by decide, Tryz.func83.trans (congrArg some (by kernel_rfl))⟩
  f21 := ⟨Tryz.f84.name, by decide, Tryz.func84.trans (congrArg some (by kernel_rfl))⟩
  f22 := ⟨Tryz.f85.name, by decide, Tryz.func85.trans (congrArg some (by kernel_rfl))⟩
  f23 := ⟨Tryz.f86.name, by decide, Tryz.func86.trans (congrArg some (by kernel_rfl))⟩
  f24 := ⟨Tryz.f87.name, by decide, Tryz.func87.trans (congrArg some (by kernel_rfl))⟩
  f25 := ⟨Tryz.f88.name, by decide, Tryz.func88.trans (congrArg some (by kernel_rfl))⟩
  f26 := ⟨Tryz.f89.name, by decide, Tryz.func89.trans (congrArg some (by kernel_rfl))⟩
  f27 := ⟨Tryz.f90.name, by decide, Tryz.func90.trans (congrArg some (by kernel_rfl))⟩
  f28 := Tryz.func91.trans (congrArg some (by kernel_rfl))
  f29 := Tryz.func92.trans (congrArg some (by kernel_rfl))
  f46 := ⟨Tryz.f98.name, by decide, Tryz.func98.trans (congrArg some (by kernel_rfl))⟩
  f47 := Tryz.func99.trans (congrArg some (by kernel_rfl))
  f48 := Tryz.func100.trans (congrArg some (by kernel_rfl))
  f49 := ⟨Tryz.f101.name, by decide, Tryz.func101.trans (congrArg some (by kernel_rfl))⟩
  f50 := ⟨Tryz.f102.name, by decide, Tryz.func102.trans (congrArg some (by kernel_rfl))⟩
  f57 := ⟨Tryz.f107.name, by decide, Tryz.func107.trans (congrArg some (by kernel_rfl))⟩
  t0 := Tryz.underlying0
  a0 := Tryz.isAgg0
  z0 := Tryz.sizeOf0
  v0 := Tryz.zeroValue0
  t3 := Tryz.underlying3
  a3 := Tryz.isAgg3
  z3 := Tryz.sizeOf3
  v3 := Tryz.zeroValue3
  t4 := Tryz.underlying4
  a4 := Tryz.isAgg4
  z4 := Tryz.sizeOf4
  v4 := Tryz.zeroValue4
  t5 := Tryz.underlying5
  a5 := Tryz.isAgg5
  z5 := Tryz.sizeOf5
  v5 := Tryz.zeroValue5
  t9 := Tryz.underlying9
  a9 := Tryz.isAgg9
  z9 := Tryz.sizeOf9
  v9 := Tryz.zeroValue9
  t22 := Tryz.underlying70
  a22 := Tryz.isAgg70
  z22 := Tryz.sizeOf70
  v22 := Tryz.zeroValue70
  t25 := Tryz.underlying74
  a25 := Tryz.isAgg74
  z25 := Tryz.sizeOf74
  v25 := Tryz.zeroValue74
  t39 := Tryz.underlying114
  a39 := Tryz.isAgg114
  z39 := Tryz.sizeOf114
  v39 := Tryz.zeroValue114
  t45 := Tryz.underlying126
  a45 := Tryz.isAgg126
  z45 := Tryz.sizeOf126
  v45 := Tryz.zeroValue126
  t46 := Tryz.underlying127
  a46 := Tryz.isAgg127
  z46 := Tryz.sizeOf127
  v46 := Tryz.zeroValue127
  t50 := Tryz.underlying131
  a50 := Tryz.isAgg131
  z50 := Tryz.sizeOf131
  v50 := Tryz.zeroValue131
  t53 := Tryz.underlying134
  a53 := Tryz.isAgg134
  z53 := Tryz.sizeOf134
  v53 := Tryz.zeroValue134
  t55 := Tryz.underlying136
  a55 := Tryz.isAgg136
  z55 := Tryz.sizeOf136
  v55 := Tryz.zeroValue136
  t66 := Tryz.underlying142
  a66 := Tryz.isAgg142
  z66 := Tryz.sizeOf142
  v66 := Tryz.zeroValue142
  t70 := Tryz.underlying146
  a70 := Tryz.isAgg146
  z70 := Tryz.sizeOf146
  v70 := Tryz.zeroValue146
  t76 := Tryz.underlying152
  a76 := Tryz.isAgg152
  z76 := Tryz.sizeOf152
  v76 := Tryz.zeroValue152
  t77 := Tryz.underlying153
  a77 := Tryz.isAgg153
  z77 := Tryz.sizeOf153
  v77 := Tryz.zeroValue153 }
end Go.Proofs

/- What types.norm leaves; types.Tag and types.parts by contracts; small facts of memory. -/
namespace Go.Proofs.YtmpcjcjacpjilabGreatDoor
open Go.RowKit

abbrev zTy : Value := .agg #[.int .i64 0, .string ⟨#[]⟩, .slice none 0 0, .slice none 0 0]

/-- What norm leaves. -/
def NormPost (w : World) (n : Nat) (D : Ty) (e : Ending) (w' : World) : Prop :=
  Below w.heap.size w w' ∧ match normT n D with
  | none => e = .returned (.tuple #[zTy, .bool false])
  | some E => ∃ v, e = .returned (.tuple #[v, .bool true]) ∧ TyF w' w.heap.size n v E

theorem results_cell_tmp {fn : Func} {p u : Tmp} {ty : TypeId} (h : fn.results = #[.cell p ty, .tmp u]) (tmps : Array Value) {P : Program} {w : World} {g : Nat} {t : TypeId} {cs : Array Value} {fr : Nat × Nat} {fs : Array Field}
    (hp : tmps.getD p undef = .pointer (some ⟨g, 0, none⟩)) (hg : w.heap[g]? = some (.cells cs t fr))
    (hu : P.underlying ty = some (.struct fs)) (hi : (P.info? ty).map (·.size) = some cs.size) :
    (results fn tmps).run P w = .ok (.tuple #[.agg cs, tmps.getD u undef]) w := by
  have hp' : tmps[p]?.getD undef = .pointer (some ⟨g, 0, none⟩) := by simpa using hp
  simp [results, h, hp', asAddr, run_loadVar_row w g t ty cs fr _ hg hu rfl hi]

theorem ty_size : (Tryz.prog.info? 25).map (·.size) = some 4 := by kernel_rfl
theorem info_ty : (Tryz.prog.info? 25).map (fun i => (i.zero, i.size, i.bytes)) = some (some zTy, 4, 72) := by kernel_rfl
theorem info_str : (Tryz.prog.info? 9).map (fun i => (i.zero, i.size, i.bytes)) = some (some (.string ⟨#[]⟩), 1, 16) := by kernel_rfl

theorem cells_setCell {w : World} {b o : Nat} {cs : Array Value} {u : Value} {t : TypeId} {fr : Nat × Nat} (h : w.heap[b]? = some (.cells cs t fr)) : (w.setCell ⟨b, o, none⟩ u).heap[b]? = some (.cells (cs.setIfInBounds o u) t fr) := by
  simp [World.setCell, Array.getElem?_modify, h]

/-- Four cells stored into a row of four. -/
theorem set4 {w : World} {b : Nat} {y0 y1 y2 y3 : Value} {t : TypeId} {fr : Nat × Nat} (h : w.heap[b]? = some (.cells #[y0, y1, y2, y3] t fr)) (x0 x1 x2 x3 : Value) :
    ((((w.setCell ⟨b, 0, none⟩ x0).setCell ⟨b, 1, none⟩ x1).setCell ⟨b, 2, none⟩ x2).setCell ⟨b, 3, none⟩ x3).heap[b]? = some (.cells #[x0, x1, x2, x3] t fr) :=
  cells_setCell (cells_setCell (cells_setCell (cells_setCell h)))

theorem below_set4 {B : Nat} {a w : World} {b : Nat} (h : Below B a w) (hb : B ≤ b) (x0 x1 x2 x3 : Value) : Below B a ((((w.setCell ⟨b, 0, none⟩ x0).setCell ⟨b, 1, none⟩ x1).setCell ⟨b, 2, none⟩ x2).setCell ⟨b, 3, none⟩ x3) :=
  (((h.setCell hb _).setCell hb _).setCell hb _).setCell hb _

/-- .. and all other rows stay. -/
theorem other_set4 {w : World} {b i : Nat} (hi : i ≠ b) (x0 x1 x2 x3 : Value) : ((((w.setCell ⟨b, 0, none⟩ x0).setCell ⟨b, 1, none⟩ x1).setCell ⟨b, 2, none⟩ x2).setCell ⟨b, 3, none⟩ x3).heap[i]? = w.heap[i]? := by
  rw [Below.heap_setCell _ _ _ _ hi, Below.heap_setCell _ _ _ _ hi, Below.heap_setCell _ _ _ _ hi, Below.heap_setCell _ _ _ _ hi]

def tagV (k : Int) : Int := if 1 ≤ k ∧ k ≤ 6 then k - 1 else -1

set_option maxHeartbeats 1000000 in
theorem tag_c (k : Int) (nm : ByteArray) (na : Option Addr) (nl nc : Nat) (ka : Option Addr) (kl kc : Nat) (w : World) :
    Calls Tryz.prog 49 #[.agg #[.int .i64 k, .string nm, .slice na nl nc, .slice ka kl kc]] w fun e w' => e = .returned (.int .i64 (tagV k)) ∧ w' = w.alloc (tyO k nm na nl nc ka kl kc) := by
  by_cases hk : 1 ≤ k ∧ k ≤ 6
  · have : k = 1 ∨ k = 2 ∨ k = 3 ∨ k = 4 ∨ k = 5 ∨ k = 6 := by omega
    rcases this with rfl | rfl | rfl | rfl | rfl | rfl
    all_goals
      go_enter Tryz.func49, Tryz.ntmps49
      go_wp2
      go_ret
      exact ⟨rfl, rfl⟩
  · have h1 : (k == 1) = false := by rw [beq_eq_false_iff_ne]; omega
    have h2 : (k == 2) = false := by rw [beq_eq_false_iff_ne]; omega
    have h3 : (k == 3) = false := by rw [beq_eq_false_iff_ne]; omega
    have h4 : (k == 4) = false := by rw [beq_eq_false_iff_ne]; omega
    have h5 : (k == 5) = false := by rw [beq_eq_false_iff_ne]; omega
    have h6 : (k == 6) = false := by rw [beq_eq_false_iff_ne]; omega
    have ht : tagV k = -1 := by unfold tagV; rw [if_neg hk]
    rw [ht]
    clear hk ht
    go_enter Tryz.func49, Tryz.ntmps49
    go_wp2
    go_ret
    exact ⟨rfl, rfl⟩

set_option maxHeartbeats 1000000 in
/-- The Kids of a union. -/
theorem parts_union (nm : ByteArray) (na : Option Addr) (nl nc : Nat) (ka : Option Addr) (kl kc : Nat) (w : World) :
    Calls Tryz.prog 48 #[.agg #[.int .i64 7, .string nm, .slice na nl nc, .slice ka kl kc]] w fun e w' => e = .returned (.slice ka kl kc) ∧ w' = w.alloc (tyO 7 nm na nl nc ka kl kc) := by
  go_enter Tryz.func48, Tryz.ntmps48
  go_wp2
  go_ret
  exact ⟨rfl, rfl⟩

set_option maxHeartbeats 1000000 in
/-- Of any other type: itself. -/
theorem parts_other (k : Int) (hk : k ≠ 7) (nm : ByteArray) (na : Option Addr) (nl nc : Nat) (ka : Option Addr) (kl kc : Nat) (w : World) :
    Calls Tryz.prog 48 #[.agg #[.int .i64 k, .string nm, .slice na nl nc, .slice ka kl kc]] w fun e w' => e = .returned (.slice (some ⟨w.heap.size + 1, 0, none⟩) 1 1) ∧ w' = (w.alloc (tyO k nm na nl nc ka kl kc)).alloc (tyO k nm na nl nc ka kl kc) := by
  have h1 : (k == 7) = false := by rw [beq_eq_false_iff_ne]; exact hk
  go_enter Tryz.func48, Tryz.ntmps48
  go_wp2
  go_ret
  exact ⟨rfl, rfl⟩

theorem heap_at1 (w : World) (o1 o2 : Obj) : ((w.alloc o1).alloc o2).heap[w.heap.size + 1]? = some o2 := by
  have := heap_alloc_last (w.alloc o1) o2
  simpa using this

theorem normT_rec {n : Nat} {nm : List UInt8} {ns : List (List UInt8)} {ks : List Ty} : normT (n + 1) (mkT 5 nm ns ks) = match ks.mapM (normT n) with | none => none | some ks => recordV ns ks := by
  rw [normT, kind_mk, kids_mk, names_mk, if_neg (by decide), if_pos (by decide)]
  rfl
theorem normT_fun {n : Nat} {nm : List UInt8} {ns : List (List UInt8)} {ks : List Ty} : normT (n + 1) (mkT 6 nm ns ks) = match ks.mapM (normT n) with | none => none | some ks => funV ks := by
  rw [normT, kind_mk, kids_mk, if_neg (by decide), if_pos (by decide)]
  rfl
theorem normT_uni {n : Nat} {nm : List UInt8} {ns : List (List UInt8)} {ks : List Ty} : normT (n + 1) (mkT 7 nm ns ks) = match ks.mapM (normT n) with | none => none | some ks => unionV n ks := by
  rw [normT, kind_mk, kids_mk, if_neg (by decide), if_pos (by decide)]
  rfl
theorem normT_base {n : Nat} {k : Int} {nm : List UInt8} {ns : List (List UInt8)} {ks : List Ty} (h : 0 ≤ k ∧ k ≤ 4) : normT (n + 1) (mkT k nm ns ks) = some (mkT k [] [] []) := by
  rw [normT, kind_mk, if_pos h]
theorem normT_other {n : Nat} {k : Int} {nm : List UInt8} {ns : List (List UInt8)} {ks : List Ty} (h : k < 0 ∨ 7 < k) : normT (n + 1) (mkT k nm ns ks) = none := by
  rw [normT, kind_mk, if_neg (by omega), if_neg (by omega)]

/-- norm, of types at most n deep. -/
def NormAt (n : Nat) : Prop := ∀ (v : Value) (D : Ty) (w : World), TyAt w false n v D → Words w → Calls Tryz.prog 12 #[v] w (NormPost w n D)

/-- The two ways of norm. -/
theorem norm_ways {w w' : World} {n : Nat} {D : Ty} {e : Ending} (h : NormPost w n D e w') : Below w.heap.size w w' ∧ ((normT n D = none ∧ e = .returned (.tuple #[zTy, .bool false])) ∨
    ∃ (E : Ty) (k : Int) (nm : ByteArray) (na : Option Addr) (nl nc : Nat) (ka : Option Addr) (kl kc : Nat), normT n D = some E ∧ e = .returned (.tuple #[.agg #[.int .i64 k, .string nm, .slice na nl nc, .slice ka kl kc], .bool true]) ∧
      TyF w' w.heap.size n (.agg #[.int .i64 k, .string nm, .slice na nl nc, .slice ka kl kc]) E ∧ kindT E = k) := by
  obtain ⟨hb, hm⟩ := h
  refine ⟨hb, ?_⟩
  cases hn : normT n D with
  | none =>
    rw [hn] at hm
    exact .inl ⟨rfl, hm⟩
  | some E =>
    rw [hn] at hm
    obtain ⟨v, he, ht⟩ := hm
    obtain ⟨k, nm, na, nl, nc, ka, kl, kc, rfl, e2⟩ := tyF_form ht
    exact .inr ⟨E, k, nm, na, nl, nc, ka, kl, kc, rfl, he, ht, e2⟩

/-- The result's row, ahead of what is stored: four cells of the call's own. -/
theorem res_facts {w1 : World} {b : Nat} {y0 y1 y2 y3 : Value} {t : TypeId} (h : w1.heap[b]? = some (.cells #[y0, y1, y2, y3] t)) :
    (w1.cell? ⟨b, 0, none⟩ = some y0 ∧ w1.cell? ⟨b, 1, none⟩ = some y1 ∧ w1.cell? ⟨b, 2, none⟩ = some y2 ∧ w1.cell? ⟨b, 3, none⟩ = some y3) ∧
    (w1.frozen? ⟨b, 0, none⟩ = false ∧ w1.frozen? ⟨b, 1, none⟩ = false ∧ w1.frozen? ⟨b, 2, none⟩ = false ∧ w1.frozen? ⟨b, 3, none⟩ = false) ∧ b < w1.heap.size := by
  refine ⟨⟨?_, ?_, ?_, ?_⟩, ⟨?_, ?_, ?_, ?_⟩, lt_of_block h⟩
  all_goals first | (rw [cell_of_row _ _ _ _ _ _ h]; rfl) | simp [World.frozen?, h]

theorem size_set4 (w : World) (b : Nat) (x0 x1 x2 x3 : Value) : ((((w.setCell ⟨b, 0, none⟩ x0).setCell ⟨b, 1, none⟩ x1).setCell ⟨b, 2, none⟩ x2).setCell ⟨b, 3, none⟩ x3).heap.size = w.heap.size := by simp [World.setCell]

/-- Nothing is answered: noughts in the result's row, with a box behind. -/
theorem no_answer {w w1 : World} {n : Nat} {D : Ty} {b : Nat} {y0 y1 y2 y3 : Value} (hn : normT n D = none) (hb : Below w.heap.size w w1) (hw : w.heap.size ≤ b) (h : w1.heap[b]? = some (.cells #[y0, y1, y2, y3] 25)) (o : Obj) :
    ((((((w1.setCell ⟨b, 0, none⟩ (.int .i64 0)).setCell ⟨b, 1, none⟩ (.string ⟨#[]⟩)).setCell ⟨b, 2, none⟩ (.slice none 0 0)).setCell ⟨b, 3, none⟩ (.slice none 0 0)).alloc o).heap[b]? = some (.cells #[.int .i64 0, .string ⟨#[]⟩, .slice none 0 0, .slice none 0 0] 25)) ∧
    NormPost w n D (.returned (.tuple #[zTy, .bool false])) (((((w1.setCell ⟨b, 0, none⟩ (.int .i64 0)).setCell ⟨b, 1, none⟩ (.string ⟨#[]⟩)).setCell ⟨b, 2, none⟩ (.slice none 0 0)).setCell ⟨b, 3, none⟩ (.slice none 0 0)).alloc o) := by
  refine ⟨(Below.heap_alloc _ _ _ (by rw [size_set4]; exact lt_of_block h)).trans (set4 h _ _ _ _), (below_set4 hb hw _ _ _ _).alloc (by rw [size_set4]; exact hb.size) _, ?_⟩
  rw [hn]

/-- .. with none. -/
theorem no_answer0 {w w1 : World} {n : Nat} {D : Ty} {b : Nat} {y0 y1 y2 y3 : Value} (hn : normT n D = none) (hb : Below w.heap.size w w1) (hw : w.heap.size ≤ b) (h : w1.heap[b]? = some (.cells #[y0, y1, y2, y3] 25)) :
    (((((w1.setCell ⟨b, 0, none⟩ (.int .i64 0)).setCell ⟨b, 1, none⟩ (.string ⟨#[]⟩)).setCell ⟨b, 2, none⟩ (.slice none 0 0)).setCell ⟨b, 3, none⟩ (.slice none 0 0)).heap[b]? = some (.cells #[.int .i64 0, .string ⟨#[]⟩, .slice none 0 0, .slice none 0 0] 25)) ∧
    NormPost w n D (.returned (.tuple #[zTy, .bool false])) ((((w1.setCell ⟨b, 0, none⟩ (.int .i64 0)).setCell ⟨b, 1, none⟩ (.string ⟨#[]⟩)).setCell ⟨b, 2, none⟩ (.slice none 0 0)).setCell ⟨b, 3, none⟩ (.slice none 0 0)) := by
  refine ⟨set4 h _ _ _ _, below_set4 hb hw _ _ _ _, ?_⟩
  rw [hn]

theorem norm_conv {w w' : World} {n : Nat} {D : Ty} {e e' : Ending} (h : NormPost w n D e' w') (he : e = e') : NormPost w n D e w' := by rw [he]; exact h

/-- An answer. -/
theorem an_answer {w w' : World} {n : Nat} {D E : Ty} {e : Ending} {v : Value} (hn : normT n D = some E) (hb : Below w.heap.size w w') (h : TyF w' w.heap.size n v E) (he : e = .returned (.tuple #[v, .bool true])) : NormPost w n D e w' := by
  refine ⟨hb, ?_⟩
  rw [hn]
  exact ⟨v, he, h⟩
end Go.Proofs.YtmpcjcjacpjilabGreatDoor

/- What tree asks of a written type, of normal types: the small functions by contracts. -/
namespace Go.Proofs.YtmpcjcjacpjilabGreatDoor
open Go.RowKit

theorem holds_c (a b n : Nat) (h1 : a ≤ n) (h2 : (n : Int) ≤ b) (w : World) :
    Calls Tryz.prog 54 #[.agg #[.int .i64 a, .int .i64 b], .int .i64 n] w fun e w' => e = .returned (.bool true) ∧ Below w.heap.size w w' := by
  have e1 : (a : Int) ≤ (n : Int) := by omega
  go_enter Tryz.func54, Tryz.ntmps54
  go_wp2_with fail
  go_ret
  exact ⟨rfl, bl_alloc _ _⟩

theorem text_none (w : World) : Calls Tryz.prog 55 #[.string ⟨#[]⟩, .int .i64 0] w fun e w' => e = .returned (.bool true) ∧ w' = w := by
  go_enter Tryz.func55, Tryz.ntmps55
  go_wp2_with fail
  go_ret
  exact ⟨rfl, rfl⟩

theorem names_none (a : Option Addr) (c k : Nat) (w : World) : Calls Tryz.prog 56 #[.slice a 0 c, .bool false, .int .i64 k] w fun e w' => e = .returned (.bool true) ∧ w' = w := by
  go_enter Tryz.func56, Tryz.ntmps56
  go_wp2_with fail
  go_ret
  exact ⟨rfl, rfl⟩

theorem name_cell {w : World} {na : Option Addr} {ns : List (List UInt8)} (h : NamesAt w na ns) {i : Nat} (hi : i < ns.length) : ∃ b o, na = some ⟨b, o, none⟩ ∧ b < w.heap.size ∧ w.cell? ⟨b, o + i, none⟩ = some (.string ⟨ns[i].toArray⟩) := by
  rcases h with rfl | ⟨b, o, e, hb, hc⟩
  · cases hi
  · exact ⟨b, o, e, hb, hc i hi⟩

set_option maxHeartbeats 1000000 in
theorem allNames_c (na : Option Addr) (nc : Nat) (ns : List (List UInt8)) (w : World) (hw : Words w) (h : NamesAt w na ns) (hl : ns.length ≤ 140737488351232) (hn : ∀ s ∈ ns, nameV s = true) :
    Calls Tryz.prog 77 #[.slice na ns.length nc, .func (.func 44) #[] #[]] w fun e w' => e = .returned (.bool true) ∧ w' = w := by
  have HN := hideP h
  have HV := hideP hn
  have HW := hideP hw
  clear h hn hw
  go_enter Tryz.func77, Tryz.ntmps77
  go_wp2_with fail
  go_loopw [9] (fun i wx => ∃ j : Nat, i = .int .i64 j ∧ j ≤ ns.length ∧ wx = w) (fun i _ => ns.length - (intOf i).toNat)
  case atStart => exact ⟨0, rfl, Nat.zero_le _, rfl⟩
  case round =>
    obtain ⟨j, rfl, hj, rfl⟩ := hrel
    by_cases hlt : j < ns.length
    · have hjl : (j : Int) < (ns.length : Int) := by omega
      obtain ⟨b, o, rfl, hb, hc⟩ := name_cell HN.out hlt
      have hv := HV.out _ (List.getElem_mem hlt)
      obtain ⟨S, hS⟩ : ∃ S : ByteArray, S = ⟨ns[j].toArray⟩ := ⟨_, rfl⟩
      rw [← hS] at hc
      have hn : nameV S.data.toList = true := by rw [hS]; simpa using hv
      have hz : S.size ≤ 140737488351232 := by
        by_cases h0 : S.size = 0
        · omega
        · have := nameV_cons (S := S) (by omega)
          rw [hn] at this
          simp at this
          omega
      have HC := hideP (name_c S hz wr HW.out)
      rw [hn] at HC
      clear hS hv hn
      go_wp2_with fail
      refine HC.out.mono ?_
      rintro e w' ⟨rfl, rfl⟩
      go_wp2_with fail
      exact ⟨⟨j + 1, by go_num, by omega, by first | rfl | trivial⟩, by simp [intOf]; omega⟩
    · have hjl : ¬ (j : Int) < (ns.length : Int) := by omega
      go_wp2_with fail
      go_ret
      exact ⟨rfl, by first | rfl | trivial⟩

theorem names_all (na : Option Addr) (nc : Nat) (ns : List (List UInt8)) (w : World) (hw : Words w) (h : NamesAt w na ns) (hl : ns.length ≤ 140737488351232) (hn : ∀ s ∈ ns, nameV s = true) :
    Calls Tryz.prog 56 #[.slice na ns.length nc, .bool true, .int .i64 ns.length] w fun e w' => e = .returned (.bool true) ∧ w' = w := by
  have HC := hideP (allNames_c na nc ns w hw h hl hn)
  have e1 : ((ns.length : Int) == (ns.length : Int)) = true := by simp
  clear h hn hw
  go_enter Tryz.func56, Tryz.ntmps56
  go_wp2_with fail
  refine HC.out.mono ?_
  rintro e w' ⟨rfl, rfl⟩
  go_wp2_with fail
  go_ret
  exact ⟨rfl, rfl⟩

/-- What a written type may have, by its kind: text, least and most Kids, whether it is named; as the package's table lays it. -/
def formV (k : Nat) : Nat × Nat × Nat × Bool := if k = 5 then (0, 0, 9223372036854775807, true) else if k = 6 then (0, 2, 2, false) else if k = 7 then (0, 2, 9223372036854775807, false) else if k = 8 then (1, 0, 0, false) else (0, 0, 0, false)
def Forms (w : World) : Prop := ∀ k, k < 9 → w.cell? ⟨4, k * 4, none⟩ = some (.int .i64 (formV k).1) ∧ w.cell? ⟨4, k * 4 + 1, none⟩ = some (.int .i64 (formV k).2.1) ∧ w.cell? ⟨4, k * 4 + 2, none⟩ = some (.int .i64 (formV k).2.2.1) ∧ w.cell? ⟨4, k * 4 + 3, none⟩ = some (.bool (formV k).2.2.2)

theorem Forms.lt {w : World} (h : Forms w) : 4 < w.heap.size := World.block_lt_of_cell? w _ (h 0 (by decide)).1
theorem Forms.below {w w' : World} (h : Forms w) (hb : Below w.heap.size w w') : Forms w' := fun k hk => by
  obtain ⟨h0, h1, h2, h3⟩ := h k hk
  exact ⟨(hb.cell (show 4 < w.heap.size from h.lt)).trans h0, (hb.cell (show 4 < w.heap.size from h.lt)).trans h1, (hb.cell (show 4 < w.heap.size from h.lt)).trans h2, (hb.cell (show 4 < w.heap.size from h.lt)).trans h3⟩

set_option maxHeartbeats 4000000 in
set_option maxRecDepth 100000 in
theorem fits_one (k nl kl : Nat) (na : Option Addr) (nc : Nat) (ka : Option Addr) (kc : Nat) (w : World) (hk : k < 9) (hf : Forms w) (ht : (formV k).1 = 0) (h1 : (formV k).2.1 ≤ kl) (h2 : kl ≤ (formV k).2.2.1) (_ : kl ≤ 140737488351232)
    (hN : ∀ wx, Below w.heap.size w wx → Calls Tryz.prog 56 #[.slice na nl nc, .bool (formV k).2.2.2, .int .i64 kl] wx fun e w' => e = .returned (.bool true) ∧ w' = wx) :
    Calls Tryz.prog 26 #[.agg #[.int .i64 k, .string ⟨#[]⟩, .slice na nl nc, .slice ka kl kc]] w fun e w' => e = .returned (.bool true) ∧ Below w.heap.size w w' := by
  have hb0 := bl_alloc w (tyO k ⟨#[]⟩ na nl nc ka kl kc)
  obtain ⟨f0, f1, f2, f3⟩ := hf k hk
  rw [ht] at f0
  have hlt := hf.lt
  obtain ⟨⟨t, l, m, nb⟩, hq⟩ : ∃ q, q = formV k := ⟨_, rfl⟩
  rw [← hq] at f1 f2 f3 h1 h2 hN
  simp only at f1 f2 f3 h1 h2 hN
  have HH := hideP (fun wx => holds_c l m kl h1 (by omega) wx)
  have HN := hideP hN
  have HB0 := hideP hb0
  have k9 : ¬ (9 : Int) ≤ (k : Int) := by omega
  have k9' : (k : Int) < 9 := by omega
  have k0 : ¬ (k : Int) < 0 := by omega
  clear hq ht hf hN hb0
  go_enter Tryz.func26, Tryz.ntmps26
  go_wp2_with fail
  have HT : Hid (((w.alloc (tyO k ⟨#[]⟩ na nl nc ka kl kc)).alloc (.cells #[.int .i64 0, .int .i64 l, .int .i64 m, .bool nb] 84)).heap[w.heap.size]? = some (tyO k ⟨#[]⟩ na nl nc ka kl kc)) := (Below.heap_alloc _ _ _ (by simp)).trans (heap_alloc_last w _)
  have HO : Hid (((w.alloc (tyO k ⟨#[]⟩ na nl nc ka kl kc)).alloc (.cells #[.int .i64 0, .int .i64 l, .int .i64 m, .bool nb] 84)).heap[w.heap.size + 1]? = some (.cells #[.int .i64 0, .int .i64 l, .int .i64 m, .bool nb] 84)) := heap_at1 w _ _
  refine (HH.out _).mono ?_
  rintro e w1 ⟨rfl, hb1⟩
  have HB1 := hideP (below_next (below_next HB0.out (bl_alloc _ _)) hb1)
  obtain ⟨⟨x0, x1, x2, x3⟩, _, hltx⟩ := res_facts ((hb1.block _ (lt_of_block HT.out)).trans HT.out)
  obtain ⟨⟨y0, y1, y2, y3⟩, _, hlty⟩ := res_facts ((hb1.block _ (lt_of_block HO.out)).trans HO.out)
  clear hb1 f0 f1 f2 f3
  go_wp2_with fail
  refine (text_none _).mono ?_
  rintro e w2 ⟨rfl, rfl⟩
  go_wp2_with fail
  refine (HN.out _ HB1.out).mono ?_
  rintro e w2 ⟨rfl, rfl⟩
  go_wp2_with fail
  go_ret
  exact ⟨rfl, HB1.out⟩

theorem typeFits_c (n : Nat) (v : Value) (D : Ty) (w : World) (h : TyAt w false (n + 1) v D) (hn : NormT (n + 1) D) (hw : Words w) (hf : Forms w) :
    Calls Tryz.prog 26 #[v] w fun e w' => e = .returned (.bool true) ∧ Below w.heap.size w w' := by
  obtain ⟨k, nm, na, nc, ka, kc, ns, ks, rfl, rfl, _, _, _, ⟨_, hnl⟩, ⟨_, hkl⟩, hns, _⟩ := h
  have hnm : ∀ {l : List UInt8}, nm.data.toList = l → l = [] → nm = ⟨#[]⟩ := fun e1 e2 => by
    cases nm
    rw [e2] at e1
    simp at e1
    rw [e1]
  rcases hn with ⟨k', h0, h4, e⟩ | ⟨ns', ks', e, h2, h3, h4, _⟩ | ⟨a, b, e, _⟩ | ⟨ks', e, h2, _⟩
  · obtain ⟨e1, e2, e3, e4⟩ := mkT_inj e
    obtain rfl := hnm e2 rfl
    subst e1 e3 e4
    obtain ⟨m, rfl⟩ : ∃ m : Nat, k = m := ⟨k.toNat, by omega⟩
    have hm : m ≤ 4 := by omega
    have hfv : formV m = (0, 0, 0, false) := by
      unfold formV
      rw [if_neg (by omega), if_neg (by omega), if_neg (by omega), if_neg (by omega)]
    exact fits_one m 0 0 na nc ka kc w (by omega) hf (by rw [hfv]) (by rw [hfv]; exact Nat.le_refl _) (by rw [hfv]; exact Nat.le_refl _) (by omega) fun wx _ => by rw [hfv]; exact names_none na nc 0 wx
  · obtain ⟨e1, e2, e3, e4⟩ := mkT_inj e
    obtain rfl := hnm e2 rfl
    subst e1 e3 e4
    refine fits_one 5 ns.length ks.length na nc ka kc w (by omega) hf rfl (Nat.zero_le _) (Nat.le_trans hkl (by decide)) hkl fun wx hwx => ?_
    rw [← h2]
    exact names_all na nc ns wx (hw.below hwx) (names_below hns hwx) hnl h4
  · obtain ⟨e1, e2, e3, e4⟩ := mkT_inj e
    obtain rfl := hnm e2 rfl
    subst e1 e3 e4
    exact fits_one 6 0 2 na nc ka kc w (by omega) hf rfl (Nat.le_refl _) (Nat.le_refl _) (by omega) fun wx _ => names_none na nc 2 wx
  · obtain ⟨e1, e2, e3, e4⟩ := mkT_inj e
    obtain rfl := hnm e2 rfl
    subst e1 e3 e4
    exact fits_one 7 0 ks.length na nc ka kc w (by omega) hf rfl h2 (Nat.le_trans hkl (by decide)) hkl fun wx _ => names_none na nc ks.length wx
end Go.Proofs.YtmpcjcjacpjilabGreatDoor
