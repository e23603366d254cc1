/- Slots, and calls, that came in as an argument. -/
import Derived.Test.YtcpmdbdppdnkkaaHpT
import Derived.Test.YtcpmdbdppdnkkaaHpL
namespace Go.Proofs.Ytcpmdbdppdnkkaa
open Go.ChangeShapes Go.WideShapes Go.ChangeAt Go.RowKit

theorem two_of {α : Type} {l : List α} (h : l.length = 2) : ∃ a b, l = [a, b] := by
  match l, h with
  | [a, b], _ => exact ⟨a, b, rfl⟩
theorem three_of {α : Type} {l : List α} (h : l.length = 3) : ∃ a b c, l = [a, b, c] := by
  match l, h with
  | [a, b, c], _ => exact ⟨a, b, c, rfl⟩
theorem slot_fields : ∃ f0 f1 : Field, Try.prog.underlying 47 = some (.struct #[f0, f1]) ∧ (f0.type = 4 ∧ f0.offset = 0) ∧ (f1.type = 3 ∧ f1.offset = 1) :=
  ⟨_, _, Try.underlying47, ⟨rfl, rfl⟩, ⟨rfl, rfl⟩⟩
/-- Slots that came in. -/
def SlotsIn (w : World) (u : Value) (l : List SlotV) : Prop := SltV (fun b => b < w.heap.size) w u l ∧ okSlots l ∧ (l.length : Int) ≤ 9223372036854775807
theorem slots_of_trod {H : Type} {enc : TypeId × Value → H} {w : World} {fuel : Nat} {cs : List Value} {x : DataW H × List MemPlace} (h : DataW.trod enc Try.prog w 0 (fun _ => true) true fuel 32 cs = some x) (hw : ∀ m ∈ x.1.weights Try.prog 32, m ≤ reachBytes) :
    ∃ a cap l, cs = [.slice a (List.length l) cap] ∧ SlotsIn w (.slice a (List.length l) cap) l := by
  have uN := Try.underlying32
  have cT : Try.prog.cellsOf 47 = 2 := by kernel_rfl
  have cI : Try.prog.cellsOf 3 = 1 := by kernel_rfl
  have cB : Try.prog.cellsOf 4 = 1 := by kernel_rfl
  have bT : Try.prog.bytesOf 47 = 16 := by kernel_rfl
  obtain ⟨f0, f1, uT, ⟨t0, o0⟩, ⟨t1, o1⟩⟩ := slot_fields
  rcases DataW.trod_slice uN h with ⟨rfl, rfl⟩ | ⟨a, len, cap, elems, rest, m, _, rfl, rfl, _, hlc, _, hlen, hel, hsp, _⟩
  · exact ⟨none, 0, [], rfl, .inl ⟨none, 0, rfl, rfl, fun _ => rfl⟩, (fun _ h => nomatch h), by decide⟩
  · have hrl := (hsp rfl).1
    have hcap : cap ≤ 140737488351232 := by
      have h1 : (elems.length + rest.length) * Try.prog.bytesOf 47 ≤ reachBytes := hw _ (by
        rw [DataW.weights, uN]
        simp)
      rw [bT] at h1
      have h2 : reachBytes = 140737488351232 := rfl
      omega
    have hkid : ∀ i, i < len → ∃ o : SlotV, (-9223372036854775808 ≤ o.n ∧ o.n ≤ 9223372036854775807) ∧ w.cell? (a.add (i * 2)) = some (.bool o.ref) ∧ w.cell? ((a.add (i * 2)).add 1) = some (.int .i64 o.n) := by
      intro i hi
      have h1 := hel i hi
      have h2 : i < elems.length := by omega
      rw [List.getElem?_eq_getElem h2, Option.bind_eq_some_iff, cT] at h1
      obtain ⟨cs', p1, p2⟩ := h1
      obtain ⟨_, hl2, p3⟩ := World.cells?_some p1
      obtain ⟨xs, n, _, hx, hl, hxl, hf⟩ := DataW.trod_struct uT p2
      have hxl2 : xs.length = 2 := hxl
      obtain ⟨y0, y1, rfl⟩ := two_of hxl2
      have g0 := hf 0 f0 rfl
      have g1 := hf 1 f1 rfl
      rw [t0, o0, cB] at g0
      rw [t1, o1, cI] at g1
      obtain ⟨c0, c1, hcs⟩ := two_of hl2
      subst hcs
      obtain ⟨b0, hb0, _⟩ := DataW.trod_bool Try.underlying4 (show DataW.trod enc Try.prog w 0 (fun _ => true) true _ 4 [c0] = some y0 from g0)
      obtain ⟨i1, hi1, _, wf1⟩ := DataW.trod_int Try.underlying3 (show DataW.trod enc Try.prog w 0 (fun _ => true) true _ 3 [c1] = some y1 from g1)
      injection hb0 with hb0 _
      injection hi1 with hi1 _
      subst hb0 hi1
      have z0 := p3 0 (by omega)
      have hz : (a.add (i * 2)).add 0 = a.add (i * 2) := by simp [Addr.add]
      rw [hz] at z0
      exact ⟨⟨b0, i1⟩, bounds_i64 wf1, z0, p3 1 (by omega)⟩
    by_cases h0 : len = 0
    · subst h0
      exact ⟨some a, cap, [], rfl, .inl ⟨some a, cap, rfl, rfl, fun e => by cases e⟩, (fun _ h => nomatch h), by decide⟩
    · obtain ⟨b, o, spot⟩ := a
      obtain ⟨_, _, hc0, _⟩ := hkid 0 (by omega)
      have hspot : spot = none := by simpa [Addr.add] using World.cell?_spot hc0
      subst hspot
      have hg : ∀ i, ∃ p : SlotV, i < len → (-9223372036854775808 ≤ p.n ∧ p.n ≤ 9223372036854775807) ∧ w.cell? ⟨b, o + i * 2, none⟩ = some (.bool p.ref) ∧ w.cell? ⟨b, o + i * 2 + 1, none⟩ = some (.int .i64 p.n) := fun i => by
        by_cases hi : i < len
        · obtain ⟨p, h0, h1, h2⟩ := hkid i hi
          rw [add0] at h1
          rw [add_add] at h2
          exact ⟨p, fun _ => ⟨h0, h1, h2⟩⟩
        · exact ⟨⟨false, 0⟩, fun h => absurd h hi⟩
      obtain ⟨f, hf⟩ := Classical.axiomOfChoice hg
      have hb := World.block_lt_of_cell? w _ (hf 0 (by omega)).2.1
      refine ⟨some ⟨b, o, none⟩, cap, (List.range len).map f, by simp, .inr ⟨b, o, cap, rfl, hb, hb, fun i hi => ?_⟩, fun s hs => ?_, ?_⟩
      · have hi' : i < len := by simpa using hi
        rw [List.getElem_map, List.getElem_range]
        exact (hf i hi').2
      · obtain ⟨i, hi, rfl⟩ := List.mem_map.1 hs
        exact (hf i (List.mem_range.1 hi)).1
      · rw [List.length_map, List.length_range]
        have h2 : len ≤ 140737488351232 := by omega
        omega
/-- A call, as the law's argument has it. -/
structure OpH where
  col : Bool
  sl : List SlotV
  rt : List Int
def OpHOk (o : OpH) : Prop := okSlots o.sl ∧ (∀ q ∈ o.rt, -9223372036854775808 ≤ q ∧ q ≤ 9223372036854775807) ∧ (o.sl.length : Int) ≤ 9223372036854775807 ∧ (o.rt.length : Int) ≤ 9223372036854775807
/-- Calls that came in. -/
def OpsH (F : Nat → Prop) (w : World) (v : Value) (l : List OpH) : Prop := (l = [] ∧ ∃ a c, v = .slice a 0 c) ∨ ∃ b o c, v = .slice (some ⟨b, o, none⟩) l.length c ∧ F b ∧ b < w.heap.size ∧
  ∀ i (_ : i < l.length), OpHOk l[i] ∧ w.cell? ⟨b, o + i * 3, none⟩ = some (.bool l[i].col) ∧ ∃ u v, w.cell? ⟨b, o + i * 3 + 1, none⟩ = some u ∧ SltV F w u l[i].sl ∧ w.cell? ⟨b, o + i * 3 + 2, none⟩ = some v ∧ IntV F w v l[i].rt
def OpsIn (w : World) (a : Option Addr) (n cap : Nat) (l : List OpH) : Prop := OpsH (fun b => b < w.heap.size) w (.slice a n cap) l ∧ (l.length : Int) ≤ 9223372036854775807
theorem op_fields : ∃ f0 f1 f2 : Field, Try.prog.underlying 34 = some (.struct #[f0, f1, f2]) ∧ (f0.type = 4 ∧ f0.offset = 0) ∧ (f1.type = 32 ∧ f1.offset = 1) ∧ (f2.type = 31 ∧ f2.offset = 2) :=
  ⟨_, _, _, Try.underlying34, ⟨rfl, rfl⟩, ⟨rfl, rfl⟩, ⟨rfl, rfl⟩⟩
theorem ops_of_trod {H : Type} {enc : TypeId × Value → H} {w : World} {fuel : Nat} {cs : List Value} {x : DataW H × List MemPlace} (h : DataW.trod enc Try.prog w 0 (fun _ => true) true fuel 22 cs = some x) (hw : ∀ m ∈ x.1.weights Try.prog 22, m ≤ reachBytes) :
    ∃ a cap l, cs = [.slice a (List.length l) cap] ∧ OpsIn w a (List.length l) cap l := by
  have uN := Try.underlying22
  have cT : Try.prog.cellsOf 34 = 3 := by kernel_rfl
  have cB : Try.prog.cellsOf 4 = 1 := by kernel_rfl
  have cS : Try.prog.cellsOf 32 = 1 := by kernel_rfl
  have cN : Try.prog.cellsOf 31 = 1 := by kernel_rfl
  have bT : Try.prog.bytesOf 34 = 56 := by kernel_rfl
  obtain ⟨f0, f1, f2, uT, ⟨t0, o0⟩, ⟨t1, o1⟩, ⟨t2, o2⟩⟩ := op_fields
  rcases DataW.trod_slice uN h with ⟨rfl, rfl⟩ | ⟨a, len, cap, elems, rest, m, _, rfl, rfl, _, hlc, _, hlen, hel, hsp, _⟩
  · exact ⟨none, 0, [], rfl, .inl ⟨rfl, none, 0, rfl⟩, by decide⟩
  · have hrl := (hsp rfl).1
    have hcap : cap ≤ 140737488351232 := by
      have h1 : (elems.length + rest.length) * Try.prog.bytesOf 34 ≤ reachBytes := hw _ (by
        rw [DataW.weights, uN]
        simp)
      rw [bT] at h1
      have h2 : reachBytes = 140737488351232 := rfl
      omega
    have hkid : ∀ i, i < len → ∃ o : OpH, ∃ u v, OpHOk o ∧ w.cell? (a.add (i * 3)) = some (.bool o.col) ∧ w.cell? ((a.add (i * 3)).add 1) = some u ∧ SltV (fun b => b < w.heap.size) w u o.sl ∧ w.cell? ((a.add (i * 3)).add 2) = some v ∧ IntV (fun b => b < w.heap.size) w v o.rt := by
      intro i hi
      have h1 := hel i hi
      have h2 : i < elems.length := by omega
      rw [List.getElem?_eq_getElem h2, Option.bind_eq_some_iff, cT] at h1
      obtain ⟨cs', p1, p2⟩ := h1
      obtain ⟨_, hl2, p3⟩ := World.cells?_some p1
      obtain ⟨xs, n, _, hx, hl, hxl, hf⟩ := DataW.trod_struct uT p2
      have hxl2 : xs.length = 3 := hxl
      obtain ⟨y0, y1, y2, rfl⟩ := three_of hxl2
      have g0 := hf 0 f0 rfl
      have g1 := hf 1 f1 rfl
      have g2 := hf 2 f2 rfl
      rw [t0, o0, cB] at g0
      rw [t1, o1, cS] at g1
      rw [t2, o2, cN] at g2
      have hwi : ∀ mm ∈ (elems[i].1).weights Try.prog 34, mm ≤ reachBytes := fun mm hm => hw mm (by
        rw [DataW.weights, uN]
        exact List.mem_cons_of_mem _ (List.mem_append_left _ (weights_all (d := elems[i].1) (List.mem_map.2 ⟨_, List.getElem_mem h2, rfl⟩) _ hm)))
      rw [hx] at hwi
      have hwe : ∀ (j : Nat) (t : TypeId) (y : DataW H × List MemPlace), [f0.type, f1.type, f2.type][j]? = some t → [y0, y1, y2][j]? = some y → ∀ mm ∈ y.1.weights Try.prog t, mm ≤ reachBytes := by
        intro j t y ht hy mm hm
        refine hwi mm ?_
        rw [DataW.weights, uT]
        refine DataW.weights_mem_each (j := j) (t := t) (d := y.1) ht ?_ mm hm
        rw [List.getElem?_map, hy]
        rfl
      obtain ⟨c0, c1, c2, hcs⟩ := three_of hl2
      subst hcs
      obtain ⟨b0, hb0, _⟩ := DataW.trod_bool Try.underlying4 (show DataW.trod enc Try.prog w 0 (fun _ => true) true _ 4 [c0] = some y0 from g0)
      obtain ⟨sa, sc, sl, hs1, sv, so, sn⟩ := slots_of_trod (show DataW.trod enc Try.prog w 0 (fun _ => true) true _ 32 [c1] = some y1 from g1) (hwe 1 _ y1 (by rw [t1]; rfl) rfl)
      obtain ⟨na, nc, ns, hn2, nv, nz, nl⟩ := ints_of_trod (show DataW.trod enc Try.prog w 0 (fun _ => true) true _ 31 [c2] = some y2 from g2) (hwe 2 _ y2 (by rw [t2]; rfl) rfl)
      injection hb0 with hb0 _
      injection hs1 with hs1 _
      injection hn2 with hn2 _
      subst hb0 hs1 hn2
      have z0 := p3 0 (by omega)
      have hz : (a.add (i * 3)).add 0 = a.add (i * 3) := by simp [Addr.add]
      rw [hz] at z0
      exact ⟨⟨b0, sl, ns⟩, _, _, ⟨so, nz, sn, nl⟩, z0, p3 1 (by omega), sv, p3 2 (by omega), nv⟩
    by_cases h0 : len = 0
    · subst h0
      exact ⟨some a, cap, [], rfl, .inl ⟨rfl, some a, cap, rfl⟩, by decide⟩
    · obtain ⟨b, o, spot⟩ := a
      obtain ⟨_, _, _, _, hc0, _⟩ := hkid 0 (by omega)
      have hspot : spot = none := by simpa [Addr.add] using World.cell?_spot hc0
      subst hspot
      have hg : ∀ i, ∃ p : OpH, i < len → OpHOk p ∧ w.cell? ⟨b, o + i * 3, none⟩ = some (.bool p.col) ∧ ∃ u v, w.cell? ⟨b, o + i * 3 + 1, none⟩ = some u ∧ SltV (fun b => b < w.heap.size) w u p.sl ∧ w.cell? ⟨b, o + i * 3 + 2, none⟩ = some v ∧ IntV (fun b => b < w.heap.size) w v p.rt := fun i => by
        by_cases hi : i < len
        · obtain ⟨p, u, v, h0, h1, h2, h3, h4, h5⟩ := hkid i hi
          rw [add0] at h1
          rw [add_add] at h2 h4
          exact ⟨p, fun _ => ⟨h0, h1, u, v, h2, h3, h4, h5⟩⟩
        · exact ⟨⟨false, [], []⟩, fun h => absurd h hi⟩
      obtain ⟨f, hf⟩ := Classical.axiomOfChoice hg
      have hb := World.block_lt_of_cell? w _ (hf 0 (by omega)).2.1
      refine ⟨some ⟨b, o, none⟩, cap, (List.range len).map f, by simp, .inr ⟨b, o, cap, rfl, hb, hb, fun i hi => ?_⟩, ?_⟩
      · have hi' : i < len := by simpa using hi
        rw [List.getElem_map, List.getElem_range]
        exact hf i hi'
      · rw [List.length_map, List.length_range]
        have h2 : len ≤ 140737488351232 := by omega
        omega
end Go.Proofs.Ytcpmdbdppdnkkaa
