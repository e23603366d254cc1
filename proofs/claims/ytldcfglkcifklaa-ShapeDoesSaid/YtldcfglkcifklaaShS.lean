/- Calls that came in as an argument. -/
import Derived.Test.YtldcfglkcifklaaShT
namespace Go.Proofs.Ytldcfglkcifklaa
open Go.ChangeShapes Go.WideShapes Go.ChangeAt Go.RowKit

def OpsIn (w : World) (a : Option Addr) (n cap : Nat) (l : List OpV) : Prop := OpsV (fun b => b < w.heap.size) w (.slice a n cap) l ∧ (l.length : Int) ≤ 9223372036854775807
theorem op_fields : ∃ f0 f1 f2 f3 : Field, Try.prog.underlying 30 = some (.struct #[f0, f1, f2, f3]) ∧ (f0.type = 3 ∧ f0.offset = 0) ∧ (f1.type = 9 ∧ f1.offset = 1) ∧ (f2.type = 4 ∧ f2.offset = 2) ∧ (f3.type = 28 ∧ f3.offset = 3) :=
  ⟨_, _, _, _, Try.underlying30, ⟨rfl, rfl⟩, ⟨rfl, rfl⟩, ⟨rfl, rfl⟩, ⟨rfl, rfl⟩⟩
theorem ops_of_trod {H : Type} {enc : TypeId × Value → H} {w : World} {fuel : Nat} {cs : List Value} {x : DataW H × List MemPlace} (h : DataW.trod enc Try.prog w 0 (fun _ => true) true fuel 22 cs = some x) (hw : ∀ m ∈ x.1.weights Try.prog 22, m ≤ reachBytes) :
    ∃ a cap l, cs = [.slice a (List.length l) cap] ∧ OpsIn w a (List.length l) cap l := by
  have uN := Try.underlying22
  have cT : Try.prog.cellsOf 30 = 4 := by kernel_rfl
  have cI : Try.prog.cellsOf 3 = 1 := by kernel_rfl
  have cS : Try.prog.cellsOf 9 = 1 := by kernel_rfl
  have cB : Try.prog.cellsOf 4 = 1 := by kernel_rfl
  have cN : Try.prog.cellsOf 28 = 1 := by kernel_rfl
  have bT : Try.prog.bytesOf 30 = 56 := by kernel_rfl
  obtain ⟨f0, f1, f2, f3, uT, ⟨t0, o0⟩, ⟨t1, o1⟩, ⟨t2, o2⟩, ⟨t3, o3⟩⟩ := op_fields
  rcases DataW.trod_slice uN h with ⟨rfl, rfl⟩ | ⟨a, len, cap, elems, rest, m, _, rfl, rfl, _, hlc, _, hlen, hel, hsp, _⟩
  · exact ⟨none, 0, [], rfl, .inl ⟨rfl, none, 0, rfl⟩, by decide⟩
  · have hrl := (hsp rfl).1
    have hcap : cap ≤ 140737488351232 := by
      have h1 : (elems.length + rest.length) * Try.prog.bytesOf 30 ≤ reachBytes := hw _ (by
        rw [DataW.weights, uN]
        simp)
      rw [bT] at h1
      have h2 : reachBytes = 140737488351232 := rfl
      omega
    have hkid : ∀ i, i < len → ∃ o : OpV, ∃ u, OpOk o ∧ w.cell? (a.add (i * 4)) = some (.int .i64 o.s) ∧ w.cell? ((a.add (i * 4)).add 1) = some (.string o.x) ∧ w.cell? ((a.add (i * 4)).add 2) = some (.bool o.many) ∧ w.cell? ((a.add (i * 4)).add 3) = some u ∧ StrV (fun b => b < w.heap.size) w u o.ns := by
      intro i hi
      have h1 := hel i hi
      have h2 : i < elems.length := by omega
      rw [List.getElem?_eq_getElem h2, Option.bind_eq_some_iff, cT] at h1
      obtain ⟨cs', p1, p2⟩ := h1
      obtain ⟨_, hl2, p3⟩ := World.cells?_some p1
      obtain ⟨xs, n, _, hx, hl, hxl, hf⟩ := DataW.trod_struct uT p2
      have hxl2 : xs.length = 4 := hxl
      obtain ⟨y0, y1, y2, y3, rfl⟩ := four_of hxl2
      have g0 := hf 0 f0 rfl
      have g1 := hf 1 f1 rfl
      have g2 := hf 2 f2 rfl
      have g3 := hf 3 f3 rfl
      rw [t0, o0, cI] at g0
      rw [t1, o1, cS] at g1
      rw [t2, o2, cB] at g2
      rw [t3, o3, cN] at g3
      have hwi : ∀ mm ∈ (elems[i].1).weights Try.prog 30, mm ≤ reachBytes := fun mm hm => hw mm (by
        rw [DataW.weights, uN]
        exact List.mem_cons_of_mem _ (List.mem_append_left _ (weights_all (d := elems[i].1) (List.mem_map.2 ⟨_, List.getElem_mem h2, rfl⟩) _ hm)))
      rw [hx] at hwi
      have hwe : ∀ (j : Nat) (t : TypeId) (y : DataW H × List MemPlace), [f0.type, f1.type, f2.type, f3.type][j]? = some t → [y0, y1, y2, y3][j]? = some y → ∀ mm ∈ y.1.weights Try.prog t, mm ≤ reachBytes := by
        intro j t y ht hy mm hm
        refine hwi mm ?_
        rw [DataW.weights, uT]
        refine DataW.weights_mem_each (j := j) (t := t) (d := y.1) ht ?_ mm hm
        rw [List.getElem?_map, hy]
        rfl
      obtain ⟨c0, c1, c2, c3, hcs⟩ := four_of hl2
      subst hcs
      obtain ⟨i0, hi0, _, wf0⟩ := DataW.trod_int Try.underlying3 (show DataW.trod enc Try.prog w 0 (fun _ => true) true _ 3 [c0] = some y0 from g0)
      obtain ⟨s1, hs1, es1, _⟩ := DataW.trod_string Try.underlying9 (show DataW.trod enc Try.prog w 0 (fun _ => true) true _ 9 [c1] = some y1 from g1)
      obtain ⟨b2, hb2, _⟩ := DataW.trod_bool Try.underlying4 (show DataW.trod enc Try.prog w 0 (fun _ => true) true _ 4 [c2] = some y2 from g2)
      obtain ⟨na, nc, ns, hn3, sv, sz, sl⟩ := strs_of_trod (show DataW.trod enc Try.prog w 0 (fun _ => true) true _ 28 [c3] = some y3 from g3) (hwe 3 _ y3 (by rw [t3]; rfl) rfl)
      injection hi0 with hi0 _
      injection hs1 with hs1 _
      injection hb2 with hb2 _
      injection hn3 with hn3 _
      subst hi0 hs1 hb2 hn3
      have z0 := p3 0 (by omega)
      have hz : (a.add (i * 4)).add 0 = a.add (i * 4) := by simp [Addr.add]
      rw [hz] at z0
      have l1 := string_reach (hwe 1 _ y1 (by rw [t1]; rfl) rfl s1.data.toList.length (by rw [es1, DataW.weights]; exact List.mem_singleton.2 rfl))
      have wf := bounds_i64 wf0
      exact ⟨⟨i0, s1, b2, ns⟩, _, ⟨wf.1, wf.2, l1, sz, sl⟩, z0, p3 1 (by omega), p3 2 (by omega), p3 3 (by omega), sv⟩
    by_cases h0 : len = 0
    · subst h0
      exact ⟨some a, cap, [], rfl, .inl ⟨rfl, some a, cap, rfl⟩, by decide⟩
    · obtain ⟨b, o, spot⟩ := a
      obtain ⟨_, _, _, hc0, _⟩ := hkid 0 (by omega)
      have hspot : spot = none := by simpa [Addr.add] using World.cell?_spot hc0
      subst hspot
      have hg : ∀ i, ∃ p : OpV, i < len → OpOk p ∧ w.cell? ⟨b, o + i * 4, none⟩ = some (.int .i64 p.s) ∧ w.cell? ⟨b, o + i * 4 + 1, none⟩ = some (.string p.x) ∧ w.cell? ⟨b, o + i * 4 + 2, none⟩ = some (.bool p.many) ∧ ∃ u, w.cell? ⟨b, o + i * 4 + 3, none⟩ = some u ∧ StrV (fun b => b < w.heap.size) w u p.ns := fun i => by
        by_cases hi : i < len
        · obtain ⟨p, u, h0, h1, h2, h3, h4, h5⟩ := hkid i hi
          rw [add0] at h1
          rw [add_add] at h2 h3 h4
          exact ⟨p, fun _ => ⟨h0, h1, h2, h3, u, h4, h5⟩⟩
        · exact ⟨⟨0, ByteArray.empty, false, []⟩, fun h => absurd h hi⟩
      obtain ⟨f, hf⟩ := Classical.axiomOfChoice hg
      have hb := World.block_lt_of_cell? w _ (hf 0 (by omega)).2.1
      refine ⟨some ⟨b, o, none⟩, cap, (List.range len).map f, by simp, .inr ⟨b, o, cap, rfl, hb, hb, fun i hi => ?_⟩, ?_⟩
      · have hi' : i < len := by simpa using hi
        rw [List.getElem_map, List.getElem_range]
        exact hf i hi'
      · rw [List.length_map, List.length_range]
        have h2 : len ≤ 140737488351232 := by omega
        omega
end Go.Proofs.Ytldcfglkcifklaa
