/- A type that came in as an argument, as a type that lies in memory; of whatever program. -/
import Derived.Test.YtmpcjcjacpjilaaDoorTyMem
namespace Go.Proofs.YtmpcjcjacpjilaaDoor
open Go.RowKit

theorem one_cell {cs : List Value} {o : Nat} (h : cs.length = 4) (ho : o < 4) : ∃ c, (cs.drop o).take 1 = [c] ∧ cs[o]? = some c := by
  match cs, h, o, ho with
  | [a, b, c, d], _, 0, _ => exact ⟨a, rfl, rfl⟩
  | [a, b, c, d], _, 1, _ => exact ⟨b, rfl, rfl⟩
  | [a, b, c, d], _, 2, _ => exact ⟨c, rfl, rfl⟩
  | [a, b, c, d], _, 3, _ => exact ⟨d, rfl, rfl⟩

theorem ty_of_trod {H : Type} {enc : TypeId × Value → H} {P : Program} {w : World} {T N K I S : TypeId} (R : TyRow P T N K I S) (fuel : Nat) : ∀ {cs : List Value} {x : DataW H × List MemPlace},
    DataW.trod enc P w 0 (fun _ => true) true fuel T cs = some x → (∀ m ∈ x.1.weights P T, m ≤ reachBytes) → (∀ b off, MemPlace.cell b off ∈ x.2 → w.frozen? ⟨b, off, none⟩ = false) → ∃ D, TyAt w false fuel (.agg cs.toArray) D := by
  induction fuel using Nat.strongRecOn with
  | ind fuel ih =>
    intro cs x h hw hfz
    obtain ⟨f0, f1, f2, f3, uT, ⟨t0, o0⟩, ⟨t1, o1⟩, ⟨t2, o2⟩, ⟨t3, o3⟩⟩ := R.uT
    obtain ⟨xs, n, rfl, rfl, hl, hxl, hf⟩ := DataW.trod_struct uT h
    rw [R.cT] at hl
    have hxl4 : xs.length = 4 := hxl
    obtain ⟨y0, y1, y2, y3, rfl⟩ : ∃ y0 y1 y2 y3, xs = [y0, y1, y2, y3] := by
      match xs, hxl4 with
      | [a, b, c, d], _ => exact ⟨a, b, c, d, rfl⟩
    have g0 := hf 0 f0 rfl
    have g1 := hf 1 f1 rfl
    have g2 := hf 2 f2 rfl
    have g3 := hf 3 f3 rfl
    rw [t0, o0, R.cI] at g0
    rw [t1, o1, R.cS] at g1
    rw [t2, o2, R.cN] at g2
    rw [t3, o3, R.cK] at g3
    obtain ⟨a0, e0, q0⟩ := one_cell (o := 0) hl (by omega)
    obtain ⟨a1, e1, q1⟩ := one_cell (o := 1) hl (by omega)
    obtain ⟨a2, e2, q2⟩ := one_cell (o := 2) hl (by omega)
    obtain ⟨a3, e3, q3⟩ := one_cell (o := 3) hl (by omega)
    have hcs : cs = [a0, a1, a2, a3] := by
      match cs, hl, q0, q1, q2, q3 with
      | [_, _, _, _], _, q0, q1, q2, q3 =>
        injection q0 with q0
        injection q1 with q1
        injection q2 with q2
        injection q3 with q3
        rw [q0, q1, q2, q3]
    rw [e0] at g0
    rw [e1] at g1
    rw [e2] at g2
    rw [e3] at g3
    have hwe : ∀ (j : Nat) (t : TypeId) (y : DataW H × List MemPlace), [I, S, N, K][j]? = some t → [y0, y1, y2, y3][j]? = some y → ∀ m ∈ y.1.weights P t, m ≤ reachBytes := by
      intro j t y hj hy m hm
      refine hw m ?_
      rw [DataW.weights, uT]
      refine DataW.weights_mem_each (j := j) (t := t) (d := y.1) ?_ ?_ m hm
      · show [f0.type, f1.type, f2.type, f3.type][j]? = some t
        rw [t0, t1, t2, t3]
        exact hj
      · rw [List.getElem?_map, hy]
        rfl
    obtain ⟨k, hk, ek, hwf⟩ := DataW.trod_int R.uI g0
    obtain ⟨s, hs, es, _⟩ := DataW.trod_string R.uS g1
    obtain ⟨na, nc, ns, hn, hna, hns, hn1, hn2⟩ := names_of_trod R g2 (hwe 2 N y2 rfl rfl)
    injection hk with hk _
    injection hs with hs _
    injection hn with hn _
    subst hk hs hn
    have hsl : s.size ≤ reachBytes := by
      have := hwe 1 S y1 rfl rfl s.data.toList.length (by
        have e : y1 = (DataW.lit (Lit.string s.data.toList), []) := es
        rw [e, DataW.weights]
        exact List.mem_singleton.2 rfl)
      rwa [byteArray_len] at this
    rcases DataW.trod_slice R.uK g3 with ⟨hk0, _⟩ | ⟨a, len, cap, elems, rest, m, rfl, hk0, hy, _, hlc, _, hlen, hel, hsp, _⟩
    · injection hk0 with hk0 _
      subst hk0 hcs
      exact ⟨_, k, s, na, nc, none, 0, ns, [], rfl, rfl, hwf, hsl, hns, ⟨hn1, Nat.le_trans hn1 hn2⟩, ⟨Nat.le_refl _, Nat.zero_le _⟩, hna, .inl rfl⟩
    · injection hk0 with hk0 _
      subst hk0 hcs
      have hwk := hwe 3 K y3 rfl rfl
      have hfk : ∀ b off, MemPlace.cell b off ∈ y3.2 → w.frozen? ⟨b, off, none⟩ = false := fun b off hm => hfz b off (by simp [hm])
      have hy32 : y3.2 = MemPlace.row a ((elems.length + rest.length) * P.cellsOf T) ++ (elems ++ rest).flatMap (·.2) := by rw [hy]
      rw [hy32, R.cT] at hfk
      have hy3 : y3.1 = DataW.slice (elems.map (·.1)) (rest.map (·.1)) := by rw [hy]
      rw [hy3] at hwk
      have hrl := (hsp rfl).1
      have hcap : cap ≤ reachBytes := by
        have h1 : (elems.length + rest.length) * P.bytesOf T ≤ reachBytes := hwk _ (by
          rw [DataW.weights, R.uK]
          simp)
        have h2 := Nat.le_mul_of_pos_right (elems.length + rest.length) R.bT
        omega
      have hkid : ∀ i, i < len → ∃ c0 c1 c2 c3 D, w.cell? (a.add (i * 4)) = some c0 ∧ w.cell? ((a.add (i * 4)).add 1) = some c1 ∧ w.cell? ((a.add (i * 4)).add 2) = some c2 ∧ w.cell? ((a.add (i * 4)).add 3) = some c3 ∧ TyAt w false m (.agg #[c0, c1, c2, c3]) D := by
        intro i hi
        have h1 := hel i hi
        have h2 : i < elems.length := by omega
        rw [List.getElem?_eq_getElem h2, Option.bind_eq_some_iff, R.cT] at h1
        obtain ⟨cs', p1, p2⟩ := h1
        obtain ⟨_, hl4, p3⟩ := World.cells?_some p1
        obtain ⟨D, hD⟩ := ih m (by omega) p2 (fun mm hm => hwk mm (by
          rw [DataW.weights, R.uK]
          exact List.mem_cons_of_mem _ (List.mem_append_left _ (weights_all (d := elems[i].1) (List.mem_map.2 ⟨_, List.getElem_mem h2, rfl⟩) _ hm))))
          (fun b off hm => hfk b off (List.mem_append_right _ (List.mem_flatMap.2 ⟨elems[i], List.mem_append_left _ (List.getElem_mem h2), hm⟩)))
        match cs', hl4, p3, hD with
        | [c0, c1, c2, c3], _, p3, hD =>
          have z0 := p3 0 (by omega)
          have hz : (a.add (i * 4)).add 0 = a.add (i * 4) := by simp [Addr.add]
          rw [hz] at z0
          exact ⟨c0, c1, c2, c3, D, z0, p3 1 (by omega), p3 2 (by omega), p3 3 (by omega), hD⟩
      by_cases h0 : len = 0
      · subst h0
        exact ⟨_, k, s, na, nc, some a, cap, ns, [], rfl, rfl, hwf, hsl, hns, ⟨hn1, Nat.le_trans hn1 hn2⟩, ⟨Nat.zero_le _, Nat.zero_le _⟩, hna, .inl rfl⟩
      · obtain ⟨b, o, spot⟩ := a
        obtain ⟨c0, _, _, _, _, hc0, _⟩ := hkid 0 (by omega)
        have hspot : spot = none := by simpa [Addr.add] using World.cell?_spot hc0
        subst hspot
        have hadd : ∀ i, (⟨b, o, none⟩ : Addr).add i = ⟨b, o + i, none⟩ := fun i => by unfold Addr.add; split <;> simp_all
        have hadd2 : ∀ i j, (⟨b, o + i, none⟩ : Addr).add j = ⟨b, o + i + j, none⟩ := fun i j => by unfold Addr.add; split <;> simp_all
        have hg : ∀ i, ∃ D, i < len → ∃ c0 c1 c2 c3, w.cell? ⟨b, o + i * 4, none⟩ = some c0 ∧ w.cell? ⟨b, o + i * 4 + 1, none⟩ = some c1 ∧ w.cell? ⟨b, o + i * 4 + 2, none⟩ = some c2 ∧ w.cell? ⟨b, o + i * 4 + 3, none⟩ = some c3 ∧ TyAt w false m (.agg #[c0, c1, c2, c3]) D := fun i => by
          by_cases hi : i < len
          · obtain ⟨c0, c1, c2, c3, D, h0, h1, h2, h3, hD⟩ := hkid i hi
            rw [hadd] at h0
            rw [hadd, hadd2] at h1 h2 h3
            exact ⟨D, fun _ => ⟨c0, c1, c2, c3, h0, h1, h2, h3, hD⟩⟩
          · exact ⟨.nil, fun h => absurd h hi⟩
        obtain ⟨f, hf⟩ := Classical.axiomOfChoice hg
        have hc0' : w.cell? ⟨b, o, none⟩ = some c0 := by simpa [Addr.add] using hc0
        refine ⟨_, k, s, na, nc, some ⟨b, o, none⟩, cap, ns, (List.range len).map f, by simp, rfl, hwf, hsl, hns, ⟨hn1, Nat.le_trans hn1 hn2⟩, ⟨by simpa using hlc, Nat.le_trans (by simpa using hlc) hcap⟩, hna, .inr ⟨b, o, rfl, World.block_lt_of_cell? w _ hc0', hfk b o (List.mem_append_left _ (List.mem_map.2 ⟨0, List.mem_range.2 (by omega), rfl⟩)), fun h => (by cases h), ?_⟩⟩
        intro i hi
        have hi' : i < len := by simpa using hi
        obtain ⟨c0, c1, c2, c3, h0, h1, h2, h3, hD⟩ := hf i hi'
        refine ⟨c0, c1, c2, c3, h0, h1, h2, h3, ?_⟩
        rw [List.getElem_map, List.getElem_range]
        exact ty_mono hD (by omega)
end Go.Proofs.YtmpcjcjacpjilaaDoor
