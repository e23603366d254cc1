/- Arguments that came in: whole numbers. -/
import Derived.Test.YtcpmdbdppdnkkaaRows
import Derived.Test.YtcpmdbdppdnkkaaHpD
import Derived.WalkKit
import Derived.ProofKit
import Derived.OpenShut
import Derived.ShutString
import Derived.ChangeOld
import Derived.Below
import Derived.SizedLaws
namespace Go.Proofs.Ytcpmdbdppdnkkaa
open Go.ChangeShapes Go.WideShapes Go.ChangeAt Go.RowKit
open Go.ChangeMaps (open_string shut_string)

theorem laidOut : laidOutB Try.prog = true := by kernel_rfl
theorem own : ownKnob Try.prog.godebug = none := by kernel_rfl
theorem byteArray_len (s : ByteArray) : s.data.toList.length = s.size := Array.length_toList
theorem string_reach {s : ByteArray} (h : s.data.toList.length ≤ reachBytes) : s.size ≤ 140737488351232 := by
  rw [byteArray_len] at h
  exact h
theorem weights_all {H : Type} {P : Program} {e : TypeId} : ∀ {ds : List (DataW H)} {d : DataW H}, d ∈ ds → ∀ m ∈ d.weights P e, m ∈ DataW.weightsAll P e ds
  | [], _, h, _, _ => by cases h
  | d0 :: ds, d, h, m, hm => by
    rw [DataW.weightsAll, List.mem_append]
    rcases List.mem_cons.1 h with rfl | h
    · exact .inl hm
    · exact .inr (weights_all h m hm)
theorem four_of {α : Type} {l : List α} (h : l.length = 4) : ∃ a b c d, l = [a, b, c, d] := by
  match l, h with
  | [a, b, c, d], _ => exact ⟨a, b, c, d, rfl⟩
theorem add_add (b o i j : Nat) : ((⟨b, o, none⟩ : Addr).add i).add j = ⟨b, o + i + j, none⟩ := by rw [add0, add0]
/-- Numbers that came in. -/
def IntsIn (w : World) (a : Option Addr) (n cap : Nat) (l : List Int) : Prop := IntV (fun b => b < w.heap.size) w (.slice a n cap) l ∧ (∀ q ∈ l, -9223372036854775808 ≤ q ∧ q ≤ 9223372036854775807) ∧ (l.length : Int) ≤ 9223372036854775807
theorem ints_of_trod {H : Type} {enc : TypeId × Value → H} {w : World} {fuel : Nat} {cs : List Value} {x : DataW H × List MemPlace} (h : DataW.trod enc Try.prog w 0 (fun _ => true) true fuel 31 cs = some x) (hw : ∀ m ∈ x.1.weights Try.prog 31, m ≤ reachBytes) :
    ∃ a cap l, cs = [.slice a (List.length l) cap] ∧ IntsIn w a (List.length l) cap l := by
  have uN := Try.underlying31
  have cS : Try.prog.cellsOf 3 = 1 := by kernel_rfl
  have bS : Try.prog.bytesOf 3 = 8 := by kernel_rfl
  rcases DataW.trod_slice uN h with ⟨rfl, rfl⟩ | ⟨a, len, cap, elems, rest, n, _, rfl, rfl, _, hl, _, hlen, hel, hsp, _⟩
  · exact ⟨none, 0, [], rfl, .inl ⟨none, 0, rfl, rfl, fun _ => rfl⟩, (fun _ h => nomatch h), by decide⟩
  · have hrl := (hsp rfl).1
    have hstr : ∀ i, i < len → ∃ s : Int, w.cell? (a.add i) = some (.int .i64 s) ∧ -9223372036854775808 ≤ s ∧ s ≤ 9223372036854775807 := by
      intro i hi
      have h1 := hel i hi
      have h2 : i < elems.length := by omega
      rw [List.getElem?_eq_getElem h2, Option.bind_eq_some_iff] at h1
      obtain ⟨cs', g1, g2⟩ := h1
      obtain ⟨s, rfl, _, wf⟩ := DataW.trod_int Try.underlying3 g2
      obtain ⟨_, _, g3⟩ := World.cells?_some g1
      have g4 := g3 0 (by rw [cS]; omega)
      rw [cS, Nat.mul_one] at g4
      refine ⟨s, ?_, bounds_i64 wf⟩
      have hz : (a.add i).add 0 = a.add i := by simp [Addr.add]
      rw [hz] at g4
      simpa using g4
    have hcap : cap ≤ 140737488351232 := by
      have h1 : (elems.length + rest.length) * Try.prog.bytesOf 3 ≤ reachBytes := hw _ (by
        rw [DataW.weights, uN]
        simp)
      rw [bS] at h1
      have h2 : reachBytes = 140737488351232 := rfl
      omega
    by_cases h0 : len = 0
    · subst h0
      exact ⟨some a, cap, [], rfl, .inl ⟨some a, cap, rfl, rfl, fun e => by cases e⟩, (fun _ h => nomatch h), by simp⟩
    · obtain ⟨b, o, spot⟩ := a
      obtain ⟨s0, hs0, _⟩ := hstr 0 (by omega)
      have hspot : spot = none := by simpa [Addr.add] using World.cell?_spot hs0
      subst hspot
      have hg : ∀ i, ∃ s : Int, i < len → w.cell? ⟨b, o + i, none⟩ = some (.int .i64 s) ∧ -9223372036854775808 ≤ s ∧ s ≤ 9223372036854775807 := fun i => by
        by_cases hi : i < len
        · obtain ⟨s, h1, h2⟩ := hstr i hi
          rw [add0] at h1
          exact ⟨s, fun _ => ⟨h1, h2⟩⟩
        · exact ⟨0, fun h => absurd h hi⟩
      obtain ⟨f, hf⟩ := Classical.axiomOfChoice hg
      have hb := World.block_lt_of_cell? w _ (hf 0 (by omega)).1
      refine ⟨some ⟨b, o, none⟩, cap, (List.range len).map f, by simp, .inr ⟨b, o, cap, rfl, hb, hb, fun i hi => ?_⟩, ?_, ?_⟩
      · have hi' : i < len := by simpa using hi
        rw [(hf i hi').1]
        simp
      · intro s hs
        obtain ⟨i, hi, rfl⟩ := List.mem_map.1 hs
        exact (hf i (List.mem_range.1 hi)).2
      · rw [List.length_map, List.length_range]
        have h2 : len ≤ 140737488351232 := by omega
        omega
end Go.Proofs.Ytcpmdbdppdnkkaa
