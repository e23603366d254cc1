/- What every proof of this seat shares: the listed tables as a condition on memory, what it gives the walks, and how a slice of bytes that came in is told. -/
import Derived.Test.YtdlkkflenphkfaaDoorRows
import Derived.Test.YtdlkkflenphkfaaDoorCards
import Derived.Test.YtdlkkflenphkfaaDoorTie
import Derived.Test.YtdlkkflenphkfaaDoorAwake
import Derived.WalkKit
import Derived.ProofKit
import Derived.OpenShut
import Derived.ShutString
import Derived.ChangeOld
import Derived.Below
import Derived.LaidMore
import Derived.Stop.Joined
import Derived.Stop.LaidErr
import Derived.SizedLaws
import Derived.Lib.LaidTab
namespace Go.Proofs.YtdlkkflenphkfaaDoor
open Go.ChangeShapes Go.WideShapes Go.ChangeAt Go.RowKit
open Go.ChangeMaps (open_string shut_string)

theorem own : ownKnob Tryd.prog.godebug = none := by kernel_rfl
theorem laidOut : laidOutB Tryd.prog = true := by kernel_rfl

/-- The listed variables. -/
def laidL : List (String × DataW Unit) := Rows.wordBinsRow.laid

theorem door_met (os : Os) (args : Array Value) : laidMetH Tryd.prog laidL ((World.doorLaid Tryd.prog 24 os).forCall (fun _ _ => 0) ⟨#[], args, []⟩).memory :=
  laidMetH_of_parts3 (fuel := 8) (laidMet_of_run' 8 (by kernel_rfl) (by kernel_rfl)) (by kernel_rfl) (by kernel_rfl)

theorem tab_type : (Tryd.prog.globals[0]?).map (·.type) = some 49 := by kernel_rfl

theorem tab_datum : (Rows.laid_internal_strconv_uint64pow10 : DataW Unit) = Lib.tabData .u64 Lib.pow10Tab := by kernel_rfl

theorem tab_of_laid {W : World} (h : laidMetH Tryd.prog laidL W) : Tab W := by
  rw [MakeChecks.laidMetH_plain _ _ _ (by kernel_rfl)] at h
  have h2 : laidMet Tryd.prog [("internal/strconv.uint64pow10", Lib.tabData .u64 Lib.pow10Tab)] W := by
    rw [← tab_datum]
    exact laidMet.tail (laidMet.tail h)
  exact Lib.tabIs_of_head tab_glob tab_type Tryd.underlying49 Tryd.underlying38 (by kernel_rfl) (by kernel_rfl) h2

/-- A slice of bytes that came in: nil, or a row of 'cap' cells, the numbers zs, of which the first 'len' are its elements. -/
def IsRow (w : World) (a : Option Addr) (len cap : Nat) (zs : List Int) : Prop :=
  cap ≤ 140737488351232 ∧ ((a = none ∧ len = 0 ∧ cap = 0 ∧ zs = []) ∨
  ∃ x, a = some x ∧ len ≤ cap ∧ zs.length = cap ∧ (∀ i, i < zs.length → w.cell? (x.add i) = some (.int .u8 (zs.getD i 0))) ∧ ∀ n ∈ zs, (Lit.int .u8 n).wf = true)

theorem row_of_trod {H : Type} {enc : TypeId × Value → H} {W : World} {a : Option Addr} {len cap : Nat} {d : DataW H} {p : List MemPlace}
    (h : DataW.Trod enc Tryd.prog W 0 (fun _ => true) true 34 (.slice a len cap) d p) (hs : ∀ es spare, d = .slice es spare → (es.length + spare.length) * Tryd.prog.bytesOf 5 ≤ reachBytes) : ∃ zs, IsRow W a len cap zs := by
  obtain ⟨fuel, hf⟩ := h
  rcases open_ints Tryd.underlying34 Tryd.underlying5 (by kernel_rfl) hf with ⟨hcs, _⟩ | ⟨x, l, c, zs, hcs, _, hl, hm, hz, hx, hcell, hwz⟩
  · simp [Value.cells] at hcs
    obtain ⟨rfl, rfl, rfl⟩ := hcs
    exact ⟨[], by omega, .inl ⟨rfl, rfl, rfl, rfl⟩⟩
  · simp [Value.cells] at hcs
    obtain ⟨rfl, rfl, rfl⟩ := hcs
    have hd := hs _ _ (congrArg Prod.fst hx)
    rw [show Tryd.prog.bytesOf 5 = 1 by kernel_rfl] at hd
    simp only [lits, List.length_map, List.length_take, List.length_drop, reachBytes] at hd
    have hz2 : zs.length = cap := by simpa using hz
    exact ⟨zs, by omega, .inr ⟨_, rfl, hl, hz2, hcell, hwz⟩⟩

theorem string_reach {s : ByteArray} (h : s.data.toList.length ≤ reachBytes) : s.size ≤ 140737488351232 := by
  rw [byteArray_len] at h
  exact h
end Go.Proofs.YtdlkkflenphkfaaDoor
