/- What every proof of this seat shares: the listed table of words as a condition on memory, and what it gives the walks. -/
import Derived.Test.YtmpcjcjacpjilaaDoorRows
import Derived.Test.YtmpcjcjacpjilaaDoorCards
import Derived.Test.YtmpcjcjacpjilaaDoorTie
import Derived.Test.YtmpcjcjacpjilaaDoorTyAw
import Derived.Test.YtmpcjcjacpjilaaDoorTyOpen
import Derived.WalkKit
import Derived.ProofKit
import Derived.OpenShut
import Derived.ShutString
import Derived.ChangeOld
import Derived.Below
import Derived.LaidMore
import Derived.Stop.Joined
import Derived.Stop.LaidErr
import Derived.SizedLaws
import Derived.Lib.LaidTab
namespace Go.Proofs.YtmpcjcjacpjilaaDoor
open Go.ChangeShapes Go.WideShapes Go.ChangeAt Go.RowKit
open Go.ChangeMaps (open_string shut_string)

theorem own : ownKnob Tryd.prog.godebug = none := by kernel_rfl

theorem laidOut : laidOutB Tryd.prog = true := by kernel_rfl

/-- The listed variables. -/
def laidL : List (String × DataW Unit) := Rows.typesTagsRow.laid

theorem door_met (os : Os) (args : Array Value) : laidMetH Tryd.prog laidL ((World.doorLaid Tryd.prog 150 os).forCall (fun _ _ => 0) ⟨#[], args, []⟩).memory :=
  laidMetH_of_parts3 (fuel := 8) (laidMet_of_run' 8 (by kernel_rfl) (by kernel_rfl)) (by kernel_rfl) (by kernel_rfl)

/-- The two listed variables' names, as the row has them. -/
def wname1 : String := (laidL.map (·.1)).headD "none"
def wname2 : String := ((laidL.map (·.1)).drop 1).headD "none"

theorem words_glob : Tryd.prog.globalNamed wname1 = some 6 := by kernel_rfl
theorem words_type : (Tryd.prog.globals[6]?).map (·.type) = some 139 := by kernel_rfl
theorem words_datum : (Rows.laid_gradus_lex_ownWords : DataW Unit) = .agg (wordsV.map fun t => .lit (.string t)) := by kernel_rfl
theorem plain_glob : Tryd.prog.globalNamed wname2 = some 3 := by kernel_rfl
theorem plain_type : (Tryd.prog.globals[3]?).map (·.type) = some 80 := by kernel_rfl
def plainL : List (List UInt8) := [baseV 0, baseV 1, baseV 2, baseV 3, baseV 4]
theorem plain_datum : (Rows.laid_gradus_types_plainNames : DataW Unit) = .agg (plainL.map fun t => .lit (.string t)) := by kernel_rfl

/-- An array of strings that reads as the table holds the table's strings, cell for cell. -/
theorem cells_of_strs {H : Type} {enc : TypeId × Value → H} {w : World} {base : Nat} {sp : Nat → Bool} {held : Bool} {fuel : Nat} {cs : List Value} {p : List MemPlace} {T K : Nat} {L : List (List UInt8)} (ht : Tryd.prog.underlying T = some (.array K 9)) (hct : Tryd.prog.cellsOf T = K) (hLK : L.length = K)
    (h : DataW.trod enc Tryd.prog w base sp held fuel T cs = some (.agg (L.map fun t => .lit (.string t)), p)) : cs = L.map fun t => Value.string ⟨t.toArray⟩ := by
  have hce : Tryd.prog.cellsOf 9 = 1 := by kernel_rfl
  cases fuel with
  | zero => simp [DataW.trod] at h
  | succ fuel =>
    simp only [DataW.trod, ht, hce, hct, Nat.mul_one] at h
    split at h
    · rename_i hl
      obtain ⟨xs, hm, hx⟩ := Option.map_eq_some_iff.1 h
      have hxs : xs.map (·.1) = L.map fun t => (DataW.lit (.string t) : DataW H) := by
        have := congrArg Prod.fst hx
        simpa using this
      have hxl : xs.length = K := by simpa using Lib.mapM_length hm
      apply List.ext_getElem?
      intro i
      by_cases hi : i < K
      · obtain ⟨b, hb, hf⟩ := Lib.mapM_at hm i i (by simp [hi])
        obtain ⟨s, hc, rfl, _⟩ := DataW.trod_string Tryd.underlying9 hf
        have h1 : cs[i]? = some (.string s) := by
          have := congrArg (·[0]?) hc
          simpa [List.getElem?_take, List.getElem?_drop] using this
        have h2 : (xs.map (·.1))[i]? = some (DataW.lit (.string s.data.toList) : DataW H) := by simp [hb]
        rw [hxs] at h2
        simp only [List.getElem?_map, Option.map_eq_some_iff, DataW.lit.injEq, Lit.string.injEq] at h2
        obtain ⟨t, ht', rfl⟩ := h2
        rw [h1, List.getElem?_map, ht']
        rfl
      · rw [List.getElem?_eq_none (by omega), List.getElem?_eq_none (by simp only [List.length_map]; omega)]
    · cases h

theorem laidL_is : laidL = [(wname1, .agg (wordsV.map fun t => .lit (.string t))), (wname2, .agg (plainL.map fun t => .lit (.string t)))] := by
  rw [← words_datum, ← plain_datum]
  rfl

theorem tab_of_laid {W : World} (h : laidMetH Tryd.prog laidL W) : Words W ∧ Plain W := by
  rw [MakeChecks.laidMetH_plain _ _ _ (by kernel_rfl)] at h
  rw [laidL_is] at h
  obtain ⟨ps, ⟨g1, t1, cs1, f1, p1, q1, hg1, ht1, hv1, hd1, ⟨g2, t2, cs2, f2, p2, q2, hg2, ht2, hv2, hd2, _, _⟩, _⟩, _⟩ := h
  obtain rfl := Option.some.inj (words_glob.symm.trans hg1)
  obtain rfl := Option.some.inj (words_type.symm.trans ht1)
  obtain rfl := Option.some.inj (plain_glob.symm.trans hg2)
  obtain rfl := Option.some.inj (plain_type.symm.trans ht2)
  obtain rfl : cs1 = (wordsV.map fun t => Value.string ⟨t.toArray⟩).toArray := by rw [← cells_of_strs Tryd.underlying139 (by kernel_rfl) (by kernel_rfl) hd1]
  obtain rfl : cs2 = (plainL.map fun t => Value.string ⟨t.toArray⟩).toArray := by rw [← cells_of_strs Tryd.underlying80 (by kernel_rfl) (by kernel_rfl) hd2]
  constructor
  · intro i hi
    have := World.var?_cell words_glob hv1 i
    rw [this]
    simp only [List.getElem?_toArray, List.getElem?_map]
    rw [List.getElem?_eq_getElem (show i < wordsV.length from hi)]
    unfold wordB
    rw [List.getD_eq_getElem?_getD, List.getElem?_eq_getElem (show i < wordsV.length from hi)]
    rfl
  · intro i hi
    have := World.var?_cell plain_glob hv2 i
    rw [this]
    have h5 : i = 0 ∨ i = 1 ∨ i = 2 ∨ i = 3 ∨ i = 4 := by omega
    rcases h5 with rfl | rfl | rfl | rfl | rfl <;> rfl

theorem string_reach {s : ByteArray} (h : s.data.toList.length ≤ reachBytes) : s.size ≤ 140737488351232 := by
  rw [byteArray_len] at h
  exact h
end Go.Proofs.YtmpcjcjacpjilaaDoor
