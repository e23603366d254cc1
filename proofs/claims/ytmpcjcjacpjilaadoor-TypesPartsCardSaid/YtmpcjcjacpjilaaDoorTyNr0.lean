/- slices.SortFunc of fields, by the library's contract. -/
import Derived.Test.YtmpcjcjacpjilaaDoorTyNp
import Derived.Shelf.SlSortCmp.WholeK
namespace Go.Proofs.YtmpcjcjacpjilaaDoor
open Go.RowKit Go.Shelf Go.Lib Go.Sort

/-- A field: its name, its type's cells, its type. -/
abbrev Fd := ByteArray × Cells × List Ty
def encF (f : Fd) : List Value := .string f.1 :: f.2.1.list

theorem cmp_lt : ∀ a b : List UInt8, Lib.compareBytes a b < 0 ↔ ltB a b = true
  | [], [] => by simp [Lib.compareBytes, ltB]
  | [], _ :: _ => by simp [Lib.compareBytes, ltB]
  | _ :: _, [] => by simp [Lib.compareBytes, ltB]
  | x :: r, y :: s => by
    have ih := cmp_lt r s
    unfold Lib.compareBytes ltB
    by_cases h1 : x.toNat < y.toNat
    · simp [h1, UInt8.lt_iff_toNat_lt]
    · by_cases h2 : y.toNat < x.toNat
      · simp [h1, h2, UInt8.lt_iff_toNat_lt]
      · simp [h1, h2, UInt8.lt_iff_toNat_lt, ih]

def cfF (x y : Fd) : Int := Lib.compareBytes x.1.data.toList y.1.data.toList

theorem ltF (x y : Fd) : ltOf cfF x y = ltB x.1.data.toList y.1.data.toList := by
  unfold ltOf cfF
  rw [Bool.eq_iff_iff, decide_eq_true_eq]
  exact cmp_lt _ _

theorem ltB_cases (a b : List UInt8) : ltB a b = true ∨ a = b ∨ ltB b a = true := by
  cases h1 : ltB a b
  · cases h2 : ltB b a
    · exact .inr (.inl (ltB_total a b h1 h2))
    · exact .inr (.inr rfl)
  · exact .inl rfl

theorem swoF : SWO (ltOf cfF) where
  irrefl x := by rw [ltF]; exact ltB_irr _
  trans x y z h1 h2 := by
    rw [ltF] at *
    exact ltB_trans _ _ _ h1 h2
  ntrans x y z h1 h2 := by
    rw [ltF] at *
    rcases ltB_cases x.1.data.toList y.1.data.toList with h | h | h
    · rw [h] at h1; cases h1
    · rw [h]; exact h2
    · rcases ltB_cases y.1.data.toList z.1.data.toList with g | g | g
      · rw [g] at h2; cases h2
      · rw [← g]; exact h1
      · cases hx : ltB x.1.data.toList z.1.data.toList
        · rfl
        · exact (ltB_asym hx (ltB_trans _ _ _ g h)).elim

set_option maxHeartbeats 1000000 in
theorem closureF (x y : Fd) (W : World) : Calls Tryd.prog 77 #[.agg (encF x).toArray, .agg (encF y).toArray] W fun e w' => e = .returned (.int .i64 (cfF x y)) ∧ ∃ q os', w' = grow (W.drewN q) os' := by
  obtain ⟨nx, ⟨k1, n1, na1, nl1, nc1, ka1, kl1, kc1⟩, _⟩ := x
  obtain ⟨ny, ⟨k2, n2, na2, nl2, nc2, ka2, kl2, kc2⟩, _⟩ := y
  have hcon := fun W' => Tryd.strings_Compare nx ny W'
  unfold cfF
  generalize Lib.compareBytes nx.data.toList ny.data.toList = r at hcon ⊢
  show Calls Tryd.prog 77 #[.agg #[.string nx, .int .i64 k1, .string n1, .slice na1 nl1 nc1, .slice ka1 kl1 kc1], .agg #[.string ny, .int .i64 k2, .string n2, .slice na2 nl2 nc2, .slice ka2 kl2 kc2]] W _
  go_enter Tryd.func77, Tryd.ntmps77
  go_wp2_with (go_at_call 78; refine (hcon _).mono ?_; rintro e w' ⟨rfl, rfl⟩)
  go_ret
  exact ⟨rfl, 0, _, by rw [alloc_eq_grow, alloc_eq_grow, grow_grow]; rfl⟩

theorem sort_block {w : World} {blk off n : Nat} {d : Array Fd} {os : Array Obj} : w.grownBy (sortWorldK encF 5 w blk off n d os) (some blk) := by
  refine ⟨rfl, rfl, rfl, size_sortWorldK_c encF 5 w blk off n d os, fun k hk hne => ?_⟩
  have hk' : k ≠ blk := fun e => hne (by rw [e])
  unfold sortWorldK putRowK putRow mapBlock Go.Sort.ahead grow
  simp only
  rw [Array.getElem?_append_left (by simpa using hk), Array.getElem?_modify, if_neg (fun e => hk' e.symm)]

/-- The fields, sorted by their names. -/
theorem sortF_c (blk cap : Nat) (d : Array Fd) (w : World) (hH : HoldsK encF 5 w blk 0 d) (hblk : blk < w.heap.size) (hsz : d.size ≤ 16) :
    Calls Tryd.prog 76 #[.slice (some ⟨blk, 0, none⟩) d.size cap, .func (.func 77) #[] #[]] w fun e w' => e = .returned (.tuple #[]) ∧
      ∃ d' : Array Fd, d'.toList.Perm d.toList ∧ (∀ i j, i < j → j < d'.size → ltB (d'[j]!).1.data.toList (d'[i]!).1.data.toList = false) ∧ HoldsK encF 5 w' blk 0 d' ∧ w.grownBy w' (some blk) ∧ d'.size = d.size := by
  have eg : ∀ args w, (callFunc 77 args).run Tryd.prog w = .ok (.enter 77 args) w := enters_of Tryd.func77 (by kernel_rfl) rfl
  have hcon := AnyQ.slices_SortFunc Tryd.laysSort 5 Tryd.isAgg85 Tryd.sizeOf85 encF (fun x => rfl) (fun x v hv => by
    simp [encF, Cells.list] at hv
    rcases hv with rfl | rfl | rfl | rfl | rfl <;> rfl) cfF swoF 77 #[] blk 0 cap d w eg (fun _ _ _ _ x y => closureF x y _) hH hblk (by omega)
  change Calls Tryd.prog 76 _ _ _ at hcon
  refine hcon.mono fun e w' ⟨he, d', n, os, ⟨hp1, _, hp3⟩, hs, hw⟩ => ⟨he, d', ?_, ?_, ?_, ?_, hp1⟩
  · have h1 : d'.extract 0 d.size = d' := by rw [← hp1]; simp
    have h2 : d.extract 0 d.size = d := by simp
    rw [h1, h2] at hp3
    exact hp3
  · intro i j hij hj
    have := hs i j (Nat.zero_le _) hij (by omega)
    rwa [ltF] at this
  · rw [hw]
    exact holdsK_sortWorldK_c encF 5 w blk 0 d d' n os hH hblk hp1
  · rw [hw]
    exact sort_block
end Go.Proofs.YtmpcjcjacpjilaaDoor
