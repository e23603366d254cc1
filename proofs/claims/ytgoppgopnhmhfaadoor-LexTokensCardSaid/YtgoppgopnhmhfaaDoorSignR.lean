/- The signs: lex.letterIndex, (*scanner).signLength, each by a contract. -/
import Derived.Test.YtgoppgopnhmhfaaDoorRow
import Derived.Test.YtgoppgopnhmhfaaDoorStrs
import Derived.BigRegion
import Derived.Maps.AppendAt
namespace Go.Proofs.YtgoppgopnhmhfaaDoor
open Go.RowKit Go.Maps

/-- Which of the four letters it is. -/
def letX (c : UInt8) : Int := if c = 92 then 0 else if c = 34 then 1 else if c = 110 then 2 else if c = 116 then 3 else -1

theorem indexByte_letters (c : UInt8) : Lib.indexByte [92, 34, 110, 116] c = letX c := by
  unfold letX
  by_cases h1 : c = 92
  · subst h1; decide
  by_cases h2 : c = 34
  · subst h2; decide
  by_cases h3 : c = 110
  · subst h3; decide
  by_cases h4 : c = 116
  · subst h4; decide
  have e1 : ((92 : UInt8) == c) = false := by simpa using fun h => h1 h.symm
  have e2 : ((34 : UInt8) == c) = false := by simpa using fun h => h2 h.symm
  have e3 : ((110 : UInt8) == c) = false := by simpa using fun h => h3 h.symm
  have e4 : ((116 : UInt8) == c) = false := by simpa using fun h => h4 h.symm
  simp [Lib.indexByte, e1, e2, e3, e4, h1, h2, h3, h4]

theorem toNat_u8 (c : UInt8) : ((c.toNat : Int).toNat).toUInt8 = c := by simp

theorem letters_c (c : UInt8) (w : World) : Calls Tryd.prog 32 #[.string { data := #[92, 34, 110, 116] }, .int .u8 c.toNat] w fun e w' => e = .returned (.int .i64 (letX c)) ∧ w' = w := by
  have h := Tryd.strings_IndexByte { data := #[92, 34, 110, 116] } c.toNat w
  rw [toNat_u8, indexByte_letters] at h
  exact h

theorem letterIndex_out (S : ByteArray) (i : Nat) (hi : S.size ≤ i) (w : World) : Calls Tryd.prog 43 #[.string S, .int .i64 i] w fun e w' => e = .returned (.int .i64 (-1)) ∧ w' = w := by
  go_enter Tryd.func43, Tryd.ntmps43
  go_wp2
  go_ret
  exact ⟨rfl, rfl⟩

theorem letterIndex_in (S : ByteArray) (i : Nat) (hi : i < S.size) (w : World) : Calls Tryd.prog 43 #[.string S, .int .i64 i] w fun e w' => e = .returned (.int .i64 (letX S[i])) ∧ w' = w := by
  have hc := hideP (letters_c S[i])
  obtain ⟨x, hx⟩ : ∃ x, x = letX S[i] := ⟨_, rfl⟩
  rw [← hx] at hc ⊢
  clear hx
  go_enter Tryd.func43, Tryd.ntmps43
  go_wp2_with fail
  refine (hc.out _).mono ?_
  rintro e w' ⟨rfl, rfl⟩
  go_wp2
  go_ret
  exact ⟨rfl, rfl⟩

/-- Is it a sign of one byte? -/
theorem indexByte_mem (l : List UInt8) (c : UInt8) : (0 ≤ Lib.indexByte l c) ↔ c ∈ l := by
  induction l with
  | nil => simp [Lib.indexByte]
  | cons b r ih =>
    unfold Lib.indexByte
    by_cases h : b = c
    · subst h; simp
    · have e : (b == c) = false := by simpa using h
      rw [if_neg (by rw [e]; decide)]
      by_cases h2 : c ∈ r
      · have h3 := ih.2 h2
        have e2 : (Lib.indexByte r c == -1) = false := by simp; omega
        rw [if_neg (by rw [e2]; decide)]
        simp [h2]
        omega
      · have h3 : ¬ 0 ≤ Lib.indexByte r c := fun hh => h2 (ih.1 hh)
        simp only [List.mem_cons, h2, or_false]
        constructor
        · intro h4
          exfalso
          split at h4
          · omega
          · rename_i h5
            simp at h5
            have : Lib.indexByte r c < -1 ∨ Lib.indexByte r c = -1 := by omega
            have hlow : -1 ≤ Lib.indexByte r c := by
              clear ih h2 h3 h4 h5 this
              induction r with
              | nil => simp [Lib.indexByte]
              | cons d r ih2 =>
                unfold Lib.indexByte
                split
                · omega
                split
                · omega
                · omega
            omega
        · intro h4; exact absurd h4.symm h

/-- Where it stands among the signs of one byte. -/
def oneX (c : UInt8) : Int := Lib.indexByte oneV c

theorem oneX_mem (c : UInt8) : 0 ≤ oneX c ↔ oneV.contains c = true := by
  rw [oneX, indexByte_mem, List.contains_iff_mem]

theorem oneSign_c (c : UInt8) (w : World) : Calls Tryd.prog 32 #[.string { data := #[40, 41, 123, 125, 91, 93, 44, 58, 59, 61, 43, 45, 42, 47, 37, 38, 94, 60, 124, 46] }, .int .u8 c.toNat] w fun e w' =>
    e = .returned (.int .i64 (oneX c)) ∧ w' = w := by
  have h := Tryd.strings_IndexByte { data := #[40, 41, 123, 125, 91, 93, 44, 58, 59, 61, 43, 45, 42, 47, 37, 38, 94, 60, 124, 46] } c.toNat w
  rw [toNat_u8] at h
  exact h

/-- The sign that begins at k, by its two tests. -/
theorem sign_two {S : ByteArray} {k : Nat} (hk : k + 1 < S.size) (h : twoV.contains (S[k], S[k + 1]) = true) : signV (S.data.toList.drop k) = 2 := by
  rw [byteArray_drop S k (by omega), byteArray_drop S (k + 1) hk, signV, if_pos h]

theorem sign_one {S : ByteArray} {k : Nat} (hk : k < S.size) (h : ∀ hk1 : k + 1 < S.size, twoV.contains (S[k], S[k + 1]) = false) : signV (S.data.toList.drop k) = if oneV.contains S[k] then 1 else 0 := by
  rw [byteArray_drop S k hk]
  by_cases h1 : k + 1 < S.size
  · rw [byteArray_drop S (k + 1) h1, signV, if_neg (by rw [h h1]; decide)]
  · rw [List.drop_eq_nil_of_le (by rw [byteArray_len]; omega), signV]

theorem pair_look {w : World} {mb : Nat} {D : DataW Unit} (hown : w.ownsMap Tryd.prog 52 unitElem mb 8 D) (hD : PairsD D) (a b : UInt8) {v : Bool} (hv : twoV.contains (a, b) = v) :
    (Instr.lookup 37 (.map (some mb)) (.agg #[.int .u8 a.toNat, .int .u8 b.toNat]) true).run Tryd.prog w = .ok (.tuple #[.agg #[], .bool v]) w := by
  subst hv
  obtain ⟨v, ps, hrun, hv⟩ := hown.look_ok pairLaw Tryd.underlying37 (Tryd.zeroValue53 w) (zd := .agg []) (zp := []) unitElem_mk (pairL_key a b)
  obtain ⟨rfl, _⟩ := unitElem_inv hv
  rw [hD a b _ (pairL_key a b)] at hrun
  exact hrun

theorem later_grown (w : World) (n : Nat) (o : Obj) : w.grownBy ((w.drewN n).alloc o) none := (grown_drewN (World.grownBy.refl w none) n).trans (World.grownBy_alloc _ _ _)
end Go.Proofs.YtgoppgopnhmhfaaDoor
