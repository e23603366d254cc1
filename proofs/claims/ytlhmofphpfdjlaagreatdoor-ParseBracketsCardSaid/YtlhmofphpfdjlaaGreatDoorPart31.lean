/- Part. -/
import Derived.Laws.BytesArg
import Derived.Shelf.Strings.Builder1
import Derived.Shelf.Strings.Builder2
import Derived.Shelf.Small.Strs
import Derived.Shelf.Strconv.Itoa0
import Derived.Shelf.Strconv.Itoa1
import Derived.Shelf.LaysM
import Derived.Shelf.Strconv.Itoa2
import Derived.Shelf.Strconv.Itoa3
import Derived.Shelf.Strings.Search1
import Derived.Test.YtlhmofphpfdjlaaGreatDoorPart30
set_option maxRecDepth 100000
set_option maxHeartbeats 4000000
/- Worlds of which two blocks alone are written; rows of bytes that a call has made. -/
namespace Go.Proofs.YtlhmofphpfdjlaaGreatDoor.Lx
open Go.Proofs.Tryz
open Go.RowKit
/-- Nothing that was there has changed but the blocks a and b. -/
structure Upd (w w' : World) (a b : Nat) : Prop where
  os : w'.os = w.os
  tape : w'.tape = w.tape
  output : w'.output = w.output
  size : w.heap.size <= w'.heap.size
  block : ∀ i, i < w.heap.size -> i ≠ a -> i ≠ b -> w'.heap[i]? = w.heap[i]?
theorem Upd.refl (w : World) (a b : Nat) : Upd w w a b := ⟨rfl, rfl, rfl, Nat.le_refl _, fun _ _ _ _ => rfl⟩
theorem Upd.trans {w w1 w2 : World} {a b : Nat} (h : Upd w w1 a b) (k : Upd w1 w2 a b) : Upd w w2 a b :=
  ⟨k.os.trans h.os, k.tape.trans h.tape, k.output.trans h.output, Nat.le_trans h.size k.size, fun i hi ha hb => (k.block i (Nat.lt_of_lt_of_le hi h.size) ha hb).trans (h.block i hi ha hb)⟩
theorem Upd.ofNone {w w' : World} (h : w.grownBy w' none) (a b : Nat) : Upd w w' a b := ⟨h.os, h.tape, h.output, h.size, fun i hi _ _ => h.block i hi (by simp)⟩
theorem Upd.ofL {w w' : World} {a : Nat} (h : w.grownBy w' (some a)) (b : Nat) : Upd w w' a b := ⟨h.os, h.tape, h.output, h.size, fun i hi ha _ => h.block i hi (by simpa using ha)⟩
theorem Upd.ofR {w w' : World} {b : Nat} (h : w.grownBy w' (some b)) (a : Nat) : Upd w w' a b := ⟨h.os, h.tape, h.output, h.size, fun i hi _ hb => h.block i hi (by simpa using hb)⟩
theorem Upd.setL {w w' : World} {a b : Nat} (h : Upd w w' a b) (o : Nat) (v : Value) : Upd w (w'.setCell ⟨a, o, none⟩ v) a b := h.trans (.ofL (grown_set (World.grownBy.refl _ _) o v) b)
theorem Upd.setR {w w' : World} {a b : Nat} (h : Upd w w' a b) (o : Nat) (v : Value) : Upd w (w'.setCell ⟨b, o, none⟩ v) a b := h.trans (.ofR (grown_set (World.grownBy.refl _ _) o v) a)
theorem Upd.drewN {w w' : World} {a b : Nat} (h : Upd w w' a b) (n : Nat) : Upd w (w'.drewN n) a b := ⟨h.os, h.tape, h.output, h.size, h.block⟩
theorem Upd.drew {w w' : World} {a b : Nat} (h : Upd w w' a b) : Upd w w'.drew a b := ⟨h.os, h.tape, h.output, h.size, h.block⟩
theorem Upd.below {w w' : World} {a b B : Nat} (h : Upd w w' a b) (hB : B <= w.heap.size) (ha : B <= a) (hb : B <= b) : Below B w w' :=
  ⟨h.os, h.tape, h.output, h.size, fun i hi => h.block i (by omega) (by omega) (by omega)⟩
theorem Upd.words {w w' : World} {a b : Nat} (h : Upd w w' a b) (hw : Words w) (ha : 4 ≠ a) (hb : 4 ≠ b) : Words w' := fun i hi => by
  have := hw i hi
  rw [World.cell?_of_block (w := w) (h.block 4 hw.lt ha hb)]
  exact this
theorem Upd.map {w w' : World} {a b mb n : Nat} {D : DataW Unit} (h : Upd w w' a b) (ho : w.ownsMap prog 136 unitElem mb n D) (ha : mb ≠ a) (hb : mb ≠ b) : w'.ownsMap prog 136 unitElem mb n D := by
  have hlt := ho.lt
  obtain ⟨es, clock, hh, r⟩ := ho
  exact ⟨es, clock, by rw [h.block mb hlt ha hb]; exact hh, r⟩
theorem Upd.owns {w w' : World} {a b base e size n : Nat} {v : Value} {xs : List Value} (h : Upd w w' a b) (ho : w.ownsRow base e size v n xs) (ha : v.ownBlock ≠ some a) (hb : v.ownBlock ≠ some b) : w'.ownsRow base e size v n xs := by
  obtain ⟨h1, h2⟩ := ho
  refine ⟨h1, ?_⟩
  rcases h2 with h2 | ⟨g, cap, cur, rfl, hg, hh, r⟩
  · exact .inl h2
  · refine .inr ⟨g, cap, cur, rfl, hg, ?_, r⟩
    rw [h.block g (lt_of_block hh) (fun e => ha (by simp [Value.ownBlock, e])) (fun e => hb (by simp [Value.ownBlock, e]))]
    exact hh
/-- Bytes as cells. -/
def bcs (l : List UInt8) : List Value := l.map fun b => .int .u8 b.toNat
theorem bcs_len (l : List UInt8) : (bcs l).length = l.length := by simp [bcs]
theorem bcs_snoc (l : List UInt8) (b : UInt8) : bcs (l ++ [b]) = bcs l ++ [.int .u8 b.toNat] := by simp [bcs]
theorem strOf_bytes (l : List UInt8) : strOfNums (l.map fun b => (b.toNat : Int)) = ⟨l.toArray⟩ := by
  unfold strOfNums
  congr 1
  simp [Function.comp_def]
/-- A row of the call's own as a string. -/
theorem conv_bytes {w : World} {B n : Nat} {v : Value} {l : List UInt8} (h : w.ownsRow B 5 1 v n (bcs l)) : (convert 131 9 v).run prog w = .ok (.string ⟨l.toArray⟩) w := by
  have hl : l.length = n := by
    have := h.1
    rw [bcs_len] at this
    omega
  rw [<- strOf_bytes]
  rcases h.2 with ⟨rfl, h0⟩ | ⟨g, cap, cur, rfl, _⟩
  · have : l = [] := List.eq_nil_of_length_eq_zero (by omega)
    rw [this]
    exact run_convert_bytes_nil w 131 5 underlying131 underlying5 0 0 9 underlying9
  · refine run_convert_bytes_arg w 131 5 underlying131 underlying5 g 0 n cap _ (by simpa using hl) ?_ 9 underlying9
    intro i hi
    have := h.cells (g := g) rfl i (.int .u8 ((l.map fun b => (b.toNat : Int)).getD i 0)) (by simp [bcs, List.getD, show i < l.length by omega])
    have hadd : (⟨g, 0, none⟩ : Addr).add i = ⟨g, 0 + i, none⟩ := by unfold Addr.add; split <;> simp_all
    rw [hadd] at this
    exact this
theorem cell_new1 (W : World) (x : Int) (t : TypeId) : ∀ j u, [Value.int .u8 x][j]? = some u -> (W.alloc (.cells #[.int .u8 x] t)).cell? ((⟨W.heap.size, 0, none⟩ : Addr).add j) = some u := by
  intro j u hj
  match j, hj with
  | 0, hj =>
    simp at hj
    subst hj
    simp [Addr.add]
theorem one_cell (x : Int) : ∀ u ∈ [Value.int .u8 x], u.oneCell' = true := by
  intro u hu
  simp at hu
  subst hu
  rfl
theorem info_byte : (prog.info? 5).map (fun i => (i.zero, i.size, i.bytes)) = some (some (.int .u8 0), 1, 1) := by kernel_rfl
end Go.Proofs.YtlhmofphpfdjlaaGreatDoor.Lx
/- The contracts of Go's library that this seat uses, laid at its dump: each is one application of the shelf's theorem. -/
namespace Go.Proofs
open Go.Proofs.Tryz
open Go.Shelf Go.RowKit Go.Lib
def lays137_ren : Go.Shelf.Ren := ⟨fun | 137 => 78 | 217 => 109 | 266 => 122 | n => n, fun | 9 => 9 | 5 => 5 | 3 => 3 | n => n, fun | n => n⟩
theorem lays137 : Go.Proofs.Lays.n137 prog lays137_ren := {
  mixed := by kernel_rfl
  f137 := func78.trans (congrArg some (by kernel_rfl))
  f217 := func109.trans (congrArg some (by kernel_rfl))
  f266 := func122.trans (congrArg some (by kernel_rfl))
  t3 := underlying3
  a3 := isAgg3
  z3 := sizeOf3
  v3 := zeroValue3
  t5 := underlying5
  a5 := isAgg5
  z5 := sizeOf5
  v5 := zeroValue5
  t9 := underlying9
  a9 := isAgg9
  z9 := sizeOf9
  v9 := zeroValue9 }
theorem strings_IndexByte (s : ByteArray) (c : Int) (w : World) :
    Calls prog 78 #[.string s, .int .u8 c] w fun e w' => e = .returned (.int .i64 (Lib.indexByte s.data.toList c.toNat.toUInt8)) /\ w' = w := Any.strings_IndexByte lays137 s c w
end Go.Proofs
/- The signs: lex.letterIndex, (*scanner).signLength, each by a contract. -/
namespace Go.Proofs.YtlhmofphpfdjlaaGreatDoor.Lx
open Go.Proofs.Tryz
open Go.RowKit Go.Maps
/-- Which of the four letters it is. -/
def letX (c : UInt8) : Int := if c = 92 then 0 else if c = 34 then 1 else if c = 110 then 2 else if c = 116 then 3 else -1
theorem indexByte_letters (c : UInt8) : Lib.indexByte [92, 34, 110, 116] c = letX c := by
  unfold letX
  by_cases h1 : c = 92
  · subst h1; decide
  by_cases h2 : c = 34
  · subst h2; decide
  by_cases h3 : c = 110
  · subst h3; decide
  by_cases h4 : c = 116
  · subst h4; decide
  have e1 : ((92 : UInt8) == c) = false := by simpa using fun h => h1 h.symm
  have e2 : ((34 : UInt8) == c) = false := by simpa using fun h => h2 h.symm
  have e3 : ((110 : UInt8) == c) = false := by simpa using fun h => h3 h.symm
  have e4 : ((116 : UInt8) == c) = false := by simpa using fun h => h4 h.symm
  simp [Lib.indexByte, e1, e2, e3, e4, h1, h2, h3, h4]
theorem toNat_u8 (c : UInt8) : ((c.toNat : Int).toNat).toUInt8 = c := by simp
theorem letters_c (c : UInt8) (w : World) : Calls prog 78 #[.string { data := #[92, 34, 110, 116] }, .int .u8 c.toNat] w fun e w' => e = .returned (.int .i64 (letX c)) /\ w' = w := by
  have h := strings_IndexByte { data := #[92, 34, 110, 116] } c.toNat w
  rw [toNat_u8, indexByte_letters] at h
  exact h
theorem letterIndex_out (S : ByteArray) (i : Nat) (hi : S.size <= i) (w : World) : Calls prog 113 #[.string S, .int .i64 i] w fun e w' => e = .returned (.int .i64 (-1)) /\ w' = w := by
  go_enter func113, ntmps113
  go_wp2
  go_ret
  exact ⟨rfl, rfl⟩
theorem letterIndex_in (S : ByteArray) (i : Nat) (hi : i < S.size) (w : World) : Calls prog 113 #[.string S, .int .i64 i] w fun e w' => e = .returned (.int .i64 (letX S[i])) /\ w' = w := by
  have hc := hideP (letters_c S[i])
  obtain ⟨x, hx⟩ : ∃ x, x = letX S[i] := ⟨_, rfl⟩
  rw [<- hx] at hc ⊢
  clear hx
  go_enter func113, ntmps113
  go_wp2_with fail
  refine (hc.out _).mono ?_
  rintro e w' ⟨rfl, rfl⟩
  go_wp2
  go_ret
  exact ⟨rfl, rfl⟩
/-- Is it a sign of one byte? -/
theorem indexByte_mem (l : List UInt8) (c : UInt8) : (0 <= Lib.indexByte l c) ↔ c ∈ l := by
  induction l with
  | nil => simp [Lib.indexByte]
  | cons b r ih =>
    unfold Lib.indexByte
    by_cases h : b = c
    · subst h; simp
    · have e : (b == c) = false := by simpa using h
      rw [if_neg (by rw [e]; decide)]
      by_cases h2 : c ∈ r
      · have h3 := ih.2 h2
        have e2 : (Lib.indexByte r c == -1) = false := by simp; omega
        rw [if_neg (by rw [e2]; decide)]
        simp [h2]
        omega
      · have h3 : ¬ 0 <= Lib.indexByte r c := fun hh => h2 (ih.1 hh)
        simp only [List.mem_cons, h2, or_false]
        constructor
        · intro h4
          exfalso
          split at h4
          · omega
          · rename_i h5
            simp at h5
            have : Lib.indexByte r c < -1 ∨ Lib.indexByte r c = -1 := by omega
            have hlow : -1 <= Lib.indexByte r c := by
              clear ih h2 h3 h4 h5 this
              induction r with
              | nil => simp [Lib.indexByte]
              | cons d r ih2 =>
                unfold Lib.indexByte
                split
                · omega
                split
                · omega
                · omega
            omega
        · intro h4; exact absurd h4.symm h
/-- Where it stands among the signs of one byte. -/
def oneX (c : UInt8) : Int := Lib.indexByte oneV c
theorem oneX_mem (c : UInt8) : 0 <= oneX c ↔ oneV.contains c = true := by
  rw [oneX, indexByte_mem, List.contains_iff_mem]
theorem oneSign_c (c : UInt8) (w : World) : Calls prog 78 #[.string { data := #[40, 41, 123, 125, 91, 93, 44, 58, 59, 61, 43, 45, 42, 47, 37, 38, 94, 60, 124, 46] }, .int .u8 c.toNat] w fun e w' =>
    e = .returned (.int .i64 (oneX c)) /\ w' = w := by
  have h := strings_IndexByte { data := #[40, 41, 123, 125, 91, 93, 44, 58, 59, 61, 43, 45, 42, 47, 37, 38, 94, 60, 124, 46] } c.toNat w
  rw [toNat_u8] at h
  exact h
/-- The sign that begins at k, by its two tests. -/
theorem sign_two {S : ByteArray} {k : Nat} (hk : k + 1 < S.size) (h : twoV.contains (S[k], S[k + 1]) = true) : signV (S.data.toList.drop k) = 2 := by
  rw [byteArray_drop S k (by omega), byteArray_drop S (k + 1) hk, signV, if_pos h]
theorem sign_one {S : ByteArray} {k : Nat} (hk : k < S.size) (h : ∀ hk1 : k + 1 < S.size, twoV.contains (S[k], S[k + 1]) = false) : signV (S.data.toList.drop k) = if oneV.contains S[k] then 1 else 0 := by
  rw [byteArray_drop S k hk]
  by_cases h1 : k + 1 < S.size
  · rw [byteArray_drop S (k + 1) h1, signV, if_neg (by rw [h h1]; decide)]
  · rw [List.drop_eq_nil_of_le (by rw [byteArray_len]; omega), signV]
theorem pair_look {w : World} {mb : Nat} {D : DataW Unit} (hown : w.ownsMap prog 136 unitElem mb 8 D) (hD : PairsD D) (a b : UInt8) {v : Bool} (hv : twoV.contains (a, b) = v) :
    (Instr.lookup 93 (.map (some mb)) (.agg #[.int .u8 a.toNat, .int .u8 b.toNat]) true).run prog w = .ok (.tuple #[.agg #[], .bool v]) w := by
  subst hv
  obtain ⟨v, ps, hrun, hv⟩ := hown.look_ok pairLaw underlying93 (zeroValue137 w) (zd := .agg []) (zp := []) unitElem_mk (pairL_key a b)
  obtain ⟨rfl, _⟩ := unitElem_inv hv
  rw [hD a b _ (pairL_key a b)] at hrun
  exact hrun
theorem later_grown (w : World) (n : Nat) (o : Obj) : w.grownBy ((w.drewN n).alloc o) none := (grown_drewN (World.grownBy.refl w none) n).trans (World.grownBy_alloc _ _ _)
end Go.Proofs.YtlhmofphpfdjlaaGreatDoor.Lx
/- (*scanner).signLength by a contract. -/
namespace Go.Proofs.YtlhmofphpfdjlaaGreatDoor.Lx
open Go.Proofs.Tryz
open Go.RowKit Go.Maps
theorem signLength_c (S : ByteArray) (hS : S.size <= 65536) (sb mb k : Nat) (li ls : Int) (hk0 : k < S.size) (w : World) (hsc : Scan w sb S k li ls mb) (D : DataW Unit) (hown : w.ownsMap prog 136 unitElem mb 8 D) (hD : PairsD D) :
    Calls prog 114 #[.pointer (some ⟨sb, 0, none⟩)] w fun e w' => e = .returned (.int .i64 (signV (S.data.toList.drop k))) /\ w.grownBy w' none := by
  obtain ⟨r, hr⟩ : ∃ r, r = signV (S.data.toList.drop k) := ⟨_, rfl⟩
  rw [<- hr]
  have HR := hideP hr
  clear hr
  have hone := hideP (oneSign_c S[k])
  have hmem := hideP (oneX_mem S[k])
  obtain ⟨x, hx⟩ : ∃ x, x = oneX S[k] := ⟨_, rfl⟩
  rw [<- hx] at hone hmem
  clear hx
  have c0 := hsc.c0
  have c1 := hsc.c1
  have c4 := hsc.c4
  have hx0 : 0 <= x ∨ x < 0 := by omega
  by_cases hk : k + 1 < S.size
  · have hk1 : (k : Int) + 1 < (S.size : Int) := by omega
    have hk2 : (0 : Int) <= (k : Int) + 1 := by omega
    obtain ⟨v, hv⟩ : ∃ v, v = twoV.contains (S[k], S[k + 1]) := ⟨_, rfl⟩
    have hl : ∀ n, (Instr.lookup 93 (.map (some mb)) (.agg #[.int .u8 S[k].toNat, .int .u8 S[k + 1].toNat]) true).run prog (w.drewN n) = .ok (.tuple #[.agg #[], .bool v]) (w.drewN n) :=
      fun n => pair_look (w := w.drewN n) hown hD _ _ hv.symm
    have hl2 : ∀ n, (Instr.lookup 93 (.map (some mb)) (.agg #[.int .u8 S[k].toNat, .int .u8 S[k + 1].toNat]) true).run prog ((w.drewN n).alloc (.cells #[] 137)) = .ok (.tuple #[.agg #[], .bool v]) ((w.drewN n).alloc (.cells #[] 137)) :=
      fun n => pair_look (hown.kept (later_grown w n _) (by simp)) hD _ _ hv.symm
    have d0 : ∀ n, ((w.drewN n).alloc (.cells #[] 137)).cell? ⟨sb, 0, none⟩ = some (.string S) := fun n => (hsc.kept (later_grown w n _) (by simp)).c0
    have d1 : ∀ n, ((w.drewN n).alloc (.cells #[] 137)).cell? ⟨sb, 1, none⟩ = some (.int .i64 k) := fun n => (hsc.kept (later_grown w n _) (by simp)).c1
    have d4 : ∀ n, ((w.drewN n).alloc (.cells #[] 137)).cell? ⟨sb, 4, none⟩ = some (.map (some mb)) := fun n => (hsc.kept (later_grown w n _) (by simp)).c4
    have HV := hideP hv
    clear hsc hown hD hv
    cases v
    · have e1 := sign_one hk0 (fun _ => HV.out.symm)
      rw [<- HR.out] at e1
      have e3 : (0 <= x /\ r = 1) ∨ (x < 0 /\ r = 0) := by
        rcases hx0 with h | h
        · exact .inl ⟨h, by rw [e1, hmem.out.1 h]; rfl⟩
        · refine .inr ⟨h, ?_⟩
          rw [e1, if_neg]
          intro hh
          have := hmem.out.2 hh
          omega
      clear e1 hx0
      go_enter func114, ntmps114
      go_wp2
      go_quiet (fail)
      go_wp2
      go_region
      all_goals
        clear hl hl2 c0 c1 c4
        rcases e3 with ⟨h, rfl⟩ | ⟨h, rfl⟩
        · go_wp2
          go_quiet ((go_at_call 78; refine Calls.quiet_of_same (hone.out _)))
          go_wp2
          go_ret
          exact ⟨rfl, grown_drewN (later_grown _ _ _) _⟩
        · go_wp2
          go_quiet ((go_at_call 78; refine Calls.quiet_of_same (hone.out _)))
          go_wp2
          go_ret
          exact ⟨rfl, grown_drewN (later_grown _ _ _) _⟩
    · have e1 := sign_two hk HV.out.symm
      rw [<- HR.out] at e1
      subst e1
      go_enter func114, ntmps114
      go_wp2
      go_quiet (fail)
      go_wp2
      go_region
      all_goals
        go_wp2
        go_ret
        exact ⟨rfl, later_grown _ _ _⟩
  · have hk1 : ¬ (k : Int) + 1 < (S.size : Int) := by omega
    have e1 := sign_one hk0 (fun h => absurd h hk)
    rw [<- HR.out] at e1
    have e3 : (0 <= x /\ r = 1) ∨ (x < 0 /\ r = 0) := by
      rcases hx0 with h | h
      · exact .inl ⟨h, by rw [e1, hmem.out.1 h]; rfl⟩
      · refine .inr ⟨h, ?_⟩
        rw [e1, if_neg]
        intro hh
        have := hmem.out.2 hh
        omega
    clear hsc hown hD c4 e1 hx0
    have C0 := hideP c0
    have C1 := hideP c1
    go_enter func114, ntmps114
    go_wp2
    go_quiet (fail)
    go_wp2
    generalize hw1 : World.drewN w _ = w1
    have hg : Hid (w.grownBy w1 none) := by rw [<- hw1]; exact grown_drewN (World.grownBy.refl _ _) _
    have d0 : w1.cell? ⟨sb, 0, none⟩ = some (.string S) := by rw [<- hw1]; exact C0.out
    have d1 : w1.cell? ⟨sb, 1, none⟩ = some (.int .i64 k) := by rw [<- hw1]; exact C1.out
    clear c0 c1 hw1
    rcases e3 with ⟨h, rfl⟩ | ⟨h, rfl⟩
    · go_quiet ((go_at_call 78; refine Calls.quiet_of_same (hone.out _)))
      go_wp2
      go_ret
      exact ⟨rfl, grown_drewN hg.out _⟩
    · go_quiet ((go_at_call 78; refine Calls.quiet_of_same (hone.out _)))
      go_wp2
      go_ret
      exact ⟨rfl, grown_drewN hg.out _⟩
end Go.Proofs.YtlhmofphpfdjlaaGreatDoor.Lx
/- (*scanner).readSign by a contract. -/
namespace Go.Proofs.YtlhmofphpfdjlaaGreatDoor.Lx
open Go.Proofs.Tryz
open Go.RowKit
/-- What a call that reads a sign leaves. -/
def SignPost (S : ByteArray) (sb mb k : Nat) (li ls : Int) (tb : Nat) (kd tl tc : Int) (w : World) (n : Nat) (e : Ending) (w' : World) : Prop :=
  if n = 0 then e = .returned (.int .i64 5) /\ w.grownBy w' none else
    e = .returned (.int .i64 0) /\ Scan w' sb S ((k + n : Nat) : Int) li ls mb /\ TokB w' tb kd ⟨((S.data.toList.drop k).take n).toArray⟩ tl tc /\ Upd w w' sb tb
theorem readSign_c (S : ByteArray) (hS : S.size <= 65536) (sb mb k : Nat) (li ls : Int) (hk : k < S.size) (tb : Nat) (kd : Int) (tx : ByteArray) (tl tc : Int) (hne : sb ≠ tb) (w : World) (hsc : Scan w sb S k li ls mb) (htk : TokB w tb kd tx tl tc)
    (D : DataW Unit) (hown : w.ownsMap prog 136 unitElem mb 8 D) (hD : PairsD D) :
    Calls prog 93 #[.pointer (some ⟨sb, 0, none⟩), .pointer (some ⟨tb, 0, none⟩)] w (SignPost S sb mb k li ls tb kd tl tc w (signV (S.data.toList.drop k))) := by
  have hc := signLength_c S hS sb mb k li ls hk w hsc D hown hD
  have hle := signV_le (S.data.toList.drop k)
  rw [List.length_drop, byteArray_len] at hle
  obtain ⟨n, hn⟩ : ∃ n, n = signV (S.data.toList.drop k) := ⟨_, rfl⟩
  rw [<- hn] at hc hle ⊢
  have HC := hideP hc
  have HS := hideP hsc
  have HT := hideP htk
  clear hn hc hsc htk hown hD
  by_cases h0 : n = 0
  · subst h0
    go_enter func93, ntmps93
    go_wp2_with fail
    refine HC.out.mono ?_
    rintro e w1 ⟨rfl, hg⟩
    have HG := hideP hg
    clear hg
    go_wp2
    go_ret
    exact ⟨rfl, HG.out⟩
  have b0 : ((n : Int) == 0) = false := by simp; omega
  have l1 : (k : Int) + (n : Int) <= (S.size : Int) := by omega
  have l2 : (k : Int) <= (k : Int) + (n : Int) := by omega
  go_enter func93, ntmps93
  go_wp2_with fail
  refine HC.out.mono ?_
  rintro e w1 ⟨rfl, hg⟩
  have HG := hideP hg
  have hs1 := HS.out.kept hg (by simp)
  have ht1 := HT.out.kept hg (by simp)
  have HS1 := hideP hs1
  have HT1 := hideP ht1
  have c0 := hs1.c0
  have c1 := hs1.c1
  have f1 := hs1.fz 1
  have t1 := ht1.c1
  have g1 := ht1.fz 1
  clear hg hs1 ht1
  go_wp2
  go_region
  all_goals
    have hs2 := HS1.out.kept (grown_setCell w1 ⟨tb, 1, none⟩ (.string (S.extract k (k + n)))) (by simpa using hne)
    have HS2 := hideP hs2
    have d1 := hs2.c1
    have e1 := hs2.fz 1
    clear hs2
    go_wp2
    go_ret
    rw [SignPost, if_neg h0]
    refine ⟨rfl, HS2.out.set1 _, ?_, ?_⟩
    · have := (HT1.out.set1 (S.extract k (k + n))).kept (grown_setCell _ ⟨sb, 1, none⟩ (.int .i64 ((k : Int) + n))) (by simpa using hne.symm)
      rw [extract_eq, Nat.add_sub_cancel_left] at this
      rw [extract_eq, Nat.add_sub_cancel_left]
      exact this
    · exact (((Upd.ofNone HG.out sb tb).setR 1 _).setL 1 _).drew
end Go.Proofs.YtlhmofphpfdjlaaGreatDoor.Lx
/- (*scanner).readString by a contract. -/
namespace Go.Proofs.YtlhmofphpfdjlaaGreatDoor.Lx
open Go.Proofs.Tryz
open Go.RowKit
theorem letX_some {c x : UInt8} (h : unescV c = some x) : ∃ j : Nat, j < 4 /\ letX c = j /\ (ByteArray.mk #[92, 34, 10, 9])[j]? = some x := by
  unfold unescV at h
  unfold letX
  repeat' split at h
  · injection h with h; subst h; exact ⟨0, by omega, by simp [*], rfl⟩
  · injection h with h; subst h; exact ⟨1, by omega, by simp [*], rfl⟩
  · injection h with h; subst h; exact ⟨2, by omega, by simp [*], rfl⟩
  · injection h with h; subst h; exact ⟨3, by omega, by simp [*], rfl⟩
  · cases h
theorem letX_none {c : UInt8} (h : unescV c = none) : letX c < 0 := by
  unfold unescV at h
  unfold letX
  repeat' split at h
  · cases h
  · cases h
  · cases h
  · cases h
  · rename_i h1 h2 h3 h4
    rw [if_neg h1, if_neg h2, if_neg h3, if_neg h4]
    decide
/-- The string that goes on at m, behind what it said so far. -/
def strAt (S : ByteArray) (m : Nat) (acc : List UInt8) : Option (List UInt8 × List UInt8) := strV (S.data.toList.drop m) acc
section
variable {S : ByteArray} {m : Nat} {acc : List UInt8}
theorem strAt_end (h : ¬ m < S.size) : strAt S m acc = none := by
  unfold strAt
  rw [List.drop_eq_nil_of_le (by rw [byteArray_len]; omega), strV_nil]
theorem strAt_shut (h : m < S.size) (hb : S[m].toNat = 34) : strAt S m acc = some (acc, S.data.toList.drop (m + 1)) := by
  unfold strAt
  rw [byteArray_drop S m h, show S[m] = 34 from UInt8.toNat_inj.1 hb, strV_shut]
theorem strAt_low (h : m < S.size) (hb : S[m].toNat < 32) : strAt S m acc = none := by
  unfold strAt
  rw [byteArray_drop S m h, strV_low hb]
theorem strAt_on (h : m < S.size) (h1 : S[m].toNat ≠ 34) (h2 : ¬ S[m].toNat < 32) (h3 : S[m].toNat ≠ 92) : strAt S m acc = strAt S (m + 1) (acc ++ [S[m]]) := by
  unfold strAt
  rw [byteArray_drop S m h, strV_on (fun e => h1 (by rw [e]; rfl)) h2 (fun e => h3 (by rw [e]; rfl))]
theorem strAt_cut (h : m < S.size) (hb : S[m].toNat = 92) (h1 : ¬ m + 1 < S.size) : strAt S m acc = none := by
  unfold strAt
  rw [byteArray_drop S m h, show S[m] = 92 from UInt8.toNat_inj.1 hb, List.drop_eq_nil_of_le (by rw [byteArray_len]; omega), strV_cut]
theorem strAt_none (h : m < S.size) (hb : S[m].toNat = 92) (h1 : m + 1 < S.size) (hu : unescV S[m + 1] = none) : strAt S m acc = none := by
  unfold strAt
  rw [byteArray_drop S m h, show S[m] = 92 from UInt8.toNat_inj.1 hb, byteArray_drop S (m + 1) h1, strV_none hu]
theorem strAt_some (h : m < S.size) (hb : S[m].toNat = 92) (h1 : m + 1 < S.size) {x : UInt8} (hu : unescV S[m + 1] = some x) : strAt S m acc = strAt S (m + 2) (acc ++ [x]) := by
  unfold strAt
  rw [byteArray_drop S m h, show S[m] = 92 from UInt8.toNat_inj.1 hb, byteArray_drop S (m + 1) h1, strV_some hu]
end
theorem owns_shape {w : World} {B e z n : Nat} {v : Value} {xs : List Value} (h : w.ownsRow B e z v n xs) : ∃ a cap, v = .slice a n cap := by
  rcases h.2 with ⟨h1, h2⟩ | ⟨g, cap, cur, h1, _⟩
  · exact ⟨none, 0, by rw [h1, h2]⟩
  · exact ⟨_, _, h1⟩
theorem owns_base {w : World} {B e z n : Nat} {v : Value} {xs : List Value} (h : w.ownsRow B e z v n xs) : Hid (∀ j, v.ownBlock = some j -> B <= j) := by
  intro j hj
  rcases h.2 with ⟨h1, h2⟩ | ⟨g, cap, cur, h1, h2, _⟩
  · rw [h1] at hj; cases hj
  · rw [h1] at hj
    simp [Value.ownBlock] at hj
    omega
theorem str_step {w wr w1 : World} {v v' : Value} {acc : List UInt8} {ob : Obj} (x : UInt8) (hg : w.grownBy wr none) (hown' : w1.ownsRow w.heap.size 5 1 v' (acc.length + 1) (bcs acc ++ [.int .u8 x.toNat]))
    (hgrow : (wr.alloc ob).grownBy w1 v.ownBlock) (hb : ∀ j, v.ownBlock = some j -> w.heap.size <= j) : w1.ownsRow w.heap.size 5 1 v' (acc ++ [x]).length (bcs (acc ++ [x])) /\ w.grownBy w1 none := by
  refine ⟨?_, (hg.trans (World.grownBy_alloc _ _ _)).andThen hgrow fun j hj => .inl (hb j hj)⟩
  rw [bcs_snoc, List.length_append]
  exact hown'
/-- What a call that reads a string leaves. -/
def StrPost (S : ByteArray) (sb mb k : Nat) (li ls : Int) (tb : Nat) (kd tl tc : Int) (w : World) (o : Option (List UInt8 × List UInt8)) (e : Ending) (w' : World) : Prop :=
  match o with
  | none => e = .returned (.int .i64 4) /\ w.grownBy w' none
  | some (said, rest) => if 256 < said.length then e = .returned (.int .i64 2) /\ w.grownBy w' none else
      e = .returned (.int .i64 0) /\ ∃ m : Nat, k < m /\ m <= S.size /\ rest = S.data.toList.drop m /\ Scan w' sb S m li ls mb /\ TokB w' tb kd ⟨said.toArray⟩ tl tc /\ Upd w w' sb tb
theorem readString_c (S : ByteArray) (hS : S.size <= 65536) (sb mb k : Nat) (li ls : Int) (hk : k < S.size) (tb : Nat) (kd : Int) (tx : ByteArray) (tl tc : Int) (hne : sb ≠ tb) (w : World) (hsc : Scan w sb S k li ls mb) (htk : TokB w tb kd tx tl tc) :
    Calls prog 92 #[.pointer (some ⟨sb, 0, none⟩), .pointer (some ⟨tb, 0, none⟩)] w (StrPost S sb mb k li ls tb kd tl tc w (strAt S (k + 1) [])) := by
  obtain ⟨o, ho⟩ : ∃ o, o = strAt S (k + 1) [] := ⟨_, rfl⟩
  rw [<- ho]
  have HO := hideP ho
  have HS := hideP hsc
  have HT := hideP htk
  have c0 := hsc.c0
  have c1 := hsc.c1
  clear ho hsc htk
  obtain ⟨i0, hi, hz0, hz1, hz2⟩ := info_parts info_byte
  go_enter func92, ntmps92
  go_wp2
  go_loopw [5, 6] (fun v i wr => ∃ (m : Nat) (acc : List UInt8), k + 1 <= m /\ m <= S.size + 1 /\ i = .int .i64 m /\ acc.length <= m /\ wr.ownsRow w.heap.size 5 1 v acc.length (bcs acc) /\ w.grownBy wr none /\ o = strAt S m acc) (fun _ i _ => S.size + 1 - (intOf i).toNat)
  case atStart => exact ⟨k + 1, [], Nat.le_refl _, by omega, by go_num, by simp, World.ownsRow_nil _ _ _ _, World.grownBy.refl _ _, HO.out⟩
  case round =>
    obtain ⟨m, acc, hm, hm1, rfl, hal, hown, hg, hrel⟩ := hrel
    have HR := hideP hrel
    have HG := hideP hg
    have hsc := HS.out.kept hg (by simp)
    have htk := HT.out.kept hg (by simp)
    have HSC := hideP hsc
    have HTK := hideP htk
    have d0 := hsc.c0
    have d1 := hsc.c1
    have f1 := hsc.fz 1
    have t1 := htk.c1
    have g1 := htk.fz 1
    have HOW := hideP hown
    have hsz := hg.size
    obtain ⟨a, cap, rfl⟩ := owns_shape hown
    have hbl := owns_base hown
    clear hrel hg hsc htk c0 c1
    by_cases hlt : m < S.size
    · by_cases b1 : S[m].toNat = 34
      · have p1 : ((S[m].toNat : Int) == 34) = true := by simp; omega
        have e := HR.out.trans (strAt_shut hlt b1)
        have hcv := conv_bytes hown
        clear hown
        by_cases hl : 256 < acc.length
        · subst e
          go_wp2
          go_ret
          simp only [StrPost, if_pos hl]
          exact ⟨rfl, HG.out⟩
        · subst e
          go_wp2
          go_ret
          simp only [StrPost, if_neg hl]
          refine ⟨rfl, m + 1, by omega, by omega, rfl, ?_, ?_, ?_⟩
          · exact (HSC.out.kept (grown_setCell wr ⟨tb, 1, none⟩ _) (by simpa using hne)).set1 (m + 1)
          · exact (HTK.out.set1 _).kept (grown_setCell _ ⟨sb, 1, none⟩ _) (by simpa using hne.symm)
          · exact ((Upd.ofNone HG.out sb tb).setR 1 _).setL 1 _
      have n1 : ((S[m].toNat : Int) == 34) = false := by simp; omega
      by_cases b2 : S[m].toNat < 32
      · have e := HR.out.trans (strAt_low hlt b2)
        have p2 : (S[m].toNat : Int) < 32 := by omega
        clear hown
        subst e
        go_wp2
        go_ret
        exact ⟨rfl, HG.out⟩
      have n2 : ¬ (S[m].toNat : Int) < 32 := by omega
      by_cases b3 : S[m].toNat = 92
      · have p3 : ((S[m].toNat : Int) == 92) = true := by simp; omega
        by_cases hl1 : m + 1 < S.size
        · have hc := letterIndex_in S (m + 1) hl1
          cases hu : unescV S[m + 1] with
          | none =>
            have e := HR.out.trans (strAt_none hlt b3 hl1 hu)
            have hneg := letX_none hu
            obtain ⟨x, hx⟩ : ∃ x, x = letX S[m + 1] := ⟨_, rfl⟩
            rw [<- hx] at hc hneg
            have HC := hideP hc
            clear hown hc hx hu
            subst e
            go_wp2_with fail
            refine (HC.out _).mono ?_
            rintro e w' ⟨rfl, rfl⟩
            go_wp2
            go_ret
            exact ⟨rfl, HG.out⟩
          | some x =>
            have e := hideP (HR.out.trans (strAt_some hlt b3 hl1 hu))
            obtain ⟨j, hj, hjx, hix⟩ := letX_some hu
            rw [hjx] at hc
            have HC := hideP hc
            clear hc hjx hu
            have hj4 : (j = 0 /\ x = 92) ∨ (j = 1 /\ x = 34) ∨ (j = 2 /\ x = 10) ∨ (j = 3 /\ x = 9) := by
              match j, hj with
              | 0, _ => exact .inl ⟨rfl, (Option.some.inj hix).symm⟩
              | 1, _ => exact .inr (.inl ⟨rfl, (Option.some.inj hix).symm⟩)
              | 2, _ => exact .inr (.inr (.inl ⟨rfl, (Option.some.inj hix).symm⟩))
              | 3, _ => exact .inr (.inr (.inr ⟨rfl, (Option.some.inj hix).symm⟩))
            clear hix hj
            rcases hj4 with ⟨rfl, rfl⟩ | ⟨rfl, rfl⟩ | ⟨rfl, rfl⟩ | ⟨rfl, rfl⟩
            · go_wp2_with fail
              refine (HC.out _).mono ?_
              rintro e w' ⟨rfl, rfl⟩
              go_wp2_with (at_builtin; refine wpList_append_own _ rfl (.tmp 60) (.tmp 62) 131 rfl w.heap.size 5 i0 (.int .u8 0) 1 1 underlying131 hi hz0 hz1 hz2 rfl (by decide) _ _ _ rfl (HOW.out.alloc _) ⟨_, 0, none⟩ 1 1 [.int .u8 92] rfl rfl (cell_new1 _ 92 5) (one_cell 92) (by unfold maxLen; omega) (by omega) (by simp; omega) ?_)
              intro v' w1 hown' hgrow _
              have R := hideP (str_step 92 HG.out hown' hgrow hbl.out)
              clear hown' hgrow hown
              go_wp2
              go_roundw
              case rel => exact ⟨m + 2, acc ++ [92], by omega, by omega, by go_num, by simp; omega, R.out.1, R.out.2, e.out⟩
              case measure => simp [intOf]; omega
            · go_wp2_with fail
              refine (HC.out _).mono ?_
              rintro e w' ⟨rfl, rfl⟩
              go_wp2_with (at_builtin; refine wpList_append_own _ rfl (.tmp 60) (.tmp 62) 131 rfl w.heap.size 5 i0 (.int .u8 0) 1 1 underlying131 hi hz0 hz1 hz2 rfl (by decide) _ _ _ rfl (HOW.out.alloc _) ⟨_, 0, none⟩ 1 1 [.int .u8 34] rfl rfl (cell_new1 _ 34 5) (one_cell 34) (by unfold maxLen; omega) (by omega) (by simp; omega) ?_)
              intro v' w1 hown' hgrow _
              have R := hideP (str_step 34 HG.out hown' hgrow hbl.out)
              clear hown' hgrow hown
              go_wp2
              go_roundw
              case rel => exact ⟨m + 2, acc ++ [34], by omega, by omega, by go_num, by simp; omega, R.out.1, R.out.2, e.out⟩
              case measure => simp [intOf]; omega
            · go_wp2_with fail
              refine (HC.out _).mono ?_
              rintro e w' ⟨rfl, rfl⟩
              go_wp2_with (at_builtin; refine wpList_append_own _ rfl (.tmp 60) (.tmp 62) 131 rfl w.heap.size 5 i0 (.int .u8 0) 1 1 underlying131 hi hz0 hz1 hz2 rfl (by decide) _ _ _ rfl (HOW.out.alloc _) ⟨_, 0, none⟩ 1 1 [.int .u8 10] rfl rfl (cell_new1 _ 10 5) (one_cell 10) (by unfold maxLen; omega) (by omega) (by simp; omega) ?_)
              intro v' w1 hown' hgrow _
              have R := hideP (str_step 10 HG.out hown' hgrow hbl.out)
              clear hown' hgrow hown
              go_wp2
              go_roundw
              case rel => exact ⟨m + 2, acc ++ [10], by omega, by omega, by go_num, by simp; omega, R.out.1, R.out.2, e.out⟩
              case measure => simp [intOf]; omega
            · go_wp2_with fail
              refine (HC.out _).mono ?_
              rintro e w' ⟨rfl, rfl⟩
              go_wp2_with (at_builtin; refine wpList_append_own _ rfl (.tmp 60) (.tmp 62) 131 rfl w.heap.size 5 i0 (.int .u8 0) 1 1 underlying131 hi hz0 hz1 hz2 rfl (by decide) _ _ _ rfl (HOW.out.alloc _) ⟨_, 0, none⟩ 1 1 [.int .u8 9] rfl rfl (cell_new1 _ 9 5) (one_cell 9) (by unfold maxLen; omega) (by omega) (by simp; omega) ?_)
              intro v' w1 hown' hgrow _
              have R := hideP (str_step 9 HG.out hown' hgrow hbl.out)
              clear hown' hgrow hown
              go_wp2
              go_roundw
              case rel => exact ⟨m + 2, acc ++ [9], by omega, by omega, by go_num, by simp; omega, R.out.1, R.out.2, e.out⟩
              case measure => simp [intOf]; omega
        · have e := HR.out.trans (strAt_cut hlt b3 hl1)
          have HC := hideP (letterIndex_out S (m + 1) (by omega))
          clear hown
          subst e
          go_wp2_with fail
          refine (HC.out _).mono ?_
          rintro e w' ⟨rfl, rfl⟩
          go_wp2
          go_ret
          exact ⟨rfl, HG.out⟩
      have n3 : ((S[m].toNat : Int) == 92) = false := by simp; omega
      have e := hideP (HR.out.trans (strAt_on hlt b1 b2 b3))
      go_wp2_with (at_builtin; refine wpList_append_own _ rfl (.tmp 60) (.tmp 62) 131 rfl w.heap.size 5 i0 (.int .u8 0) 1 1 underlying131 hi hz0 hz1 hz2 rfl (by decide) _ _ _ rfl (HOW.out.alloc _) ⟨_, 0, none⟩ 1 1 [.int .u8 S[m].toNat] rfl rfl (cell_new1 _ S[m].toNat 5) (one_cell S[m].toNat) (by unfold maxLen; omega) (by omega) (by simp; omega) ?_)
      intro v' w1 hown' hgrow _
      have R := hideP (str_step S[m] HG.out hown' hgrow hbl.out)
      clear hown' hgrow hown
      go_wp2
      go_roundw
      case rel => exact ⟨m + 1, acc ++ [S[m]], by omega, by omega, by go_num, by simp; omega, R.out.1, R.out.2, e.out⟩
      case measure => simp [intOf]; omega
    · have e := HR.out.trans (strAt_end hlt)
      clear hown
      subst e
      go_wp2
      go_ret
      exact ⟨rfl, HG.out⟩
end Go.Proofs.YtlhmofphpfdjlaaGreatDoor.Lx
