/- Part. -/
import Derived.Test.YtlhmofphpfdjlaaGreatDoorProg
import Derived.KernelRfl
import Derived.WalkLawsBesides
import Derived.LoopTactic
import Derived.OneCell
import Derived.Deep.QuietTactic
import Derived.BigQuiet
import Derived.Deep.MidRow
import Derived.Test.YtlhmofphpfdjlaaGreatDoorPart1
set_option maxRecDepth 100000
set_option maxHeartbeats 4000000
/- lex.Name by a contract, with what it calls. -/
namespace Go.Proofs.YtlhmofphpfdjlaaGreatDoor
open Go.Proofs.Tryz
open Go.RowKit
theorem hideP {p : Prop} (h : p) : Hid p := h
theorem ret_bool {x y : Bool} (h : x = y) : Ending.returned (.bool x) = .returned (.bool y) := by rw [h]
theorem startsName_c (b : UInt8) (w : World) : Calls prog 86 #[.int .u8 b.toNat] w fun e w' => e = .returned (.bool (isLet b)) /\ w' = w := by
  have hways : (b.toNat < 65) ∨ (65 <= b.toNat /\ b.toNat <= 90) ∨ (90 < b.toNat /\ b.toNat < 95) ∨ b.toNat = 95 ∨ b.toNat = 96 ∨ (97 <= b.toNat /\ b.toNat <= 122) ∨ 122 < b.toNat := by omega
  unfold isLet
  generalize b.toNat = n at hways ⊢
  rcases hways with h | ⟨h1, h2⟩ | ⟨h1, h2⟩ | rfl | rfl | ⟨h1, h2⟩ | h
  · have e : ((n : Int) == 95) = false := by simp; omega
    go_enter func86, ntmps86
    go_wp2
    go_ret
    exact ⟨ret_bool (by first | rfl | (simp; done) | (simp; omega) | (rw [Bool.eq_iff_iff]; simp; omega)), rfl⟩
  · go_enter func86, ntmps86
    go_wp2
    go_ret
    exact ⟨ret_bool (by first | rfl | (simp; done) | (simp; omega) | (rw [Bool.eq_iff_iff]; simp; omega)), rfl⟩
  · have e : ((n : Int) == 95) = false := by simp; omega
    go_enter func86, ntmps86
    go_wp2
    go_ret
    exact ⟨ret_bool (by first | rfl | (simp; done) | (simp; omega) | (rw [Bool.eq_iff_iff]; simp; omega)), rfl⟩
  · go_enter func86, ntmps86
    go_wp2
    go_ret
    exact ⟨rfl, rfl⟩
  · go_enter func86, ntmps86
    go_wp2
    go_ret
    exact ⟨rfl, rfl⟩
  · go_enter func86, ntmps86
    go_wp2
    go_ret
    exact ⟨ret_bool (by first | rfl | (simp; done) | (simp; omega) | (rw [Bool.eq_iff_iff]; simp; omega)), rfl⟩
  · have e : ((n : Int) == 95) = false := by simp; omega
    go_enter func86, ntmps86
    go_wp2
    go_ret
    exact ⟨ret_bool (by first | rfl | (simp; done) | (simp; omega) | (rw [Bool.eq_iff_iff]; simp; omega)), rfl⟩
theorem isDigit_c (b : UInt8) (w : World) : Calls prog 90 #[.int .u8 b.toNat] w fun e w' => e = .returned (.bool (isDig b)) /\ w' = w := by
  have hways : (b.toNat < 48) ∨ (48 <= b.toNat /\ b.toNat <= 57) ∨ 57 < b.toNat := by omega
  unfold isDig
  generalize b.toNat = n at hways ⊢
  rcases hways with h | ⟨h1, h2⟩ | h
  all_goals
    go_enter func90, ntmps90
    go_wp2
    go_ret
    exact ⟨ret_bool (by first | rfl | (simp; done) | (simp; omega) | (rw [Bool.eq_iff_iff]; simp; omega)), rfl⟩
theorem inName_c (b : UInt8) (w : World) : Calls prog 88 #[.int .u8 b.toNat] w fun e w' => e = .returned (.bool (inNm b)) /\ w' = w := by
  have s := startsName_c b
  have d := isDigit_c b
  unfold inNm
  cases h1 : isLet b
  · rw [h1] at s
    have S := hideP s
    have D := hideP d
    clear h1 s d
    go_enter func88, ntmps88
    go_wp2_with fail
    refine (S.out _).mono ?_
    rintro e w' ⟨rfl, rfl⟩
    go_wp2_with fail
    refine (D.out _).mono ?_
    rintro e w' ⟨rfl, rfl⟩
    go_wp2
    go_ret
    exact ⟨rfl, rfl⟩
  · rw [h1] at s
    have S := hideP s
    clear h1 s d
    go_enter func88, ntmps88
    go_wp2_with fail
    refine (S.out _).mono ?_
    rintro e w' ⟨rfl, rfl⟩
    go_wp2
    go_ret
    exact ⟨rfl, rfl⟩
/-- The end of the longest row of bytes that belong, from k on. -/
def rowV (s : ByteArray) (k : Nat) (p : UInt8 -> Bool) : Nat := k + ((s.data.toList.drop k).takeWhile p).length
theorem rowV_le (s : ByteArray) (k : Nat) (p : UInt8 -> Bool) (hk : k <= s.size) : rowV s k p <= s.size := by
  unfold rowV
  have h : ((s.data.toList.drop k).takeWhile p).length <= (s.data.toList.drop k).length := (List.takeWhile_sublist p).length_le
  rw [List.length_drop, byteArray_len] at h
  omega
theorem rowV_on {s : ByteArray} {k : Nat} {p : UInt8 -> Bool} (hk : k < s.size) (h : p s[k] = true) : rowV s k p = rowV s (k + 1) p := by
  unfold rowV
  rw [byteArray_drop s k hk, List.takeWhile_cons_of_pos h, List.length_cons]
  omega
theorem rowV_off {s : ByteArray} {k : Nat} {p : UInt8 -> Bool} (hk : k < s.size) (h : p s[k] = false) : rowV s k p = k := by
  unfold rowV
  rw [byteArray_drop s k hk, List.takeWhile_cons_of_neg (by rw [h]; decide)]
  rfl
theorem rowV_end {s : ByteArray} {k : Nat} {p : UInt8 -> Bool} (hk : ¬ k < s.size) : rowV s k p = k := by
  unfold rowV
  rw [List.drop_eq_nil_of_le (by rw [byteArray_len]; omega)]
  rfl
theorem rowEnd_name (s : ByteArray) (hs : s.size <= 140737488351232) (k : Nat) (hk : k <= s.size) (w : World) :
    Calls prog 84 #[.string s, .int .i64 k, .func (.func 88) #[] #[]] w fun e w' => e = .returned (.int .i64 (rowV s k inNm)) /\ w' = w := by
  go_enter func84, ntmps84
  go_wp2
  go_loop [7] (fun i => ∃ m : Nat, m <= s.size /\ i = .int .i64 m /\ rowV s k inNm = rowV s m inNm) (fun i => s.size - (intOf i).toNat)
  case atStart => exact ⟨k, hk, rfl, rfl⟩
  case round =>
    obtain ⟨m, hm, rfl, hrow⟩ := hrel
    have HR := hideP hrow
    clear hrow
    by_cases hlt : m < s.size
    · have hc := inName_c s[m]
      have hyes := rowV_on (p := inNm) hlt
      have hno := rowV_off (p := inNm) hlt
      cases hp : inNm s[m]
      · rw [hp] at hc
        have E := hideP (hno hp)
        have HC := hideP hc
        clear hyes hno hp hc
        go_wp2_with fail
        refine (HC.out _).mono ?_
        rintro e w' ⟨rfl, rfl⟩
        go_wp2
        go_ret
        rw [HR.out, E.out]
        exact ⟨rfl, rfl⟩
      · rw [hp] at hc
        have E := hideP (hyes hp)
        have HC := hideP hc
        clear hyes hno hp hc
        go_wp2_with fail
        refine (HC.out _).mono ?_
        rintro e w' ⟨rfl, rfl⟩
        go_wp2
        go_round
        case rel => exact ⟨m + 1, by omega, by go_num, HR.out.trans E.out⟩
        case measure => simp [intOf]; omega
    · go_wp2
      go_ret
      rw [HR.out, rowV_end hlt]
      exact ⟨rfl, rfl⟩
/-- The word with this number. -/
def wordB (i : Nat) : ByteArray := ⟨(wordsV.getD i []).toArray⟩
/-- The table of words lies where the package reads it. -/
def Words (w : World) : Prop := ∀ i, i < 25 -> w.cell? ⟨4, i, none⟩ = some (.string (wordB i))
theorem Words.lt {w : World} (h : Words w) : 4 < w.heap.size := World.block_lt_of_cell? w _ (h 0 (by decide))
theorem Words.below {w w' : World} (h : Words w) (hb : Below w.heap.size w w') : Words w' := fun i hi => (hb.cell (show 4 < w.heap.size from h.lt)).trans (h i hi)
theorem Words.grown {w w' : World} {row : Option Nat} (h : Words w) (hg : w.grownBy w' row) (hr : some 4 ≠ row) : Words w' := fun i hi => hg.cell (h i hi) hr
/-- The table's cells. -/
def wordsA : List Value := (List.range 25).map fun i => .string (wordB i)
theorem words_at (i : Nat) (hi : i < 25) : wordsA[i]? = some (.string (wordB i)) := by simp [wordsA, hi]
theorem Words.range {w : World} (h : Words w) : w.rangeAt 4 0 wordsA := by
  intro j v hv
  have hj : j < 25 := by
    have := (List.getElem?_eq_some_iff.1 hv).1
    simpa [wordsA] using this
  rw [words_at j hj] at hv
  injection hv with hv
  rw [<- hv, Nat.zero_add]
  exact h j hj
theorem words_size : (prog.info? 164).map (·.size) = some wordsA.length := by kernel_rfl
/-- No word up to here is it. -/
def noWord (s : ByteArray) (k : Nat) : Prop := ∀ i, i < k -> s ≠ wordB i
theorem words_mem (s : ByteArray) : wordsV.contains s.data.toList = true ↔ ∃ i, i < 25 /\ s = wordB i := by
  rw [List.contains_iff_mem]
  constructor
  · intro h
    obtain ⟨i, hi, e⟩ := List.mem_iff_getElem.1 h
    refine ⟨i, hi, ?_⟩
    unfold wordB
    rw [List.getD_eq_getElem?_getD, List.getElem?_eq_getElem hi, Option.getD_some, e]
  · rintro ⟨i, hi, e⟩
    rw [e]
    unfold wordB
    rw [List.getD_eq_getElem?_getD, List.getElem?_eq_getElem (show i < wordsV.length from hi), Option.getD_some]
    exact List.getElem_mem ..
theorem str_eq {s t : ByteArray} : (s.toList == t.toList) = true ↔ s = t := by
  rw [ByteArray.toList_eq, ByteArray.toList_eq, beq_iff_eq]
  constructor
  · intro h
    cases s; cases t
    simp at h
    rw [h]
  · rintro rfl; rfl
theorem str_ne {s t : ByteArray} (h : (s.toList == t.toList) = false) : s ≠ t := fun e => by
  rw [str_eq.2 e] at h
  cases h
theorem words_index {A : List Value} {k : Nat} {t : ByteArray} (hk : k < 25) (h : A[k]? = some (.string t)) (w : World) :
    (Instr.index 164 (.agg A.toArray) (.int .i64 k)).run prog w = .ok (.string t) w := by
  have hu := underlying164
  have ha := isAgg9
  have hz := sizeOf9
  simp [Instr.index, asIntOf, run_underlying hu, part, ha, hz, Result.andThen, hk]
  rw [h]
  rfl
theorem isWord_c (s : ByteArray) (w : World) (hw : Words w) :
    Calls prog 89 #[.string s] w fun e w' => e = .returned (.bool (wordsV.contains s.data.toList)) /\ w' = w := by
  obtain ⟨b, hb⟩ : ∃ b, b = wordsV.contains s.data.toList := ⟨_, rfl⟩
  rw [<- hb]
  have HB := hideP hb
  clear hb
  have hr := hideP hw.range
  obtain ⟨A, hA⟩ : ∃ A, A = wordsA := ⟨_, rfl⟩
  have hat := words_at
  have hsz := words_size
  rw [<- hA] at hr hat hsz
  clear hA hw
  have HA := hideP hat
  clear hat
  go_enter func89, ntmps89
  go_wp2_with (refine wpList_load_mid rfl 164 (.global 4) rfl 4 0 rfl A (.array 25 9) hr.out underlying164 rfl hsz ?_)
  go_loop [6] (fun i => ∃ k : Nat, k <= 25 /\ i = .int .i64 k /\ Hid (noWord s k)) (fun i => 25 - (intOf i).toNat)
  case atStart => exact ⟨0, by omega, rfl, fun i hi => by omega⟩
  case round =>
    obtain ⟨k, hk, rfl, hno⟩ := hrel
    by_cases hlt : k < 25
    · have hAk := HA.out k hlt
      obtain ⟨t, ht⟩ : ∃ t, t = wordB k := ⟨_, rfl⟩
      rw [<- ht] at hAk
      have hix := words_index hlt hAk w
      clear hAk
      have HT := hideP ht
      clear ht
      cases hq : (s.toList == t.toList)
      · have hno' : Hid (noWord s (k + 1)) := fun i hi => by
          by_cases hik : i = k
          · subst hik; rw [<- HT.out]; exact str_ne hq
          · exact hno.out i (by omega)
        go_wp2
        go_round
        case rel => exact ⟨k + 1, by omega, by go_num, hno'⟩
        case measure => simp [intOf]; omega
      · have e : b = true := by
          rw [HB.out]
          exact (words_mem s).2 ⟨k, hlt, (str_eq.1 hq).trans HT.out⟩
        subst e
        go_wp2
        go_ret
        exact ⟨rfl, rfl⟩
    · have e : b = false := by
        rw [HB.out, Bool.eq_false_iff]
        intro h
        obtain ⟨i, hi, e⟩ := (words_mem s).1 h
        exact hno.out i (by omega) e
      subst e
      go_wp2
      go_ret
      exact ⟨rfl, rfl⟩
theorem nameV_empty {S : ByteArray} (h : S.size = 0) : nameV S.data.toList = false := by
  have : S.data.toList = [] := List.eq_nil_of_length_eq_zero (by rw [byteArray_len]; exact h)
  rw [this]
  rfl
theorem nameV_cons {S : ByteArray} (h : 0 < S.size) : nameV S.data.toList = (decide (S.size <= 32) && isLet S[0] && S.data.toList.all inNm && !wordsV.contains S.data.toList) := by
  have e := byteArray_drop S 0 h
  rw [List.drop_zero] at e
  have hl := byteArray_len S
  rw [e] at hl
  conv => lhs; rw [e]
  rw [nameV, hl, <- e]
theorem row_all (S : ByteArray) (p : UInt8 -> Bool) : (rowV S 0 p = S.size) ↔ S.data.toList.all p = true := by
  unfold rowV
  rw [List.drop_zero, <- byteArray_len, Nat.zero_add]
  generalize S.data.toList = l
  induction l with
  | nil => simp
  | cons b r ih =>
    by_cases h : p b = true
    · rw [List.takeWhile_cons_of_pos h]
      simp [h, <- ih]
    · rw [List.takeWhile_cons_of_neg h]
      simp [h]
theorem name_c (S : ByteArray) (hS : S.size <= 140737488351232) (w : World) (hw : Words w) : Calls prog 101 #[.string S] w fun e w' => e = .returned (.bool (nameV S.data.toList)) /\ w' = w := by
  by_cases hz : S.size = 0
  · have he : S.toList.isEmpty = true := by rw [toList_isEmpty]; simp [hz]
    rw [nameV_empty hz]
    clear hw
    go_enter func101, ntmps101
    go_wp2
    go_ret
    exact ⟨rfl, rfl⟩
  have h0 : 0 < S.size := by omega
  have he : S.toList.isEmpty = false := by rw [toList_isEmpty]; simp [hz]
  rw [nameV_cons h0]
  by_cases hl : 32 < S.size
  · have hd : decide (S.size <= 32) = false := by simp; omega
    rw [hd]
    clear hd hw
    go_enter func101, ntmps101
    go_wp2
    go_ret
    exact ⟨rfl, rfl⟩
  have hd : decide (S.size <= 32) = true := by simp; omega
  rw [hd]
  clear hd hz
  have hst := startsName_c S[0]
  cases hb : isLet S[0]
  · rw [hb] at hst
    have HST := hideP hst
    clear hst hb hw
    simp only [Bool.and_false, Bool.false_and]
    go_enter func101, ntmps101
    go_wp2_with fail
    refine (HST.out _).mono ?_
    rintro e w' ⟨rfl, rfl⟩
    go_wp2
    go_ret
    exact ⟨rfl, rfl⟩
  rw [hb] at hst
  have HST := hideP hst
  have hrow := rowEnd_name S hS 0 (by omega)
  have hall := row_all S inNm
  have hwd := fun w h => isWord_c S w h
  have HW := hideP hw
  obtain ⟨r, hr⟩ : ∃ r, r = rowV S 0 inNm := ⟨_, rfl⟩
  rw [<- hr] at hrow hall
  have HROW := hideP hrow
  have hrle : r <= S.size := by rw [hr]; exact rowV_le S 0 inNm (by omega)
  clear hst hb hrow hr hw
  cases ha : S.data.toList.all inNm
  · have hne : ((r : Int) == (S.size : Int)) = false := by
      have : r ≠ S.size := fun e => by rw [hall.1 e] at ha; cases ha
      simp
      omega
    clear hall ha hwd
    simp only [Bool.and_false, Bool.false_and]
    go_enter func101, ntmps101
    go_wp2_with fail
    refine (HST.out _).mono ?_
    rintro e w' ⟨rfl, rfl⟩
    go_wp2_with fail
    refine (HROW.out _).mono ?_
    rintro e w' ⟨rfl, rfl⟩
    go_wp2
    go_ret
    exact ⟨rfl, rfl⟩
  · have heq : ((r : Int) == (S.size : Int)) = true := by
      have := hall.2 ha
      simp
      omega
    cases hq : wordsV.contains S.data.toList
    · rw [hq] at hwd
      have HWD := hideP hwd
      clear hall ha hwd hq
      go_enter func101, ntmps101
      go_wp2_with fail
      refine (HST.out _).mono ?_
      rintro e w' ⟨rfl, rfl⟩
      go_wp2_with fail
      refine (HROW.out _).mono ?_
      rintro e w' ⟨rfl, rfl⟩
      go_wp2_with fail
      refine (HWD.out _ HW.out).mono ?_
      rintro e w' ⟨rfl, rfl⟩
      go_wp2
      go_ret
      exact ⟨rfl, rfl⟩
    · rw [hq] at hwd
      have HWD := hideP hwd
      clear hall ha hwd hq
      go_enter func101, ntmps101
      go_wp2_with fail
      refine (HST.out _).mono ?_
      rintro e w' ⟨rfl, rfl⟩
      go_wp2_with fail
      refine (HROW.out _).mono ?_
      rintro e w' ⟨rfl, rfl⟩
      go_wp2_with fail
      refine (HWD.out _ HW.out).mono ?_
      rintro e w' ⟨rfl, rfl⟩
      go_wp2
      go_ret
      exact ⟨rfl, rfl⟩
end Go.Proofs.YtlhmofphpfdjlaaGreatDoor
/- Types as trees: what the document says of them; without a program in sight. -/
namespace Go.Proofs.YtlhmofphpfdjlaaGreatDoor
open Go.Proofs.Tryz
/-- A type: its kind, its name, its names, the types within it; as a tree of data. -/
abbrev Ty := DataW Unit
def mkT (k : Int) (nm : List UInt8) (ns : List (List UInt8)) (ks : List Ty) : Ty := .agg [.lit (.int .i64 k), .lit (.string nm), .agg (ns.map fun s => .lit (.string s)), .agg ks]
def strD : Ty -> List UInt8
  | .lit (.string s) => s
  | _ => []
def kindT : Ty -> Int
  | .agg (.lit (.int _ k) :: _) => k
  | _ => 0
def nameT : Ty -> List UInt8
  | .agg (_ :: s :: _) => strD s
  | _ => []
def namesT : Ty -> List (List UInt8)
  | .agg (_ :: _ :: .agg l :: _) => l.map strD
  | _ => []
def kidsT : Ty -> List Ty
  | .agg (_ :: _ :: _ :: .agg l :: _) => l
  | _ => []
section
variable (k : Int) (nm : List UInt8) (ns : List (List UInt8)) (ks : List Ty)
theorem kind_mk : kindT (mkT k nm ns ks) = k := rfl
theorem name_mk : nameT (mkT k nm ns ks) = nm := rfl
theorem names_mk : namesT (mkT k nm ns ks) = ns := by
  show (ns.map fun s => (DataW.lit (.string s) : Ty)).map strD = ns
  rw [List.map_map]
  exact List.map_id _
theorem kids_mk : kidsT (mkT k nm ns ks) = ks := rfl
end
theorem mkT_inj {k k' : Int} {nm nm' : List UInt8} {ns ns' : List (List UInt8)} {ks ks' : List Ty} (h : mkT k nm ns ks = mkT k' nm' ns' ks') : k = k' /\ nm = nm' /\ ns = ns' /\ ks = ks' := by
  have h1 := congrArg kindT h
  have h2 := congrArg nameT h
  have h3 := congrArg namesT h
  have h4 := congrArg kidsT h
  rw [names_mk, names_mk] at h3
  exact ⟨h1, h2, h3, h4⟩
/-- Byte by byte below. -/
def ltB : List UInt8 -> List UInt8 -> Bool
  | _, [] => false
  | [], _ :: _ => true
  | a :: r, b :: s => if a.toNat < b.toNat then true else if b.toNat < a.toNat then false else ltB r s
/-- A normal type, at most n deep. -/
def NormT : Nat -> Ty -> Prop
  | 0, _ => False
  | n + 1, D => (∃ k, 0 <= k /\ k <= 4 /\ D = mkT k [] [] []) ∨
    (∃ ns ks, D = mkT 5 [] ns ks /\ ns.length = ks.length /\ ns.length <= 16 /\ (∀ s ∈ ns, nameV s = true) /\ ns.Pairwise (fun a b => ltB a b = true) /\ ∀ x ∈ ks, NormT n x) ∨
    (∃ a b, D = mkT 6 [] [] [a, b] /\ NormT n a /\ NormT n b) ∨
    (∃ ks, D = mkT 7 [] [] ks /\ 2 <= ks.length /\ (∀ x ∈ ks, NormT n x /\ 1 <= kindT x /\ kindT x <= 6) /\ ks.Pairwise fun a b => kindT a < kindT b)
theorem norm_mono {n m : Nat} {D : Ty} (h : NormT n D) (hm : n <= m) : NormT m D := by
  induction n generalizing m D with
  | zero => exact h.elim
  | succ n ih =>
    obtain ⟨m, rfl⟩ : ∃ p, m = p + 1 := ⟨m - 1, by omega⟩
    rcases h with h | ⟨ns, ks, h1, h2, h3, h4, h5, h6⟩ | ⟨a, b, h1, h2, h3⟩ | ⟨ks, h1, h2, h3, h4⟩
    · exact .inl h
    · exact .inr (.inl ⟨ns, ks, h1, h2, h3, h4, h5, fun x hx => ih (h6 x hx) (by omega)⟩)
    · exact .inr (.inr (.inl ⟨a, b, h1, ih h2 (by omega), ih h3 (by omega)⟩))
    · exact .inr (.inr (.inr ⟨ks, h1, h2, fun x hx => ⟨ih (h3 x hx).1 (by omega), (h3 x hx).2⟩, h4⟩))
/-- With this between each two. -/
def joinV (sep : List UInt8) : List (List UInt8) -> List UInt8
  | [] => []
  | [s] => s
  | s :: t :: r => s ++ sep ++ joinV sep (t :: r)
def baseV (k : Int) : List UInt8 := if k = 0 then [97, 110, 121] else if k = 1 then [110, 117, 108, 108] else if k = 2 then [98, 111, 111, 108] else if k = 3 then [105, 110, 116] else [115, 116, 114]
/-- A normal type as text; a function in brackets or not. -/
def showT : Nat -> Bool -> Ty -> List UInt8
  | 0, _, _ => []
  | n + 1, b, D =>
    if kindT D <= 4 then baseV (kindT D)
    else if kindT D = 5 then 123 :: (joinV [44, 32] (List.zipWith (fun s x => s ++ 58 :: 32 :: showT n false x) (namesT D) (kidsT D)) ++ [125])
    else if kindT D = 6 then
      match kidsT D with
      | [x, y] => if b then 40 :: (showT n true x ++ [32, 45, 62, 32] ++ showT n false y ++ [41]) else showT n true x ++ [32, 45, 62, 32] ++ showT n false y
      | _ => []
    else joinV [32, 124, 32] ((kidsT D).map (showT n true))
section
variable {n : Nat} {b : Bool}
theorem show_base {k : Int} (h : k <= 4) (nm : List UInt8) (ns : List (List UInt8)) (ks : List Ty) : showT (n + 1) b (mkT k nm ns ks) = baseV k := by
  rw [showT, kind_mk, if_pos h]
theorem show_rec (nm : List UInt8) (ns : List (List UInt8)) (ks : List Ty) : showT (n + 1) b (mkT 5 nm ns ks) = 123 :: (joinV [44, 32] (List.zipWith (fun s x => s ++ 58 :: 32 :: showT n false x) ns ks) ++ [125]) := by
  rw [showT, kind_mk, names_mk, kids_mk, if_neg (by decide), if_pos rfl]
theorem show_fun (nm : List UInt8) (ns : List (List UInt8)) (x y : Ty) : showT (n + 1) b (mkT 6 nm ns [x, y]) = if b then 40 :: (showT n true x ++ [32, 45, 62, 32] ++ showT n false y ++ [41]) else showT n true x ++ [32, 45, 62, 32] ++ showT n false y := by
  rw [showT, kind_mk, kids_mk, if_neg (by decide), if_neg (by decide), if_pos rfl]
theorem show_union (nm : List UInt8) (ns : List (List UInt8)) (ks : List Ty) : showT (n + 1) b (mkT 7 nm ns ks) = joinV [32, 124, 32] (ks.map (showT n true)) := by
  rw [showT, kind_mk, kids_mk, if_neg (by decide), if_neg (by decide), if_neg (by decide)]
end
theorem zip_congr {f g : List UInt8 -> Ty -> List UInt8} : ∀ (ns : List (List UInt8)) (ks : List Ty), (∀ s x, x ∈ ks -> f s x = g s x) -> List.zipWith f ns ks = List.zipWith g ns ks
  | [], _, _ => by simp
  | _ :: _, [], _ => by simp
  | s :: ns, x :: ks, h => by
    rw [List.zipWith_cons_cons, List.zipWith_cons_cons, h s x (List.mem_cons_self ..), zip_congr ns ks fun s x hx => h s x (List.mem_cons_of_mem _ hx)]
theorem show_more {n m : Nat} {D : Ty} (h : NormT n D) (hm : n <= m) (b : Bool) : showT m b D = showT n b D := by
  induction n generalizing m D b with
  | zero => exact h.elim
  | succ n ih =>
    obtain ⟨m, rfl⟩ : ∃ p, m = p + 1 := ⟨m - 1, by omega⟩
    rcases h with ⟨k, h0, h4, rfl⟩ | ⟨ns, ks, rfl, h2, h3, h4, h5, h6⟩ | ⟨x, y, rfl, h2, h3⟩ | ⟨ks, rfl, h2, h3, h4⟩
    · rw [show_base h4, show_base h4]
    · rw [show_rec, show_rec]
      congr 3
      exact zip_congr ns ks fun s x hx => by rw [ih (h6 x hx) (by omega)]
    · rw [show_fun, show_fun, ih h2 (by omega), ih h3 (by omega)]
    · rw [show_union, show_union]
      congr 1
      exact List.map_congr_left fun x hx => ih (h3 x hx).1 (by omega) true
end Go.Proofs.YtlhmofphpfdjlaaGreatDoor
