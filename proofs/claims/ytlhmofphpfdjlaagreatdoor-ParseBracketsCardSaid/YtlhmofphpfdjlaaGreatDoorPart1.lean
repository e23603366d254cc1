/- Part. -/
import Derived.WalkKit
import Derived.Test.YtlhmofphpfdjlaaGreatDoorProg
import Derived.KernelRfl
import Derived.WalkLawsBesides
import Derived.LoopTactic
import Derived.OneCell
import Derived.Deep.QuietTactic
import Derived.BigQuiet
import Derived.Deep.MidRow
set_option maxRecDepth 100000
set_option maxHeartbeats 4000000
/- The number that a text says, without a program in sight. -/
namespace Go.Proofs.YtlhmofphpfdjlaaGreatDoor
open Go.Proofs.Tryz
/-- The digits of a text, from the left, behind the number so far; none where one is no digit or the number would pass 2^63 - 1. -/
def parseGo : List UInt8 -> Int -> Option Int
  | [], n => some n
  | d :: r, n => if (d.toNat : Int) < 48 ∨ 57 < (d.toNat : Int) then none else if (9223372036854775807 - ((d.toNat : Int) - 48)) / 10 < n then none else parseGo r (n * 10 + ((d.toNat : Int) - 48))
def parseV (l : List UInt8) : Option Int :=
  match l with
  | [] => none
  | d :: r => if (d.toNat : Int) = 48 /\ r ≠ [] then none else parseGo (d :: r) 0
theorem byteArray_len (s : ByteArray) : s.data.toList.length = s.size := Array.length_toList
theorem byteArray_drop (s : ByteArray) (k : Nat) (hk : k < s.size) : s.data.toList.drop k = s[k] :: s.data.toList.drop (k + 1) := by
  have h : k < s.data.toList.length := by rw [byteArray_len]; exact hk
  rw [List.drop_eq_getElem_cons h]
  rfl
theorem parseGo_bad {s : ByteArray} {k : Nat} (hk : k < s.size) (n : Int) (h : (s[k].toNat : Int) < 48 ∨ 57 < (s[k].toNat : Int)) : parseGo (s.data.toList.drop k) n = none := by
  rw [byteArray_drop s k hk, parseGo, if_pos h]
theorem parseGo_over {s : ByteArray} {k : Nat} (hk : k < s.size) (n : Int) (h : ¬ ((s[k].toNat : Int) < 48 ∨ 57 < (s[k].toNat : Int))) (h2 : (9223372036854775807 - ((s[k].toNat : Int) - 48)) / 10 < n) : parseGo (s.data.toList.drop k) n = none := by
  rw [byteArray_drop s k hk, parseGo, if_neg h, if_pos h2]
theorem parseGo_on {s : ByteArray} {k : Nat} (hk : k < s.size) (n : Int) (h : ¬ ((s[k].toNat : Int) < 48 ∨ 57 < (s[k].toNat : Int))) (h2 : ¬ (9223372036854775807 - ((s[k].toNat : Int) - 48)) / 10 < n) :
    parseGo (s.data.toList.drop k) n = parseGo (s.data.toList.drop (k + 1)) (n * 10 + ((s[k].toNat : Int) - 48)) := by
  rw [byteArray_drop s k hk, parseGo, if_neg h, if_neg h2]
theorem parseGo_end {s : ByteArray} {k : Nat} (hk : ¬ k < s.size) (n : Int) : parseGo (s.data.toList.drop k) n = some n := by
  rw [List.drop_eq_nil_of_le (by rw [byteArray_len]; omega), parseGo]
theorem parseV_empty {s : ByteArray} (h : s.size = 0) : parseV s.data.toList = none := by
  have : s.data.toList = [] := List.eq_nil_of_length_eq_zero (by rw [byteArray_len]; exact h)
  rw [this]
  rfl
theorem parseV_nought {s : ByteArray} (h0 : 0 < s.size) (h : (s[0].toNat : Int) = 48) (h1 : 1 < s.size) : parseV s.data.toList = none := by
  have e := byteArray_drop s 0 h0
  rw [List.drop_zero] at e
  rw [e, parseV, if_pos]
  refine ⟨h, fun hn => ?_⟩
  have h2 := congrArg List.length hn
  rw [List.length_drop, byteArray_len] at h2
  simp only [List.length_nil] at h2
  omega
theorem parseV_go {s : ByteArray} (h0 : 0 < s.size) (h : ¬ ((s[0].toNat : Int) = 48 /\ 1 < s.size)) : parseV s.data.toList = parseGo s.data.toList 0 := by
  have e := byteArray_drop s 0 h0
  rw [List.drop_zero] at e
  rw [e, parseV, if_neg ?_]
  rintro ⟨h1, h2⟩
  apply h
  refine ⟨h1, ?_⟩
  have h3 : (List.drop (0 + 1) s.data.toList).length ≠ 0 := fun hh => h2 (List.eq_nil_of_length_eq_zero hh)
  rw [List.length_drop, byteArray_len] at h3
  omega
theorem toList_isEmpty (s : ByteArray) : s.toList.isEmpty = decide (s.size = 0) := by
  rw [ByteArray.toList_eq, <- byteArray_len]
  cases s.data.toList <;> simp
/-- What a call hands back of such a number. -/
def parsed (o : Option Int) : Value := .tuple #[.int .i64 (o.getD 0), .bool o.isSome]
end Go.Proofs.YtlhmofphpfdjlaaGreatDoor
/- The tokens of a text, without a program in sight. -/
namespace Go.Proofs.YtlhmofphpfdjlaaGreatDoor
open Go.Proofs.Tryz
def isLet (b : UInt8) : Bool := (decide (97 <= b.toNat) && decide (b.toNat <= 122)) || (decide (65 <= b.toNat) && decide (b.toNat <= 90)) || decide (b.toNat = 95)
def isDig (b : UInt8) : Bool := decide (48 <= b.toNat) && decide (b.toNat <= 57)
def inNm (b : UInt8) : Bool := isLet b || isDig b
def notLf (b : UInt8) : Bool := !decide (b.toNat = 10)
/-- The language's own words. -/
def wordsV : List (List UInt8) := [[97, 110, 100], [97, 110, 121], [97, 115], [98, 111, 111, 108], [101, 108, 115, 101], [101, 120, 112, 111, 114, 116], [102, 97, 108, 115, 101], [102, 110], [102, 117, 110, 99, 116, 105, 111, 110], [105, 102], [105, 109, 112, 111, 114, 116], [105, 110], [105, 110, 116], [105, 115], [108, 101, 116], [110, 111, 116], [110, 117, 108, 108], [111, 114], [112, 114, 105, 110, 116], [114, 101, 97, 100], [114, 101, 99, 111, 114, 100], [115, 116, 114], [116, 104, 101, 110], [116, 114, 117, 101], [119, 105, 116, 104]]
/-- The signs of two bytes, and of one. -/
def twoV : List (UInt8 × UInt8) := [(45, 62), (61, 62), (60, 58), (60, 60), (60, 61), (62, 62), (61, 61), (43, 43)]
def oneV : List UInt8 := [40, 41, 123, 125, 91, 93, 44, 58, 59, 61, 43, 45, 42, 47, 37, 38, 94, 60, 124, 46]
/-- How long the sign is that a text begins with; 0: none. -/
def signV : List UInt8 -> Nat
  | [] => 0
  | [a] => if oneV.contains a then 1 else 0
  | a :: b :: _ => if twoV.contains (a, b) then 2 else if oneV.contains a then 1 else 0
/-- What a byte behind a backslash says. -/
def unescV (b : UInt8) : Option UInt8 := if b = 92 then some 92 else if b = 34 then some 34 else if b = 110 then some 10 else if b = 116 then some 9 else none
/-- The string that goes on here, behind what it said so far: what it says, and what is behind it. -/
def strV : List UInt8 -> List UInt8 -> Option (List UInt8 × List UInt8)
  | [], _ => none
  | b :: r, acc =>
    if b = 34 then some (acc, r) else if b.toNat < 32 then none
    else if b = 92 then
      match r with
      | [] => none
      | c :: r' => match unescV c with
        | none => none
        | some x => strV r' (acc ++ [x])
    else strV r (acc ++ [b])
/-- Blanks and comments are passed over: what is left, its line and its column. -/
def skipV : Bool -> List UInt8 -> Nat -> Nat -> List UInt8 × Nat × Nat
  | _, [], li, co => ([], li, co)
  | true, b :: r, li, co => if b = 10 then skipV false r (li + 1) 1 else skipV true r li (co + 1)
  | false, b :: r, li, co =>
    if b = 10 then skipV false r (li + 1) 1 else if b = 32 ∨ b = 9 ∨ b = 13 then skipV false r li (co + 1)
    else if b = 35 then skipV true r li (co + 1) else (b :: r, li, co)
/-- What is wrong; or a token's kind and text, and what is left. -/
abbrev Rd := Int ⊕ (Int × List UInt8 × List UInt8)
abbrev Rd.bad (e : Int) : Rd := .inl e
abbrev Rd.tok (kind : Int) (text rest : List UInt8) : Rd := .inr (kind, text, rest)
theorem rd_inj {k k' : Int} {t t' r r' : List UInt8} (h : Rd.tok k t r = Rd.tok k' t' r') : k = k' /\ t = t' /\ r = r' := by
  injection h with h
  injection h with h1 h2
  injection h2 with h2 h3
  exact ⟨h1, h2, h3⟩
/-- The token that a text begins with. -/
def readV (l : List UInt8) : Rd :=
  match l with
  | [] => .bad 5
  | b :: r =>
    if isLet b then
      if 32 < ((b :: r).takeWhile inNm).length then .bad 2
      else .tok (if wordsV.contains ((b :: r).takeWhile inNm) then 2 else 1) ((b :: r).takeWhile inNm) ((b :: r).dropWhile inNm)
    else if isDig b then
      match parseV ((b :: r).takeWhile isDig) with
      | none => .bad 3
      | some _ => .tok 3 ((b :: r).takeWhile isDig) ((b :: r).dropWhile isDig)
    else if b = 34 then
      match strV r [] with
      | none => .bad 4
      | some (said, rest) => if 256 < said.length then .bad 2 else .tok 4 said rest
    else if signV (b :: r) = 0 then .bad 5
    else .tok 5 ((b :: r).take (signV (b :: r))) ((b :: r).drop (signV (b :: r)))
structure Tok where
  kind : Int
  text : List UInt8
  line : Nat
  col : Nat
/-- Tokens; or what is wrong, and where. -/
abbrev Lx := List Tok ⊕ (Int × Nat × Nat)
abbrev Lx.toks (l : List Tok) : Lx := .inl l
abbrev Lx.bad (e : Int) (line col : Nat) : Lx := .inr (e, line, col)
theorem lx_inj {e e' : Int} {a a' b b' : Nat} (h : Lx.bad e a b = Lx.bad e' a' b') : e = e' := by
  injection h with h
  injection h with h1 h2
/-- Tokens ahead of what comes. -/
def Lx.pre (a : List Tok) : Lx -> Lx
  | .inl l => .inl (a ++ l)
  | .inr b => .inr b
def lexGo : Nat -> List UInt8 -> Nat -> Nat -> Nat -> Lx
  | 0, _, _, _, _ => .bad 0 0 0
  | f + 1, l, li, co, n =>
    match skipV false l li co with
    | ([], li', co') => .toks [⟨0, [], li', co'⟩]
    | (b :: r, li', co') =>
      match readV (b :: r) with
      | .inl e => .bad e li' co'
      | .inr (k, t, rest) => if n = 8192 then .bad 19 li' co' else (lexGo f rest li' (co' + ((b :: r).length - rest.length)) (n + 1)).pre [⟨k, t, li', co'⟩]
/-- A text's tokens, or what is wrong first. -/
def lexV (l : List UInt8) : Lx := if 65536 < l.length then .bad 2 1 1 else lexGo (l.length + 1) l 1 1 0
/-- A text as it is written. -/
def escV (b : UInt8) : List UInt8 := if b = 92 then [92, 92] else if b = 34 then [92, 34] else if b = 10 then [92, 110] else if b = 9 then [92, 116] else [b]
def quoteV (l : List UInt8) : List UInt8 := 34 :: (l.flatMap escV ++ [34])
def nameV (l : List UInt8) : Bool :=
  match l with
  | [] => false
  | b :: r => decide ((b :: r).length <= 32) && isLet b && (b :: r).all inNm && !wordsV.contains (b :: r)
/-! What follows of them by themselves. -/
theorem pre_pre (a b : List Tok) (x : Lx) : (x.pre b).pre a = x.pre (a ++ b) := by
  cases x <;> simp [Lx.pre]
theorem pre_nil (x : Lx) : x.pre [] = x := by
  cases x <;> simp [Lx.pre]
theorem skip_comment (l : List UInt8) (li co : Nat) : skipV true l li co = skipV false (l.dropWhile notLf) li (co + (l.takeWhile notLf).length) := by
  induction l generalizing co with
  | nil => simp [skipV]
  | cons b r ih =>
    by_cases h : b = 10
    · subst h
      simp [skipV, notLf, List.takeWhile, List.dropWhile]
    · have h1 : notLf b = true := by
        simp only [notLf, Bool.not_eq_true', decide_eq_false_iff_not]
        intro h2
        exact h (UInt8.toNat_inj.1 h2)
      rw [skipV, if_neg h, ih, List.dropWhile_cons_of_pos h1, List.takeWhile_cons_of_pos h1]
      simp [Nat.add_assoc, Nat.add_comm 1]
/-- What is left of a text is its end. -/
theorem skip_suffix (c : Bool) (l : List UInt8) (li co : Nat) : (skipV c l li co).1 <:+ l := by
  induction l generalizing c li co with
  | nil => cases c <;> simp [skipV]
  | cons b r ih =>
    cases c
    · rw [skipV]
      split
      · exact (ih _ _ _).trans (List.suffix_cons b r)
      split
      · exact (ih _ _ _).trans (List.suffix_cons b r)
      split
      · exact (ih _ _ _).trans (List.suffix_cons b r)
      · exact List.suffix_refl _
    · rw [skipV]
      split
      · exact (ih _ _ _).trans (List.suffix_cons b r)
      · exact (ih _ _ _).trans (List.suffix_cons b r)
theorem strV_nil (acc : List UInt8) : strV [] acc = none := rfl
theorem strV_shut (r acc : List UInt8) : strV (34 :: r) acc = some (acc, r) := by
  rw [strV.eq_def]
  simp
theorem strV_low {b : UInt8} (h : b.toNat < 32) (r acc : List UInt8) : strV (b :: r) acc = none := by
  rw [strV.eq_def]
  have h1 : ¬ b = 34 := fun e => by rw [e] at h; revert h; decide
  simp [h1, h]
theorem strV_cut (acc : List UInt8) : strV [92] acc = none := by
  rw [strV.eq_def]
  simp
theorem strV_none {c : UInt8} (h : unescV c = none) (r acc : List UInt8) : strV (92 :: c :: r) acc = none := by
  rw [strV.eq_def]
  simp [h]
theorem strV_some {c x : UInt8} (h : unescV c = some x) (r acc : List UInt8) : strV (92 :: c :: r) acc = strV r (acc ++ [x]) := by
  rw [strV.eq_def]
  simp [h]
theorem strV_on {b : UInt8} (h : ¬ b = 34) (h1 : ¬ b.toNat < 32) (h2 : ¬ b = 92) (r acc : List UInt8) : strV (b :: r) acc = strV r (acc ++ [b]) := by
  rw [strV.eq_def]
  simp [h, h1, h2]
/-- The five ways of a string. -/
theorem strV_cases {P : List UInt8 -> List UInt8 -> Prop} (h1 : ∀ acc, P [] acc) (h2 : ∀ r acc, P (34 :: r) acc) (h3 : ∀ b r acc, b.toNat < 32 -> P (b :: r) acc) (h4 : ∀ acc, P [92] acc)
    (h5 : ∀ c r acc, unescV c = none -> P (92 :: c :: r) acc) (h6 : ∀ c x r acc, unescV c = some x -> P r (acc ++ [x]) -> P (92 :: c :: r) acc)
    (h7 : ∀ b r acc, ¬ b = 34 -> ¬ b.toNat < 32 -> ¬ b = 92 -> P r (acc ++ [b]) -> P (b :: r) acc) (l acc : List UInt8) : P l acc := by
  suffices H : ∀ n (l acc : List UInt8), l.length <= n -> P l acc from H l.length l acc (Nat.le_refl _)
  intro n
  induction n with
  | zero =>
    intro l acc hl
    rw [List.eq_nil_of_length_eq_zero (Nat.le_zero.1 hl)]
    exact h1 acc
  | succ n ih =>
    intro l acc hl
    match l, hl with
    | [], _ => exact h1 acc
    | b :: r, hl =>
      by_cases b1 : b = 34
      · subst b1; exact h2 r acc
      by_cases b2 : b.toNat < 32
      · exact h3 b r acc b2
      by_cases b3 : b = 92
      · subst b3
        match r, hl with
        | [], _ => exact h4 acc
        | c :: r, hl =>
          cases hc : unescV c with
          | none => exact h5 c r acc hc
          | some x => exact h6 c x r acc hc (ih _ _ (by simp at hl; omega))
      · exact h7 b r acc b1 b2 b3 (ih _ _ (by simp at hl; omega))
theorem strV_suffix (l acc said rest : List UInt8) (h : strV l acc = some (said, rest)) : ∃ c, l = c ++ rest /\ c ≠ [] := by
  revert h
  refine strV_cases (P := fun l acc => strV l acc = some (said, rest) -> ∃ c, l = c ++ rest /\ c ≠ []) ?_ ?_ ?_ ?_ ?_ ?_ ?_ l acc
  · intro acc h; cases h
  · intro r acc h
    rw [strV_shut] at h
    injection h with h
    injection h with h1 h2
    exact ⟨[34], by simp [h2], by simp⟩
  · intro b r acc hb h; rw [strV_low hb] at h; cases h
  · intro acc h; rw [strV_cut] at h; cases h
  · intro c r acc hc h; rw [strV_none hc] at h; cases h
  · intro c x r acc hc ih h
    rw [strV_some hc] at h
    obtain ⟨d, rfl, _⟩ := ih h
    exact ⟨92 :: c :: d, by simp, by simp⟩
  · intro b r acc a1 a2 a3 ih h
    rw [strV_on a1 a2 a3] at h
    obtain ⟨d, rfl, _⟩ := ih h
    exact ⟨b :: d, by simp, by simp⟩
theorem signV_le (l : List UInt8) : signV l <= l.length := by
  match l with
  | [] => simp [signV]
  | [a] => simp only [signV]; split <;> simp
  | a :: b :: r => simp only [signV]; split <;> (try split) <;> simp
/-- A token takes at least one byte. -/
theorem readV_rest {l t rest : List UInt8} {k : Int} (h : readV l = .tok k t rest) : ∃ c, l = c ++ rest /\ c ≠ [] := by
  unfold readV at h
  split at h
  · cases h
  · rename_i b r
    split at h
    · rename_i hb
      split at h
      · cases h
      · obtain ⟨h1, h2, h3⟩ := rd_inj h
        have hn : inNm b = true := by simp [inNm, hb]
        exact ⟨(b :: r).takeWhile inNm, by rw [<- h3, List.takeWhile_append_dropWhile], by rw [List.takeWhile_cons_of_pos hn]; simp⟩
    split at h
    · rename_i hb
      split at h
      · cases h
      · obtain ⟨h1, h2, h3⟩ := rd_inj h
        exact ⟨(b :: r).takeWhile isDig, by rw [<- h3, List.takeWhile_append_dropWhile], by rw [List.takeWhile_cons_of_pos hb]; simp⟩
    split at h
    · split at h
      · cases h
      · rename_i said rest' hs
        split at h
        · cases h
        · obtain ⟨h1, h2, h3⟩ := rd_inj h
          subst h3
          obtain ⟨c, hc, _⟩ := strV_suffix _ _ _ _ hs
          exact ⟨b :: c, by rw [hc]; rfl, by simp⟩
    split at h
    · cases h
    · rename_i h0
      obtain ⟨h1, h2, h3⟩ := rd_inj h
      refine ⟨(b :: r).take (signV (b :: r)), by rw [<- h3, List.take_append_drop], ?_⟩
      intro he
      have := congrArg List.length he
      rw [List.length_take] at this
      have := signV_le (b :: r)
      simp at *
      omega
end Go.Proofs.YtlhmofphpfdjlaaGreatDoor
/- lex.Name by a contract, with what it calls. -/
namespace Go.Proofs.YtlhmofphpfdjlaaGreatDoor
open Go.Proofs.Tryz
open Go.RowKit
theorem hideP {p : Prop} (h : p) : Hid p := h
theorem ret_bool {x y : Bool} (h : x = y) : Ending.returned (.bool x) = .returned (.bool y) := by rw [h]
theorem startsName_c (b : UInt8) (w : World) : Calls prog 86 #[.int .u8 b.toNat] w fun e w' => e = .returned (.bool (isLet b)) /\ w' = w := by
  have hways : (b.toNat < 65) ∨ (65 <= b.toNat /\ b.toNat <= 90) ∨ (90 < b.toNat /\ b.toNat < 95) ∨ b.toNat = 95 ∨ b.toNat = 96 ∨ (97 <= b.toNat /\ b.toNat <= 122) ∨ 122 < b.toNat := by omega
  unfold isLet
  generalize b.toNat = n at hways ⊢
  rcases hways with h | ⟨h1, h2⟩ | ⟨h1, h2⟩ | rfl | rfl | ⟨h1, h2⟩ | h
  · have e : ((n : Int) == 95) = false := by simp; omega
    go_enter func86, ntmps86
    go_wp2
    go_ret
    exact ⟨ret_bool (by first | rfl | (simp; done) | (simp; omega) | (rw [Bool.eq_iff_iff]; simp; omega)), rfl⟩
  · go_enter func86, ntmps86
    go_wp2
    go_ret
    exact ⟨ret_bool (by first | rfl | (simp; done) | (simp; omega) | (rw [Bool.eq_iff_iff]; simp; omega)), rfl⟩
  · have e : ((n : Int) == 95) = false := by simp; omega
    go_enter func86, ntmps86
    go_wp2
    go_ret
    exact ⟨ret_bool (by first | rfl | (simp; done) | (simp; omega) | (rw [Bool.eq_iff_iff]; simp; omega)), rfl⟩
  · go_enter func86, ntmps86
    go_wp2
    go_ret
    exact ⟨rfl, rfl⟩
  · go_enter func86, ntmps86
    go_wp2
    go_ret
    exact ⟨rfl, rfl⟩
  · go_enter func86, ntmps86
    go_wp2
    go_ret
    exact ⟨ret_bool (by first | rfl | (simp; done) | (simp; omega) | (rw [Bool.eq_iff_iff]; simp; omega)), rfl⟩
  · have e : ((n : Int) == 95) = false := by simp; omega
    go_enter func86, ntmps86
    go_wp2
    go_ret
    exact ⟨ret_bool (by first | rfl | (simp; done) | (simp; omega) | (rw [Bool.eq_iff_iff]; simp; omega)), rfl⟩
theorem isDigit_c (b : UInt8) (w : World) : Calls prog 90 #[.int .u8 b.toNat] w fun e w' => e = .returned (.bool (isDig b)) /\ w' = w := by
  have hways : (b.toNat < 48) ∨ (48 <= b.toNat /\ b.toNat <= 57) ∨ 57 < b.toNat := by omega
  unfold isDig
  generalize b.toNat = n at hways ⊢
  rcases hways with h | ⟨h1, h2⟩ | h
  all_goals
    go_enter func90, ntmps90
    go_wp2
    go_ret
    exact ⟨ret_bool (by first | rfl | (simp; done) | (simp; omega) | (rw [Bool.eq_iff_iff]; simp; omega)), rfl⟩
theorem inName_c (b : UInt8) (w : World) : Calls prog 88 #[.int .u8 b.toNat] w fun e w' => e = .returned (.bool (inNm b)) /\ w' = w := by
  have s := startsName_c b
  have d := isDigit_c b
  unfold inNm
  cases h1 : isLet b
  · rw [h1] at s
    have S := hideP s
    have D := hideP d
    clear h1 s d
    go_enter func88, ntmps88
    go_wp2_with fail
    refine (S.out _).mono ?_
    rintro e w' ⟨rfl, rfl⟩
    go_wp2_with fail
    refine (D.out _).mono ?_
    rintro e w' ⟨rfl, rfl⟩
    go_wp2
    go_ret
    exact ⟨rfl, rfl⟩
  · rw [h1] at s
    have S := hideP s
    clear h1 s d
    go_enter func88, ntmps88
    go_wp2_with fail
    refine (S.out _).mono ?_
    rintro e w' ⟨rfl, rfl⟩
    go_wp2
    go_ret
    exact ⟨rfl, rfl⟩
/-- The end of the longest row of bytes that belong, from k on. -/
def rowV (s : ByteArray) (k : Nat) (p : UInt8 -> Bool) : Nat := k + ((s.data.toList.drop k).takeWhile p).length
theorem rowV_le (s : ByteArray) (k : Nat) (p : UInt8 -> Bool) (hk : k <= s.size) : rowV s k p <= s.size := by
  unfold rowV
  have h : ((s.data.toList.drop k).takeWhile p).length <= (s.data.toList.drop k).length := (List.takeWhile_sublist p).length_le
  rw [List.length_drop, byteArray_len] at h
  omega
theorem rowV_on {s : ByteArray} {k : Nat} {p : UInt8 -> Bool} (hk : k < s.size) (h : p s[k] = true) : rowV s k p = rowV s (k + 1) p := by
  unfold rowV
  rw [byteArray_drop s k hk, List.takeWhile_cons_of_pos h, List.length_cons]
  omega
theorem rowV_off {s : ByteArray} {k : Nat} {p : UInt8 -> Bool} (hk : k < s.size) (h : p s[k] = false) : rowV s k p = k := by
  unfold rowV
  rw [byteArray_drop s k hk, List.takeWhile_cons_of_neg (by rw [h]; decide)]
  rfl
theorem rowV_end {s : ByteArray} {k : Nat} {p : UInt8 -> Bool} (hk : ¬ k < s.size) : rowV s k p = k := by
  unfold rowV
  rw [List.drop_eq_nil_of_le (by rw [byteArray_len]; omega)]
  rfl
theorem rowEnd_name (s : ByteArray) (hs : s.size <= 140737488351232) (k : Nat) (hk : k <= s.size) (w : World) :
    Calls prog 84 #[.string s, .int .i64 k, .func (.func 88) #[] #[]] w fun e w' => e = .returned (.int .i64 (rowV s k inNm)) /\ w' = w := by
  go_enter func84, ntmps84
  go_wp2
  go_loop [7] (fun i => ∃ m : Nat, m <= s.size /\ i = .int .i64 m /\ rowV s k inNm = rowV s m inNm) (fun i => s.size - (intOf i).toNat)
  case atStart => exact ⟨k, hk, rfl, rfl⟩
  case round =>
    obtain ⟨m, hm, rfl, hrow⟩ := hrel
    have HR := hideP hrow
    clear hrow
    by_cases hlt : m < s.size
    · have hc := inName_c s[m]
      have hyes := rowV_on (p := inNm) hlt
      have hno := rowV_off (p := inNm) hlt
      cases hp : inNm s[m]
      · rw [hp] at hc
        have E := hideP (hno hp)
        have HC := hideP hc
        clear hyes hno hp hc
        go_wp2_with fail
        refine (HC.out _).mono ?_
        rintro e w' ⟨rfl, rfl⟩
        go_wp2
        go_ret
        rw [HR.out, E.out]
        exact ⟨rfl, rfl⟩
      · rw [hp] at hc
        have E := hideP (hyes hp)
        have HC := hideP hc
        clear hyes hno hp hc
        go_wp2_with fail
        refine (HC.out _).mono ?_
        rintro e w' ⟨rfl, rfl⟩
        go_wp2
        go_round
        case rel => exact ⟨m + 1, by omega, by go_num, HR.out.trans E.out⟩
        case measure => simp [intOf]; omega
    · go_wp2
      go_ret
      rw [HR.out, rowV_end hlt]
      exact ⟨rfl, rfl⟩
/-- The word with this number. -/
def wordB (i : Nat) : ByteArray := ⟨(wordsV.getD i []).toArray⟩
/-- The table of words lies where the package reads it. -/
def Words (w : World) : Prop := ∀ i, i < 25 -> w.cell? ⟨4, i, none⟩ = some (.string (wordB i))
theorem Words.lt {w : World} (h : Words w) : 4 < w.heap.size := World.block_lt_of_cell? w _ (h 0 (by decide))
theorem Words.below {w w' : World} (h : Words w) (hb : Below w.heap.size w w') : Words w' := fun i hi => (hb.cell (show 4 < w.heap.size from h.lt)).trans (h i hi)
theorem Words.grown {w w' : World} {row : Option Nat} (h : Words w) (hg : w.grownBy w' row) (hr : some 4 ≠ row) : Words w' := fun i hi => hg.cell (h i hi) hr
/-- The table's cells. -/
def wordsA : List Value := (List.range 25).map fun i => .string (wordB i)
theorem words_at (i : Nat) (hi : i < 25) : wordsA[i]? = some (.string (wordB i)) := by simp [wordsA, hi]
theorem Words.range {w : World} (h : Words w) : w.rangeAt 4 0 wordsA := by
  intro j v hv
  have hj : j < 25 := by
    have := (List.getElem?_eq_some_iff.1 hv).1
    simpa [wordsA] using this
  rw [words_at j hj] at hv
  injection hv with hv
  rw [<- hv, Nat.zero_add]
  exact h j hj
theorem words_size : (prog.info? 164).map (·.size) = some wordsA.length := by kernel_rfl
/-- No word up to here is it. -/
def noWord (s : ByteArray) (k : Nat) : Prop := ∀ i, i < k -> s ≠ wordB i
theorem words_mem (s : ByteArray) : wordsV.contains s.data.toList = true ↔ ∃ i, i < 25 /\ s = wordB i := by
  rw [List.contains_iff_mem]
  constructor
  · intro h
    obtain ⟨i, hi, e⟩ := List.mem_iff_getElem.1 h
    refine ⟨i, hi, ?_⟩
    unfold wordB
    rw [List.getD_eq_getElem?_getD, List.getElem?_eq_getElem hi, Option.getD_some, e]
  · rintro ⟨i, hi, e⟩
    rw [e]
    unfold wordB
    rw [List.getD_eq_getElem?_getD, List.getElem?_eq_getElem (show i < wordsV.length from hi), Option.getD_some]
    exact List.getElem_mem ..
theorem str_eq {s t : ByteArray} : (s.toList == t.toList) = true ↔ s = t := by
  rw [ByteArray.toList_eq, ByteArray.toList_eq, beq_iff_eq]
  constructor
  · intro h
    cases s; cases t
    simp at h
    rw [h]
  · rintro rfl; rfl
theorem str_ne {s t : ByteArray} (h : (s.toList == t.toList) = false) : s ≠ t := fun e => by
  rw [str_eq.2 e] at h
  cases h
theorem words_index {A : List Value} {k : Nat} {t : ByteArray} (hk : k < 25) (h : A[k]? = some (.string t)) (w : World) :
    (Instr.index 164 (.agg A.toArray) (.int .i64 k)).run prog w = .ok (.string t) w := by
  have hu := underlying164
  have ha := isAgg9
  have hz := sizeOf9
  simp [Instr.index, asIntOf, run_underlying hu, part, ha, hz, Result.andThen, hk]
  rw [h]
  rfl
theorem isWord_c (s : ByteArray) (w : World) (hw : Words w) :
    Calls prog 89 #[.string s] w fun e w' => e = .returned (.bool (wordsV.contains s.data.toList)) /\ w' = w := by
  obtain ⟨b, hb⟩ : ∃ b, b = wordsV.contains s.data.toList := ⟨_, rfl⟩
  rw [<- hb]
  have HB := hideP hb
  clear hb
  have hr := hideP hw.range
  obtain ⟨A, hA⟩ : ∃ A, A = wordsA := ⟨_, rfl⟩
  have hat := words_at
  have hsz := words_size
  rw [<- hA] at hr hat hsz
  clear hA hw
  have HA := hideP hat
  clear hat
  go_enter func89, ntmps89
  go_wp2_with (refine wpList_load_mid rfl 164 (.global 4) rfl 4 0 rfl A (.array 25 9) hr.out underlying164 rfl hsz ?_)
  go_loop [6] (fun i => ∃ k : Nat, k <= 25 /\ i = .int .i64 k /\ Hid (noWord s k)) (fun i => 25 - (intOf i).toNat)
  case atStart => exact ⟨0, by omega, rfl, fun i hi => by omega⟩
  case round =>
    obtain ⟨k, hk, rfl, hno⟩ := hrel
    by_cases hlt : k < 25
    · have hAk := HA.out k hlt
      obtain ⟨t, ht⟩ : ∃ t, t = wordB k := ⟨_, rfl⟩
      rw [<- ht] at hAk
      have hix := words_index hlt hAk w
      clear hAk
      have HT := hideP ht
      clear ht
      cases hq : (s.toList == t.toList)
      · have hno' : Hid (noWord s (k + 1)) := fun i hi => by
          by_cases hik : i = k
          · subst hik; rw [<- HT.out]; exact str_ne hq
          · exact hno.out i (by omega)
        go_wp2
        go_round
        case rel => exact ⟨k + 1, by omega, by go_num, hno'⟩
        case measure => simp [intOf]; omega
      · have e : b = true := by
          rw [HB.out]
          exact (words_mem s).2 ⟨k, hlt, (str_eq.1 hq).trans HT.out⟩
        subst e
        go_wp2
        go_ret
        exact ⟨rfl, rfl⟩
    · have e : b = false := by
        rw [HB.out, Bool.eq_false_iff]
        intro h
        obtain ⟨i, hi, e⟩ := (words_mem s).1 h
        exact hno.out i (by omega) e
      subst e
      go_wp2
      go_ret
      exact ⟨rfl, rfl⟩
theorem nameV_empty {S : ByteArray} (h : S.size = 0) : nameV S.data.toList = false := by
  have : S.data.toList = [] := List.eq_nil_of_length_eq_zero (by rw [byteArray_len]; exact h)
  rw [this]
  rfl
theorem nameV_cons {S : ByteArray} (h : 0 < S.size) : nameV S.data.toList = (decide (S.size <= 32) && isLet S[0] && S.data.toList.all inNm && !wordsV.contains S.data.toList) := by
  have e := byteArray_drop S 0 h
  rw [List.drop_zero] at e
  have hl := byteArray_len S
  rw [e] at hl
  conv => lhs; rw [e]
  rw [nameV, hl, <- e]
theorem row_all (S : ByteArray) (p : UInt8 -> Bool) : (rowV S 0 p = S.size) ↔ S.data.toList.all p = true := by
  unfold rowV
  rw [List.drop_zero, <- byteArray_len, Nat.zero_add]
  generalize S.data.toList = l
  induction l with
  | nil => simp
  | cons b r ih =>
    by_cases h : p b = true
    · rw [List.takeWhile_cons_of_pos h]
      simp [h, <- ih]
    · rw [List.takeWhile_cons_of_neg h]
      simp [h]
theorem name_c (S : ByteArray) (hS : S.size <= 140737488351232) (w : World) (hw : Words w) : Calls prog 101 #[.string S] w fun e w' => e = .returned (.bool (nameV S.data.toList)) /\ w' = w := by
  by_cases hz : S.size = 0
  · have he : S.toList.isEmpty = true := by rw [toList_isEmpty]; simp [hz]
    rw [nameV_empty hz]
    clear hw
    go_enter func101, ntmps101
    go_wp2
    go_ret
    exact ⟨rfl, rfl⟩
  have h0 : 0 < S.size := by omega
  have he : S.toList.isEmpty = false := by rw [toList_isEmpty]; simp [hz]
  rw [nameV_cons h0]
  by_cases hl : 32 < S.size
  · have hd : decide (S.size <= 32) = false := by simp; omega
    rw [hd]
    clear hd hw
    go_enter func101, ntmps101
    go_wp2
    go_ret
    exact ⟨rfl, rfl⟩
  have hd : decide (S.size <= 32) = true := by simp; omega
  rw [hd]
  clear hd hz
  have hst := startsName_c S[0]
  cases hb : isLet S[0]
  · rw [hb] at hst
    have HST := hideP hst
    clear hst hb hw
    simp only [Bool.and_false, Bool.false_and]
    go_enter func101, ntmps101
    go_wp2_with fail
    refine (HST.out _).mono ?_
    rintro e w' ⟨rfl, rfl⟩
    go_wp2
    go_ret
    exact ⟨rfl, rfl⟩
  rw [hb] at hst
  have HST := hideP hst
  have hrow := rowEnd_name S hS 0 (by omega)
  have hall := row_all S inNm
  have hwd := fun w h => isWord_c S w h
  have HW := hideP hw
  obtain ⟨r, hr⟩ : ∃ r, r = rowV S 0 inNm := ⟨_, rfl⟩
  rw [<- hr] at hrow hall
  have HROW := hideP hrow
  have hrle : r <= S.size := by rw [hr]; exact rowV_le S 0 inNm (by omega)
  clear hst hb hrow hr hw
  cases ha : S.data.toList.all inNm
  · have hne : ((r : Int) == (S.size : Int)) = false := by
      have : r ≠ S.size := fun e => by rw [hall.1 e] at ha; cases ha
      simp
      omega
    clear hall ha hwd
    simp only [Bool.and_false, Bool.false_and]
    go_enter func101, ntmps101
    go_wp2_with fail
    refine (HST.out _).mono ?_
    rintro e w' ⟨rfl, rfl⟩
    go_wp2_with fail
    refine (HROW.out _).mono ?_
    rintro e w' ⟨rfl, rfl⟩
    go_wp2
    go_ret
    exact ⟨rfl, rfl⟩
  · have heq : ((r : Int) == (S.size : Int)) = true := by
      have := hall.2 ha
      simp
      omega
    cases hq : wordsV.contains S.data.toList
    · rw [hq] at hwd
      have HWD := hideP hwd
      clear hall ha hwd hq
      go_enter func101, ntmps101
      go_wp2_with fail
      refine (HST.out _).mono ?_
      rintro e w' ⟨rfl, rfl⟩
      go_wp2_with fail
      refine (HROW.out _).mono ?_
      rintro e w' ⟨rfl, rfl⟩
      go_wp2_with fail
      refine (HWD.out _ HW.out).mono ?_
      rintro e w' ⟨rfl, rfl⟩
      go_wp2
      go_ret
      exact ⟨rfl, rfl⟩
    · rw [hq] at hwd
      have HWD := hideP hwd
      clear hall ha hwd hq
      go_enter func101, ntmps101
      go_wp2_with fail
      refine (HST.out _).mono ?_
      rintro e w' ⟨rfl, rfl⟩
      go_wp2_with fail
      refine (HROW.out _).mono ?_
      rintro e w' ⟨rfl, rfl⟩
      go_wp2_with fail
      refine (HWD.out _ HW.out).mono ?_
      rintro e w' ⟨rfl, rfl⟩
      go_wp2
      go_ret
      exact ⟨rfl, rfl⟩
end Go.Proofs.YtlhmofphpfdjlaaGreatDoor
