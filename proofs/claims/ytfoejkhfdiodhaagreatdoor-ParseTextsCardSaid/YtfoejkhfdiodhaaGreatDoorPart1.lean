/- Part. -/
import Derived.Below
import Derived.Laws.Rows
import Derived.Laws.World
import Derived.Deep.WholeRow
import Derived.OneCell
import Derived.WalkKit
import Derived.Test.YtfoejkhfdiodhaaGreatDoorProg
import Derived.KernelRfl
import Derived.WalkLawsBesides
import Derived.LoopTactic
import Derived.Deep.QuietTactic
import Derived.BigQuiet
import Derived.Deep.MidRow
import Derived.ChangeArms
import Derived.SizedLaws
import Derived.WalkSmall
import Derived.Laws.OwnMore
set_option maxRecDepth 100000
set_option maxHeartbeats 4000000
namespace Go.Proofs.YtfoejkhfdiodhaaGreatDoor
open Go.Proofs.Tryz
open Go.RowKit
def xQ (p : Prop) : Prop := p
theorem xQ.o {p : Prop} (h : xQ p) : p := h
theorem xE {α : Type _} (t : α) : ∃ x, x = t := ⟨t, rfl⟩
theorem xS (w : World) (o : Obj) : (w.alloc o).heap.size = w.heap.size + 1 := World.size_alloc w o
theorem xB {w : World} {b : Nat} {o : Obj} (h : w.heap[b]? = some o) : b < w.heap.size := lt_of_block h
theorem xR {n : Nat} : n <= n := Nat.le_refl n
theorem xH {w : World} {p : Addr} {v : Value} {k : Nat} (h : k ≠ p.block) : (w.setCell p v).heap[k]? = w.heap[k]? := Below.heap_setCell w p v k h
theorem xA {w : World} {o : Obj} {k : Nat} (h : k < w.heap.size) : (w.alloc o).heap[k]? = w.heap[k]? := Below.heap_alloc w o k h
theorem xL (w : World) (o : Obj) : (w.alloc o).heap[w.heap.size]? = some o := heap_alloc_last w o
theorem xM {α : Type} {a : α} {l : List α} : a ∈ a :: l := List.mem_cons_self
theorem xW {α : Type} (b : α) {a : α} {l : List α} (h : a ∈ l) : a ∈ b :: l := List.mem_cons_of_mem b h
theorem xZ (n : Nat) : 0 <= n := Nat.zero_le n
theorem xT {a b c : Nat} (h : a < b) (k : b <= c) : a < c := Nat.lt_of_lt_of_le h k
theorem xU (n : Nat) : n < n + 1 := Nat.lt_succ_self n
end Go.Proofs.YtfoejkhfdiodhaaGreatDoor
namespace Go.Proofs.YtfoejkhfdiodhaaGreatDoor
open Go.Proofs.Tryz
def Mu : List UInt8 -> Int -> Option Int
 | [], n => some n
 | d :: r, n => if (d.toNat : Int) < 48 ∨ 57 < (d.toNat : Int) then none else if (9223372036854775807 - ((d.toNat : Int) - 48)) / 10 < n then none else Mu r (n * 10 + ((d.toNat : Int) - 48))
def Pi (l : List UInt8) : Option Int :=
 match l with
 | [] => none
 | d :: r => if (d.toNat : Int) = 48 /\ r ≠ [] then none else Mu (d :: r) 0
theorem Xw (s : ByteArray) : s.data.toList.length = s.size := Array.length_toList
theorem Va (s : ByteArray) (k : Nat) (hk : k < s.size) : s.data.toList.drop k = s[k] :: s.data.toList.drop (k + 1) := by
 have h : k < s.data.toList.length := by rw [Xw]; exact hk
 rw [List.drop_eq_getElem_cons h]
 rfl
theorem tQ {s : ByteArray} {k : Nat} (hk : k < s.size) (n : Int) (h : (s[k].toNat : Int) < 48 ∨ 57 < (s[k].toNat : Int)) : Mu (s.data.toList.drop k) n = none := by
 rw [Va s k hk, Mu, if_pos h]
theorem fA {s : ByteArray} {k : Nat} (hk : k < s.size) (n : Int) (h : ¬ ((s[k].toNat : Int) < 48 ∨ 57 < (s[k].toNat : Int))) (h2 : (9223372036854775807 - ((s[k].toNat : Int) - 48)) / 10 < n) : Mu (s.data.toList.drop k) n = none := by
 rw [Va s k hk, Mu, if_neg h, if_pos h2]
theorem gZ {s : ByteArray} {k : Nat} (hk : k < s.size) (n : Int) (h : ¬ ((s[k].toNat : Int) < 48 ∨ 57 < (s[k].toNat : Int))) (h2 : ¬ (9223372036854775807 - ((s[k].toNat : Int) - 48)) / 10 < n) :
  Mu (s.data.toList.drop k) n = Mu (s.data.toList.drop (k + 1)) (n * 10 + ((s[k].toNat : Int) - 48)) := by
 rw [Va s k hk, Mu, if_neg h, if_neg h2]
theorem gY {s : ByteArray} {k : Nat} (hk : ¬ k < s.size) (n : Int) : Mu (s.data.toList.drop k) n = some n := by
 rw [List.drop_eq_nil_of_le (by rw [Xw]; omega), Mu]
theorem tS {s : ByteArray} (h : s.size = 0) : Pi s.data.toList = none := by
 have : s.data.toList = [] := List.eq_nil_of_length_eq_zero (by rw [Xw]; exact h)
 rw [this]
 rfl
theorem tT {s : ByteArray} (h0 : 0 < s.size) (h : (s[0].toNat : Int) = 48) (h1 : 1 < s.size) : Pi s.data.toList = none := by
 have e := Va s 0 h0
 rw [List.drop_zero] at e
 rw [e, Pi, if_pos]
 refine ⟨h, fun hn => ?_⟩
 have h2 := congrArg List.length hn
 rw [List.length_drop, Xw] at h2
 simp only [List.length_nil] at h2
 omega
theorem zX {s : ByteArray} (h0 : 0 < s.size) (h : ¬ ((s[0].toNat : Int) = 48 /\ 1 < s.size)) : Pi s.data.toList = Mu s.data.toList 0 := by
 have e := Va s 0 h0
 rw [List.drop_zero] at e
 rw [e, Pi, if_neg ?_]
 rintro ⟨h1, h2⟩
 apply h
 refine ⟨h1, ?_⟩
 have h3 : (List.drop (0 + 1) s.data.toList).length ≠ 0 := fun hh => h2 (List.eq_nil_of_length_eq_zero hh)
 rw [List.length_drop, Xw] at h3
 omega
theorem Ed (s : ByteArray) : s.toList.isEmpty = decide (s.size = 0) := by
 rw [ByteArray.toList_eq, <- Xw]
 cases s.data.toList <;> simp
def Fz (o : Option Int) : Value := .tuple #[.int .i64 (o.getD 0), .bool o.isSome]
def V2 (b : UInt8) : Bool := (decide (97 <= b.toNat) && decide (b.toNat <= 122)) || (decide (65 <= b.toNat) && decide (b.toNat <= 90)) || decide (b.toNat = 95)
def Y9 (b : UInt8) : Bool := decide (48 <= b.toNat) && decide (b.toNat <= 57)
def Y8 (b : UInt8) : Bool := V2 b || Y9 b
def Mc (b : UInt8) : Bool := !decide (b.toNat = 10)
def Tl : List (List UInt8) := [[97, 110, 100], [97, 110, 121], [97, 115], [98, 111, 111, 108], [101, 108, 115, 101], [101, 120, 112, 111, 114, 116], [102, 97, 108, 115, 101], [102, 110], [102, 117, 110, 99, 116, 105, 111, 110], [105, 102], [105, 109, 112, 111, 114, 116], [105, 110], [105, 110, 116], [105, 115], [108, 101, 116], [110, 111, 116], [110, 117, 108, 108], [111, 114], [112, 114, 105, 110, 116], [114, 101, 97, 100], [114, 101, 99, 111, 114, 100], [115, 116, 114], [116, 104, 101, 110], [116, 114, 117, 101], [119, 105, 116, 104]]
def L5 : List (UInt8 × UInt8) := [(45, 62), (61, 62), (60, 58), (60, 60), (60, 61), (62, 62), (61, 61), (43, 43)]
def Gb : List UInt8 := [40, 41, 123, 125, 91, 93, 44, 58, 59, 61, 43, 45, 42, 47, 37, 38, 94, 60, 124, 46]
def V5 : List UInt8 -> Nat
 | [] => 0
 | [a] => if Gb.contains a then 1 else 0
 | a :: b :: _ => if L5.contains (a, b) then 2 else if Gb.contains a then 1 else 0
def Kp (b : UInt8) : Option UInt8 := if b = 92 then some 92 else if b = 34 then some 34 else if b = 110 then some 10 else if b = 116 then some 9 else none
def Pk : List UInt8 -> List UInt8 -> Option (List UInt8 × List UInt8)
 | [], _ => none
 | b :: r, acc =>
  if b = 34 then some (acc, r) else if b.toNat < 32 then none
  else if b = 92 then
   match r with
   | [] => none
   | c :: r' => match Kp c with
    | none => none
    | some x => Pk r' (acc ++ [x])
  else Pk r (acc ++ [b])
def Vg : Bool -> List UInt8 -> Nat -> Nat -> List UInt8 × Nat × Nat
 | _, [], li, co => ([], li, co)
 | true, b :: r, li, co => if b = 10 then Vg false r (li + 1) 1 else Vg true r li (co + 1)
 | false, b :: r, li, co =>
  if b = 10 then Vg false r (li + 1) 1 else if b = 32 ∨ b = 9 ∨ b = 13 then Vg false r li (co + 1)
  else if b = 35 then Vg true r li (co + 1) else (b :: r, li, co)
abbrev Rd := Int ⊕ (Int × List UInt8 × List UInt8)
abbrev Rd.bad (e : Int) : Rd := .inl e
abbrev Rd.tok (kind : Int) (text rest : List UInt8) : Rd := .inr (kind, text, rest)
theorem D5 {k k' : Int} {t t' r r' : List UInt8} (h : Rd.tok k t r = Rd.tok k' t' r') : k = k' /\ t = t' /\ r = r' := by
 injection h with h
 injection h with h1 h2
 injection h2 with h2 h3
 exact ⟨h1, h2, h3⟩
def V4 (l : List UInt8) : Rd :=
 match l with
 | [] => .bad 5
 | b :: r =>
  if V2 b then
   if 32 < ((b :: r).takeWhile Y8).length then .bad 2
   else .tok (if Tl.contains ((b :: r).takeWhile Y8) then 2 else 1) ((b :: r).takeWhile Y8) ((b :: r).dropWhile Y8)
  else if Y9 b then
   match Pi ((b :: r).takeWhile Y9) with
   | none => .bad 3
   | some _ => .tok 3 ((b :: r).takeWhile Y9) ((b :: r).dropWhile Y9)
  else if b = 34 then
   match Pk r [] with
   | none => .bad 4
   | some (said, rest) => if 256 < said.length then .bad 2 else .tok 4 said rest
  else if V5 (b :: r) = 0 then .bad 5
  else .tok 5 ((b :: r).take (V5 (b :: r))) ((b :: r).drop (V5 (b :: r)))
structure Tok where
 kind : Int
 text : List UInt8
 line : Nat
 col : Nat
abbrev Lx := List Tok ⊕ (Int × Nat × Nat)
abbrev Lx.toks (l : List Tok) : Lx := .inl l
abbrev Lx.bad (e : Int) (line col : Nat) : Lx := .inr (e, line, col)
def Lx.pre (a : List Tok) : Lx -> Lx
 | .inl l => .inl (a ++ l)
 | .inr b => .inr b
def B8 : Nat -> List UInt8 -> Nat -> Nat -> Nat -> Lx
 | 0, _, _, _, _ => .bad 0 0 0
 | f + 1, l, li, co, n =>
  match Vg false l li co with
  | ([], li', co') => .toks [⟨0, [], li', co'⟩]
  | (b :: r, li', co') =>
   match V4 (b :: r) with
   | .inl e => .bad e li' co'
   | .inr (k, t, rest) => if n = 8192 then .bad 19 li' co' else (B8 f rest li' (co' + ((b :: r).length - rest.length)) (n + 1)).pre [⟨k, t, li', co'⟩]
def Tk (l : List UInt8) : Lx := if 65536 < l.length then .bad 2 1 1 else B8 (l.length + 1) l 1 1 0
def Ho (l : List UInt8) : Bool :=
 match l with
 | [] => false
 | b :: r => decide ((b :: r).length <= 32) && V2 b && (b :: r).all Y8 && !Tl.contains (b :: r)
/-! What follows of them by themselves. -/
theorem fL (a b : List Tok) (x : Lx) : (x.pre b).pre a = x.pre (a ++ b) := by
 cases x <;> simp [Lx.pre]
theorem fK (x : Lx) : x.pre [] = x := by
 cases x <;> simp [Lx.pre]
theorem aA (l : List UInt8) (li co : Nat) : Vg true l li co = Vg false (l.dropWhile Mc) li (co + (l.takeWhile Mc).length) := by
 induction l generalizing co with
 | nil => simp [Vg]
 | cons b r ih =>
  by_cases h : b = 10
  ·subst h
   simp [Vg, Mc, List.takeWhile, List.dropWhile]
  ·have h1 : Mc b = true := by
    simp only [Mc, Bool.not_eq_true', decide_eq_false_iff_not];intro h2;exact h (UInt8.toNat_inj.1 h2)
   rw [Vg, if_neg h, ih, List.dropWhile_cons_of_pos h1, List.takeWhile_cons_of_pos h1];simp [Nat.add_assoc, Nat.add_comm 1]
theorem Oi (c : Bool) (l : List UInt8) (li co : Nat) : (Vg c l li co).1 <:+ l := by
 induction l generalizing c li co with
 | nil => cases c <;> simp [Vg]
 | cons b r ih =>
  cases c
  ·rw [Vg]
   split
   ·exact (ih _ _ _).trans (List.suffix_cons b r)
   split
   ·exact (ih _ _ _).trans (List.suffix_cons b r)
   split
   ·exact (ih _ _ _).trans (List.suffix_cons b r)
   ·exact List.suffix_refl _
  ·rw [Vg]
   split
   ·exact (ih _ _ _).trans (List.suffix_cons b r)
   ·exact (ih _ _ _).trans (List.suffix_cons b r)
theorem aK (acc : List UInt8) : Pk [] acc = none := rfl
theorem pH (r acc : List UInt8) : Pk (34 :: r) acc = some (acc, r) := by
 rw [Pk.eq_def]
 simp
theorem pE {b : UInt8} (h : b.toNat < 32) (r acc : List UInt8) : Pk (b :: r) acc = none := by
 rw [Pk.eq_def]
 have h1 : ¬ b = 34 := fun e => by rw [e] at h; revert h; decide
 simp [h1, h]
theorem pD (acc : List UInt8) : Pk [92] acc = none := by
 rw [Pk.eq_def]
 simp
theorem pF {c : UInt8} (h : Kp c = none) (r acc : List UInt8) : Pk (92 :: c :: r) acc = none := by
 rw [Pk.eq_def]
 simp [h]
theorem pI {c x : UInt8} (h : Kp c = some x) (r acc : List UInt8) : Pk (92 :: c :: r) acc = Pk r (acc ++ [x]) := by
 rw [Pk.eq_def]
 simp [h]
theorem pG {b : UInt8} (h : ¬ b = 34) (h1 : ¬ b.toNat < 32) (h2 : ¬ b = 92) (r acc : List UInt8) : Pk (b :: r) acc = Pk r (acc ++ [b]) := by
 rw [Pk.eq_def]
 simp [h, h1, h2]
theorem aJ {P : List UInt8 -> List UInt8 -> Prop} (h1 : ∀ acc, P [] acc) (h2 : ∀ r acc, P (34 :: r) acc) (h3 : ∀ b r acc, b.toNat < 32 -> P (b :: r) acc) (h4 : ∀ acc, P [92] acc)
  (h5 : ∀ c r acc, Kp c = none -> P (92 :: c :: r) acc) (h6 : ∀ c x r acc, Kp c = some x -> P r (acc ++ [x]) -> P (92 :: c :: r) acc)
  (h7 : ∀ b r acc, ¬ b = 34 -> ¬ b.toNat < 32 -> ¬ b = 92 -> P r (acc ++ [b]) -> P (b :: r) acc) (l acc : List UInt8) : P l acc := by
 suffices H : ∀ n (l acc : List UInt8), l.length <= n -> P l acc from H l.length l acc (xR)
 intro n
 induction n with
 | zero =>
  intro l acc hl;rw [List.eq_nil_of_length_eq_zero (Nat.le_zero.1 hl)];exact h1 acc
 | succ n ih =>
  intro l acc hl
  match l, hl with
  | [], _ => exact h1 acc
  | b :: r, hl =>
   by_cases b1 : b = 34
   ·subst b1; exact h2 r acc
   by_cases b2 : b.toNat < 32
   ·exact h3 b r acc b2
   by_cases b3 : b = 92
   ·subst b3
    match r, hl with
    | [], _ => exact h4 acc
    | c :: r, hl =>
     cases hc : Kp c with
     | none => exact h5 c r acc hc
     | some x => exact h6 c x r acc hc (ih _ _ (by simp at hl; omega))
   ·exact h7 b r acc b1 b2 b3 (ih _ _ (by simp at hl; omega))
theorem aL (l acc said rest : List UInt8) (h : Pk l acc = some (said, rest)) : ∃ c, l = c ++ rest /\ c ≠ [] := by
 revert h
 refine aJ (P := fun l acc => Pk l acc = some (said, rest) -> ∃ c, l = c ++ rest /\ c ≠ []) ?_ ?_ ?_ ?_ ?_ ?_ ?_ l acc
 ·intro acc h; cases h
 ·intro r acc h
  rw [pH] at h;injection h with h;injection h with h1 h2;exact ⟨[34], by simp [h2], by simp⟩
 ·intro b r acc hb h; rw [pE hb] at h; cases h
 ·intro acc h; rw [pD] at h; cases h
 ·intro c r acc hc h; rw [pF hc] at h; cases h
 ·intro c x r acc hc ih h
  rw [pI hc] at h;obtain ⟨d, rfl, _⟩ := ih h;exact ⟨92 :: c :: d, by simp, by simp⟩
 ·intro b r acc a1 a2 a3 ih h
  rw [pG a1 a2 a3] at h;obtain ⟨d, rfl, _⟩ := ih h;exact ⟨b :: d, by simp, by simp⟩
theorem Oh (l : List UInt8) : V5 l <= l.length := by
 match l with
 | [] => simp [V5]
 | [a] => simp only [V5]; split <;> simp
 | a :: b :: r => simp only [V5]; split <;> (try split) <;> simp
theorem yB {l t rest : List UInt8} {k : Int} (h : V4 l = .tok k t rest) : ∃ c, l = c ++ rest /\ c ≠ [] := by
 unfold V4 at h
 split at h
 ·cases h
 ·rename_i b r
  split at h
  ·rename_i hb
   split at h
   ·cases h
   ·obtain ⟨h1, h2, h3⟩ := D5 h
    have hn : Y8 b = true := by simp [Y8, hb]
    exact ⟨(b :: r).takeWhile Y8, by rw [<- h3, List.takeWhile_append_dropWhile], by rw [List.takeWhile_cons_of_pos hn]; simp⟩
  split at h
  ·rename_i hb
   split at h
   ·cases h
   ·obtain ⟨h1, h2, h3⟩ := D5 h
    exact ⟨(b :: r).takeWhile Y9, by rw [<- h3, List.takeWhile_append_dropWhile], by rw [List.takeWhile_cons_of_pos hb]; simp⟩
  split at h
  ·split at h
   ·cases h
   ·rename_i said rest' hs
    split at h
    ·cases h
    ·obtain ⟨h1, h2, h3⟩ := D5 h
     subst h3;obtain ⟨c, hc, _⟩ := aL _ _ _ _ hs;exact ⟨b :: c, by rw [hc]; rfl, by simp⟩
  split at h
  ·cases h
  ·rename_i h0
   obtain ⟨h1, h2, h3⟩ := D5 h;refine ⟨(b :: r).take (V5 (b :: r)), by rw [<- h3, List.take_append_drop], ?_⟩;intro he;have := congrArg List.length he;rw [List.length_take] at this;have := Oh (b :: r);simp at *;omega
end Go.Proofs.YtfoejkhfdiodhaaGreatDoor
namespace Go.Proofs.YtfoejkhfdiodhaaGreatDoor
open Go.Proofs.Tryz
open Go.RowKit
theorem Za {p : Prop} (h : p) : xQ p := h
theorem Mv {x y : Bool} (h : x = y) : Ending.returned (.bool x) = .returned (.bool y) := by rw [h]
theorem F1 (b : UInt8) (w : World) : Calls prog 104 #[.int .u8 b.toNat] w fun e w' => e = .returned (.bool (V2 b)) /\ w' = w := by
 have Bn : (b.toNat < 65) ∨ (65 <= b.toNat /\ b.toNat <= 90) ∨ (90 < b.toNat /\ b.toNat < 95) ∨ b.toNat = 95 ∨ b.toNat = 96 ∨ (97 <= b.toNat /\ b.toNat <= 122) ∨ 122 < b.toNat := by omega
 unfold V2
 generalize b.toNat = n at Bn ⊢
 rcases Bn with h | ⟨h1, h2⟩ | ⟨h1, h2⟩ | rfl | rfl | ⟨h1, h2⟩ | h
 ·have e : ((n : Int) == 95) = false := by simp; omega
  go_enter func104, ntmps104;go_wp2;go_ret;exact ⟨Mv (by first | rfl | (simp; done) | (simp; omega) | (rw [Bool.eq_iff_iff]; simp; omega)), rfl⟩
 ·go_enter func104, ntmps104
  go_wp2;go_ret;exact ⟨Mv (by first | rfl | (simp; done) | (simp; omega) | (rw [Bool.eq_iff_iff]; simp; omega)), rfl⟩
 ·have e : ((n : Int) == 95) = false := by simp; omega
  go_enter func104, ntmps104;go_wp2;go_ret;exact ⟨Mv (by first | rfl | (simp; done) | (simp; omega) | (rw [Bool.eq_iff_iff]; simp; omega)), rfl⟩
 ·go_enter func104, ntmps104
  go_wp2;go_ret;exact ⟨rfl, rfl⟩
 ·go_enter func104, ntmps104
  go_wp2;go_ret;exact ⟨rfl, rfl⟩
 ·go_enter func104, ntmps104
  go_wp2;go_ret;exact ⟨Mv (by first | rfl | (simp; done) | (simp; omega) | (rw [Bool.eq_iff_iff]; simp; omega)), rfl⟩
 ·have e : ((n : Int) == 95) = false := by simp; omega
  go_enter func104, ntmps104;go_wp2;go_ret;exact ⟨Mv (by first | rfl | (simp; done) | (simp; omega) | (rw [Bool.eq_iff_iff]; simp; omega)), rfl⟩
theorem Ad (b : UInt8) (w : World) : Calls prog 108 #[.int .u8 b.toNat] w fun e w' => e = .returned (.bool (Y9 b)) /\ w' = w := by
 have Bn : (b.toNat < 48) ∨ (48 <= b.toNat /\ b.toNat <= 57) ∨ 57 < b.toNat := by omega
 unfold Y9
 generalize b.toNat = n at Bn ⊢
 rcases Bn with h | ⟨h1, h2⟩ | h
 all_goals
  go_enter func108, ntmps108;go_wp2;go_ret;exact ⟨Mv (by first | rfl | (simp; done) | (simp; omega) | (rw [Bool.eq_iff_iff]; simp; omega)), rfl⟩
theorem zB (b : UInt8) (w : World) : Calls prog 106 #[.int .u8 b.toNat] w fun e w' => e = .returned (.bool (Y8 b)) /\ w' = w := by
 have s := F1 b
 have d := Ad b
 unfold Y8
 cases h1 : V2 b
 ·rw [h1] at s
  have S := Za s;have D := Za d;clear h1 s d;go_enter func106, ntmps106;go_wp2_with fail;refine (S.o _).mono ?_;rintro e w' ⟨rfl, rfl⟩;go_wp2_with fail;refine (D.o _).mono ?_;rintro e w' ⟨rfl, rfl⟩;go_wp2;go_ret;exact ⟨rfl, rfl⟩
 ·rw [h1] at s
  have S := Za s;clear h1 s d;go_enter func106, ntmps106;go_wp2_with fail;refine (S.o _).mono ?_;rintro e w' ⟨rfl, rfl⟩;go_wp2;go_ret;exact ⟨rfl, rfl⟩
def Y5 (s : ByteArray) (k : Nat) (p : UInt8 -> Bool) : Nat := k + ((s.data.toList.drop k).takeWhile p).length
theorem G2 (s : ByteArray) (k : Nat) (p : UInt8 -> Bool) (hk : k <= s.size) : Y5 s k p <= s.size := by
 unfold Y5
 have h : ((s.data.toList.drop k).takeWhile p).length <= (s.data.toList.drop k).length := (List.takeWhile_sublist p).length_le
 rw [List.length_drop, Xw] at h
 omega
theorem F0 {s : ByteArray} {k : Nat} {p : UInt8 -> Bool} (hk : k < s.size) (h : p s[k] = true) : Y5 s k p = Y5 s (k + 1) p := by
 unfold Y5
 rw [Va s k hk, List.takeWhile_cons_of_pos h, List.length_cons]
 omega
theorem Ap {s : ByteArray} {k : Nat} {p : UInt8 -> Bool} (hk : k < s.size) (h : p s[k] = false) : Y5 s k p = k := by
 unfold Y5
 rw [Va s k hk, List.takeWhile_cons_of_neg (by rw [h]; decide)]
 rfl
theorem Ao {s : ByteArray} {k : Nat} {p : UInt8 -> Bool} (hk : ¬ k < s.size) : Y5 s k p = k := by
 unfold Y5
 rw [List.drop_eq_nil_of_le (by rw [Xw]; omega)]
 rfl
theorem Oc (s : ByteArray) (hs : s.size <= 140737488351232) (k : Nat) (hk : k <= s.size) (w : World) :
  Calls prog 102 #[.string s, .int .i64 k, .func (.func 106) #[] #[]] w fun e w' => e = .returned (.int .i64 (Y5 s k Y8)) /\ w' = w := by
 go_enter func102, ntmps102
 go_wp2
 go_loop [7] (fun i => ∃ m : Nat, m <= s.size /\ i = .int .i64 m /\ Y5 s k Y8 = Y5 s m Y8) (fun i => s.size - (intOf i).toNat)
 case atStart => exact ⟨k, hk, rfl, rfl⟩
 case round =>
  obtain ⟨m, hm, rfl, Yu⟩ := hrel;have HR := Za Yu;clear Yu;by_cases Zo : m < s.size
  ·have hc := zB s[m]
   have Ny := F0 (p := Y8) Zo;have Vb := Ap (p := Y8) Zo;cases hp : Y8 s[m]
   ·rw [hp] at hc
    have E := Za (Vb hp);have HC := Za hc;clear Ny Vb hp hc;go_wp2_with fail;refine (HC.o _).mono ?_;rintro e w' ⟨rfl, rfl⟩;go_wp2;go_ret;rw [HR.o, E.o];exact ⟨rfl, rfl⟩
   ·rw [hp] at hc
    have E := Za (Ny hp);have HC := Za hc;clear Ny Vb hp hc;go_wp2_with fail;refine (HC.o _).mono ?_;rintro e w' ⟨rfl, rfl⟩;go_wp2
    go_round
    case rel => exact ⟨m + 1, by omega, by go_num, HR.o.trans E.o⟩
    case measure => simp [intOf]; omega
  ·go_wp2
   go_ret;rw [HR.o, Ao Zo];exact ⟨rfl, rfl⟩
def Mi (i : Nat) : ByteArray := ⟨(Tl.getD i []).toArray⟩
def Words (w : World) : Prop := ∀ i, i < 25 -> w.cell? ⟨4, i, none⟩ = some (.string (Mi i))
theorem Words.lt {w : World} (h : Words w) : 4 < w.heap.size := World.block_lt_of_cell? w _ (h 0 (by decide))
theorem Words.below {w w' : World} (h : Words w) (hb : Below w.heap.size w w') : Words w' := fun i hi => (hb.cell (show 4 < w.heap.size from h.lt)).trans (h i hi)
def Jq : List Value := (List.range 25).map fun i => .string (Mi i)
theorem Cm (i : Nat) (hi : i < 25) : Jq[i]? = some (.string (Mi i)) := by simp [Jq, hi]
theorem Words.range {w : World} (h : Words w) : w.rangeAt 4 0 Jq := by
 intro j v hv
 have hj : j < 25 := by
  have := (List.getElem?_eq_some_iff.1 hv).1
  simpa [Jq] using this
 rw [Cm j hj] at hv
 injection hv with hv
 rw [<- hv, Nat.zero_add]
 exact h j hj
theorem yV : (prog.info? 181).map (·.size) = some Jq.length := by kernel_rfl
def Al (s : ByteArray) (k : Nat) : Prop := ∀ i, i < k -> s ≠ Mi i
theorem Ay (s : ByteArray) : Tl.contains s.data.toList = true ↔ ∃ i, i < 25 /\ s = Mi i := by
 rw [List.contains_iff_mem]
 constructor
 ·intro h
  obtain ⟨i, hi, e⟩ := List.mem_iff_getElem.1 h;refine ⟨i, hi, ?_⟩;unfold Mi;rw [List.getD_eq_getElem?_getD, List.getElem?_eq_getElem hi, Option.getD_some, e]
 ·rintro ⟨i, hi, e⟩
  rw [e];unfold Mi;rw [List.getD_eq_getElem?_getD, List.getElem?_eq_getElem (show i < Tl.length from hi), Option.getD_some];exact List.getElem_mem ..
theorem Ge {s t : ByteArray} : (s.toList == t.toList) = true ↔ s = t := by
 rw [ByteArray.toList_eq, ByteArray.toList_eq, beq_iff_eq]
 constructor
 ·intro h
  cases s; cases t
  simp at h;rw [h]
 ·rintro rfl; rfl
theorem Ar {s t : ByteArray} (h : (s.toList == t.toList) = false) : s ≠ t := fun e => by
 rw [Ge.2 e] at h
 cases h
theorem yU {A : List Value} {k : Nat} {t : ByteArray} (hk : k < 25) (h : A[k]? = some (.string t)) (w : World) :
  (Instr.index 181 (.agg A.toArray) (.int .i64 k)).run prog w = .ok (.string t) w := by
 have hu := underlying181
 have ha := isAgg9
 have hz := sizeOf9
 simp [Instr.index, asIntOf, run_underlying hu, part, ha, hz, Result.andThen, hk]
 rw [h]
 rfl
theorem Ii (s : ByteArray) (w : World) (hw : Words w) :
  Calls prog 107 #[.string s] w fun e w' => e = .returned (.bool (Tl.contains s.data.toList)) /\ w' = w := by
 obtain ⟨b, hb⟩ := xE (Tl.contains s.data.toList)
 rw [<- hb]
 have HB := Za hb
 clear hb
 have hr := Za hw.range
 obtain ⟨A, hA⟩ := xE Jq
 have Zd := Cm
 have hsz := yV
 rw [<- hA] at hr Zd hsz
 clear hA hw
 have HA := Za Zd
 clear Zd
 go_enter func107, ntmps107
 go_wp2_with (refine wpList_load_mid rfl 181 (.global 4) rfl 4 0 rfl A (.array 25 9) hr.o underlying181 rfl hsz ?_)
 go_loop [6] (fun i => ∃ k : Nat, k <= 25 /\ i = .int .i64 k /\ xQ (Al s k)) (fun i => 25 - (intOf i).toNat)
 case atStart => exact ⟨0, by omega, rfl, fun i hi => by omega⟩
 case round =>
  obtain ⟨k, hk, rfl, Vb⟩ := hrel;by_cases Zo : k < 25
  ·have hAk := HA.o k Zo
   obtain ⟨t, ht⟩ := xE (Mi k);rw [<- ht] at hAk;have hix := yU Zo hAk w;clear hAk;have HT := Za ht;clear ht;cases hq : (s.toList == t.toList)
   ·have Jg : xQ (Al s (k + 1)) := fun i hi => by
     by_cases hik : i = k
     ·subst hik; rw [<- HT.o]; exact Ar hq
     ·exact Vb.o i (by omega)
    go_wp2
    go_round
    case rel => exact ⟨k + 1, by omega, by go_num, Jg⟩
    case measure => simp [intOf]; omega
   ·have e : b = true := by
     rw [HB.o];exact (Ay s).2 ⟨k, Zo, (Ge.1 hq).trans HT.o⟩
    subst e;go_wp2;go_ret;exact ⟨rfl, rfl⟩
  ·have e : b = false := by
    rw [HB.o, Bool.eq_false_iff];intro h;obtain ⟨i, hi, e⟩ := (Ay s).1 h;exact Vb.o i (by omega) e
   subst e;go_wp2;go_ret;exact ⟨rfl, rfl⟩
theorem zM {S : ByteArray} (h : S.size = 0) : Ho S.data.toList = false := by
 have : S.data.toList = [] := List.eq_nil_of_length_eq_zero (by rw [Xw]; exact h)
 rw [this]
 rfl
theorem zL {S : ByteArray} (h : 0 < S.size) : Ho S.data.toList = (decide (S.size <= 32) && V2 S[0] && S.data.toList.all Y8 && !Tl.contains S.data.toList) := by
 have e := Va S 0 h
 rw [List.drop_zero] at e
 have hl := Xw S
 rw [e] at hl
 conv => lhs; rw [e]
 rw [Ho, hl, <- e]
theorem yG (S : ByteArray) (p : UInt8 -> Bool) : (Y5 S 0 p = S.size) ↔ S.data.toList.all p = true := by
 unfold Y5
 rw [List.drop_zero, <- Xw, Nat.zero_add]
 generalize S.data.toList = l
 induction l with
 | nil => simp
 | cons b r ih =>
  by_cases h : p b = true
  ·rw [List.takeWhile_cons_of_pos h]
   simp [h, <- ih]
  ·rw [List.takeWhile_cons_of_neg h]
   simp [h]
theorem uU (S : ByteArray) (hS : S.size <= 140737488351232) (w : World) (hw : Words w) : Calls prog 128 #[.string S] w fun e w' => e = .returned (.bool (Ho S.data.toList)) /\ w' = w := by
 by_cases hz : S.size = 0
 ·have he : S.toList.isEmpty = true := by rw [Ed]; simp [hz]
  rw [zM hz];clear hw;go_enter func128, ntmps128;go_wp2;go_ret;exact ⟨rfl, rfl⟩
 have h0 : 0 < S.size := by omega
 have he : S.toList.isEmpty = false := by rw [Ed]; simp [hz]
 rw [zL h0]
 by_cases hl : 32 < S.size
 ·have hd : decide (S.size <= 32) = false := by simp; omega
  rw [hd];clear hd hw;go_enter func128, ntmps128;go_wp2;go_ret;exact ⟨rfl, rfl⟩
 have hd : decide (S.size <= 32) = true := by simp; omega
 rw [hd]
 clear hd hz
 have Zb := F1 S[0]
 cases hb : V2 S[0]
 ·rw [hb] at Zb
  have Zu := Za Zb;clear Zb hb hw;simp only [Bool.and_false, Bool.false_and];go_enter func128, ntmps128;go_wp2_with fail;refine (Zu.o _).mono ?_;rintro e w' ⟨rfl, rfl⟩;go_wp2;go_ret;exact ⟨rfl, rfl⟩
 rw [hb] at Zb
 have Zu := Za Zb
 have Yu := Oc S hS 0 (by omega)
 have Ux := yG S Y8
 have L0 := fun w h => Ii S w h
 have HW := Za hw
 obtain ⟨r, hr⟩ := xE (Y5 S 0 Y8)
 rw [<- hr] at Yu Ux
 have Jw := Za Yu
 have hrle : r <= S.size := by rw [hr]; exact G2 S 0 Y8 (by omega)
 clear Zb hb Yu hr hw
 cases ha : S.data.toList.all Y8
 ·have Z3 : ((r : Int) == (S.size : Int)) = false := by
   have : r ≠ S.size := fun e => by rw [Ux.1 e] at ha; cases ha
   simp;omega
  clear Ux ha L0;simp only [Bool.and_false, Bool.false_and];go_enter func128, ntmps128;go_wp2_with fail;refine (Zu.o _).mono ?_;rintro e w' ⟨rfl, rfl⟩;go_wp2_with fail;refine (Jw.o _).mono ?_;rintro e w' ⟨rfl, rfl⟩;go_wp2;go_ret;exact ⟨rfl, rfl⟩
 ·have heq : ((r : Int) == (S.size : Int)) = true := by
   have := Ux.2 ha;simp;omega
  cases hq : Tl.contains S.data.toList
  ·rw [hq] at L0
   have HWD := Za L0;clear Ux ha L0 hq;go_enter func128, ntmps128;go_wp2_with fail;refine (Zu.o _).mono ?_;rintro e w' ⟨rfl, rfl⟩;go_wp2_with fail;refine (Jw.o _).mono ?_;rintro e w' ⟨rfl, rfl⟩;go_wp2_with fail;refine (HWD.o _ HW.o).mono ?_;rintro e w' ⟨rfl, rfl⟩;go_wp2;go_ret;exact ⟨rfl, rfl⟩
  ·rw [hq] at L0
   have HWD := Za L0;clear Ux ha L0 hq;go_enter func128, ntmps128;go_wp2_with fail;refine (Zu.o _).mono ?_;rintro e w' ⟨rfl, rfl⟩;go_wp2_with fail;refine (Jw.o _).mono ?_;rintro e w' ⟨rfl, rfl⟩;go_wp2_with fail;refine (HWD.o _ HW.o).mono ?_;rintro e w' ⟨rfl, rfl⟩;go_wp2;go_ret;exact ⟨rfl, rfl⟩
end Go.Proofs.YtfoejkhfdiodhaaGreatDoor
namespace Go.Proofs.YtfoejkhfdiodhaaGreatDoor
open Go.Proofs.Tryz
abbrev Ty := DataW Unit
def Yq (k : Int) (nm : List UInt8) (ns : List (List UInt8)) (ks : List Ty) : Ty := .agg [.lit (.int .i64 k), .lit (.string nm), .agg (ns.map fun s => .lit (.string s)), .agg ks]
def Cb : Ty -> List UInt8
 | .lit (.string s) => s
 | _ => []
def vZ : Ty -> Int
 | .agg (.lit (.int _ k) :: _) => k
 | _ => 0
def zK : Ty -> List UInt8
 | .agg (_ :: s :: _) => Cb s
 | _ => []
def uW : Ty -> List (List UInt8)
 | .agg (_ :: _ :: .agg l :: _) => l.map Cb
 | _ => []
def Ms : Ty -> List Ty
 | .agg (_ :: _ :: _ :: .agg l :: _) => l
 | _ => []
section
variable (k : Int) (nm : List UInt8) (ns : List (List UInt8)) (ks : List Ty)
theorem uX : uW (Yq k nm ns ks) = ns := by
 show (ns.map fun s => (DataW.lit (.string s) : Ty)).map Cb = ns
 rw [List.map_map]
 exact List.map_id _
theorem Il : Ms (Yq k nm ns ks) = ks := rfl
end
theorem Iy {k k' : Int} {nm nm' : List UInt8} {ns ns' : List (List UInt8)} {ks ks' : List Ty} (h : Yq k nm ns ks = Yq k' nm' ns' ks') : k = k' /\ nm = nm' /\ ns = ns' /\ ks = ks' := by
 have h1 := congrArg vZ h
 have h2 := congrArg zK h
 have h3 := congrArg uW h
 have h4 := congrArg Ms h
 rw [uX, uX] at h3
 exact ⟨h1, h2, h3, h4⟩
def Y4 (k : Int) : List UInt8 := if k = 0 then [97, 110, 121] else if k = 1 then [110, 117, 108, 108] else if k = 2 then [98, 111, 111, 108] else if k = 3 then [105, 110, 116] else [115, 116, 114]
section
variable {n : Nat} {b : Bool}
end
def Qw : Nat -> Ty -> Nat
 | 0, _ => 0
 | n + 1, D => 1 + ((Ms D).map (Qw n)).sum
def Nj : List Nat -> Nat
 | [] => 0
 | a :: r => max a (Nj r)
def Ud : Nat -> Ty -> Nat
 | 0, _ => 0
 | n + 1, D => 1 + Nj ((Ms D).map (Ud n))
theorem Dq {l : List Nat} {a : Nat} (h : a ∈ l) : a <= Nj l := by
 induction l with
 | nil => cases h
 | cons b r ih =>
  rw [Nj];rcases List.mem_cons.1 h with rfl | h
  ·exact Nat.le_max_left ..
  ·exact Nat.le_trans (ih h) (Nat.le_max_right ..)
theorem E3 {l : List Nat} {m : Nat} (h : ∀ a ∈ l, a <= m) : Nj l <= m := by
 induction l with
 | nil => exact xZ _
 | cons b r ih =>
  rw [Nj];exact Nat.max_le.2 ⟨h b (xM ..), ih fun a ha => h a (xW _ ha)⟩
end Go.Proofs.YtfoejkhfdiodhaaGreatDoor
namespace Go.Proofs.YtfoejkhfdiodhaaGreatDoor
open Go.Proofs.Tryz
open Go.RowKit
def Db (w : World) (a : Option Addr) (ns : List (List UInt8)) : Prop :=
 ns = [] ∨ ∃ b o, a = some ⟨b, o, none⟩ /\ b < w.heap.size /\ ∀ i (h : i < ns.length), w.cell? ⟨b, o + i, none⟩ = some (.string ⟨ns[i].toArray⟩)
def N0 (w : World) (b : Nat) : Prop := ∃ cs t, w.heap[b]? = some (.cells cs t (0, 0))
def Cs (w : World) (u : Bool) (T : Value -> Ty -> Prop) (ka : Option Addr) (ks : List Ty) : Prop :=
 ks = [] ∨ ∃ b o, ka = some ⟨b, o, none⟩ /\ b < w.heap.size /\ w.frozen? ⟨b, o, none⟩ = false /\ (u = true -> N0 w b) /\ ∀ i (h : i < ks.length), ∃ c0 c1 c2 c3, w.cell? ⟨b, o + i * 4, none⟩ = some c0 /\ w.cell? ⟨b, o + i * 4 + 1, none⟩ = some c1 /\
   w.cell? ⟨b, o + i * 4 + 2, none⟩ = some c2 /\ w.cell? ⟨b, o + i * 4 + 3, none⟩ = some c3 /\ T (.agg #[c0, c1, c2, c3]) ks[i]
def Dd (w : World) (u : Bool) : Nat -> Value -> Ty -> Prop
 | 0, _, _ => False
 | n + 1, v, D => ∃ (k : Int) (nm : ByteArray) (na : Option Addr) (nc : Nat) (ka : Option Addr) (kc : Nat) (ns : List (List UInt8)) (ks : List Ty),
  v = .agg #[.int .i64 k, .string nm, .slice na ns.length nc, .slice ka ks.length kc] /\ D = Yq k nm.data.toList ns ks /\ (Lit.int .i64 k).wf = true /\ nm.size <= reachBytes /\ (∀ s ∈ ns, s.length <= reachBytes) /\
  (ns.length <= nc /\ ns.length <= reachBytes) /\ (ks.length <= kc /\ ks.length <= reachBytes) /\ Db w na ns /\ Cs w u (fun v D => Dd w u n v D) ka ks
abbrev A3 (w : World) (u : Bool) (n : Nat) (ka : Option Addr) (ks : List Ty) : Prop := Cs w u (fun v D => Dd w u n v D) ka ks
theorem Ak {w w' : World} {a : Option Addr} {ns : List (List UInt8)} (h : Db w a ns) (hb : Below w.heap.size w w') : Db w' a ns := by
 rcases h with h | ⟨b, o, ha, Zo, hc⟩
 ·exact .inl h
 ·exact .inr ⟨b, o, ha, xT Zo hb.size, fun i hi => (hb.cell (p := ⟨b, o + i, none⟩) Zo).trans (hc i hi)⟩
theorem Et {w w' : World} {b : Nat} (h : N0 w b) (hb : Below w.heap.size w w') : N0 w' b := by
 obtain ⟨cs, t, h⟩ := h
 exact ⟨cs, t, (hb.block b (xB h)).trans h⟩
theorem qK {w w' : World} {u : Bool} {T T' : Value -> Ty -> Prop} {ka : Option Addr} {ks : List Ty} (hT : ∀ v D, D ∈ ks -> T v D -> T' v D) (h : Cs w u T ka ks) (hb : Below w.heap.size w w') : Cs w' u T' ka ks := by
 rcases h with h9 | ⟨b, o, ha, Zo, hf, Yz, hc⟩
 ·exact .inl h9
 ·refine .inr ⟨b, o, ha, xT Zo hb.size, (hb.frozen (p := ⟨b, o, none⟩) Zo).trans hf, fun hu => Et (Yz hu) hb, fun i hi => ?_⟩
  obtain ⟨c0, c1, c2, c3, e0, e1, e2, e3, ht⟩ := hc i hi
  exact ⟨c0, c1, c2, c3, (hb.cell (p := ⟨b, o + i * 4, none⟩) Zo).trans e0, (hb.cell (p := ⟨b, o + i * 4 + 1, none⟩) Zo).trans e1, (hb.cell (p := ⟨b, o + i * 4 + 2, none⟩) Zo).trans e2,
   (hb.cell (p := ⟨b, o + i * 4 + 3, none⟩) Zo).trans e3, hT _ _ (List.getElem_mem hi) ht⟩
theorem Cg {w w' : World} {u : Bool} {n : Nat} {v : Value} {D : Ty} (h : Dd w u n v D) (hb : Below w.heap.size w w') : Dd w' u n v D := by
 induction n generalizing v D with
 | zero => exact h.elim
 | succ n ih =>
  obtain ⟨k, nm, na, nc, ka, kc, ns, ks, h1, h2, h3, h4, h5, h6, h7, h8, h9⟩ := h;exact ⟨k, nm, na, nc, ka, kc, ns, ks, h1, h2, h3, h4, h5, h6, h7, Ak h8 hb, qK (fun _ _ _ h => ih h) h9 hb⟩
theorem Rl {w w' : World} {u : Bool} {n : Nat} {ka : Option Addr} {ks : List Ty} (h : A3 w u n ka ks) (hb : Below w.heap.size w w') : A3 w' u n ka ks := qK (fun _ _ _ h => Cg h hb) h hb
theorem vV {w : World} {u : Bool} {n : Nat} {ka : Option Addr} {ks : List Ty} (h : A3 w u n ka ks) {i : Nat} (hi : i < ks.length) :
  ∃ b o k nm na nl nc la ll lc, ka = some ⟨b, o, none⟩ /\ b < w.heap.size /\ w.cell? ⟨b, o + i * 4, none⟩ = some (.int .i64 k) /\ w.cell? ⟨b, o + i * 4 + 1, none⟩ = some (.string nm) /\ w.cell? ⟨b, o + i * 4 + 2, none⟩ = some (.slice na nl nc) /\
   w.cell? ⟨b, o + i * 4 + 3, none⟩ = some (.slice la ll lc) /\ Dd w u n (.agg #[.int .i64 k, .string nm, .slice na nl nc, .slice la ll lc]) ks[i] := by
 rcases h with rfl | ⟨b, o, rfl, Zo, _, _, hc⟩
 ·cases hi
 ·obtain ⟨c0, c1, c2, c3, q0, q1, q2, q3, ht⟩ := hc i hi
  cases n with
  | zero => exact ht.elim
  | succ n =>
   have ht' := ht;obtain ⟨k, nm, na, nc, ka, kc, ns, ks', h1, _⟩ := ht;injection h1 with e;injection e with e;injection e with e0 e;injection e with e1 e;injection e with e2 e;injection e with e3 _;subst e0 e1 e2 e3;exact ⟨b, o, k, nm, na, ns.length, nc, ka, ks'.length, kc, rfl, Zo, q0, q1, q2, q3, ht'⟩
theorem Rr {cs : List Value} {o : Nat} (h : cs.length = 4) (ho : o < 4) : ∃ c, (cs.drop o).take 1 = [c] /\ cs[o]? = some c := by
 match cs, h, o, ho with
 | [a, b, c, d], _, 0, _ => exact ⟨a, rfl, rfl⟩
 | [a, b, c, d], _, 1, _ => exact ⟨b, rfl, rfl⟩
 | [a, b, c, d], _, 2, _ => exact ⟨c, rfl, rfl⟩
 | [a, b, c, d], _, 3, _ => exact ⟨d, rfl, rfl⟩
theorem Zx {w w1 w2 : World} (h : Below w.heap.size w w1) (k : Below w1.heap.size w1 w2) : Below w.heap.size w w2 := h.trans (k.mono h.size)
theorem Zq (w : World) (o : Obj) : Below w.heap.size w (w.alloc o) := (Below.refl _ w).alloc (xR) o
abbrev Z5 (k : Int) (nm : ByteArray) (na : Option Addr) (nl nc : Nat) (ka : Option Addr) (kl kc : Nat) : Obj := .cells #[.int .i64 k, .string nm, .slice na nl nc, .slice ka kl kc] 42
def Ba (w : World) (lo : Nat) (a : Option Addr) (ns : List (List UInt8)) : Prop :=
 ns = [] ∨ ∃ b o, a = some ⟨b, o, none⟩ /\ lo <= b /\ b < w.heap.size /\ ∀ i (h : i < ns.length), w.cell? ⟨b, o + i, none⟩ = some (.string ⟨ns[i].toArray⟩)
def RowF (w : World) (lo : Nat) (T : Value -> Ty -> Prop) (ka : Option Addr) (ks : List Ty) : Prop :=
 ks = [] ∨ ∃ b o, ka = some ⟨b, o, none⟩ /\ lo <= b /\ N0 w b /\ ∀ i (h : i < ks.length), ∃ c0 c1 c2 c3, w.cell? ⟨b, o + i * 4, none⟩ = some c0 /\ w.cell? ⟨b, o + i * 4 + 1, none⟩ = some c1 /\
   w.cell? ⟨b, o + i * 4 + 2, none⟩ = some c2 /\ w.cell? ⟨b, o + i * 4 + 3, none⟩ = some c3 /\ T (.agg #[c0, c1, c2, c3]) ks[i]
def Bc (w : World) (lo : Nat) : Nat -> Value -> Ty -> Prop
 | 0, _, _ => False
 | n + 1, v, D => ∃ (k : Int) (nm : ByteArray) (na : Option Addr) (nc : Nat) (ka : Option Addr) (kc : Nat) (ns : List (List UInt8)) (ks : List Ty),
  v = .agg #[.int .i64 k, .string nm, .slice na ns.length nc, .slice ka ks.length kc] /\ D = Yq k nm.data.toList ns ks /\ (Lit.int .i64 k).wf = true /\ nm.size <= reachBytes /\ (∀ s ∈ ns, s.length <= reachBytes) /\
  (ns.length <= nc /\ ns.length <= reachBytes) /\ (ks.length <= kc /\ ks.length <= reachBytes) /\ Ba w lo na ns /\ RowF w lo (fun v D => Bc w lo n v D) ka ks
abbrev Ut (w : World) (lo n : Nat) (ka : Option Addr) (ks : List Ty) : Prop := RowF w lo (fun v D => Bc w lo n v D) ka ks
theorem wE {w : World} {b o : Nat} (h : N0 w b) : w.frozen? ⟨b, o, none⟩ = false := by
 obtain ⟨cs, t, h⟩ := h
 simp [World.frozen?, h]
theorem Nr {w : World} {b : Nat} (h : N0 w b) : b < w.heap.size := by
 obtain ⟨cs, t, h⟩ := h
 exact xB h
section
variable {w w' : World} {lo lo' n m : Nat} {v : Value} {D : Ty} {a ka : Option Addr} {ns : List (List UInt8)} {ks : List Ty}
theorem Ba.at (h : Ba w lo a ns) : Db w a ns := by
 rcases h with h | ⟨b, o, e, _, Zo, hc⟩
 ·exact .inl h
 ·exact .inr ⟨b, o, e, Zo, hc⟩
theorem On (h : Bc w lo n v D) (hsz : w.heap.size <= w'.heap.size) (hk : ∀ b, lo <= b -> b < w.heap.size -> w'.heap[b]? = w.heap[b]?) : Bc w' lo n v D := by
 induction n generalizing v D with
 | zero => exact h.elim
 | succ n ih =>
  obtain ⟨k, nm, na, nc, ka, kc, ns, ks, h1, h2, h3, h4, h5, h6, h7, h8, h9⟩ := h;refine ⟨k, nm, na, nc, ka, kc, ns, ks, h1, h2, h3, h4, h5, h6, h7, ?_, ?_⟩
  ·rcases h8 with h8 | ⟨b, o, e, hl, Zo, hc⟩
   ·exact .inl h8
   ·exact .inr ⟨b, o, e, hl, xT Zo hsz, fun i hi => (World.cell?_of_block (w := w) (a := ⟨b, o + i, none⟩) (hk b hl Zo)).trans (hc i hi)⟩
  ·rcases h9 with h9 | ⟨b, o, e, hl, Yz, hc⟩
   ·exact .inl h9
   ·have Zo := Nr Yz
    have Aa : N0 w' b := by
     obtain ⟨cs, t, hh⟩ := Yz;exact ⟨cs, t, (hk b hl Zo).trans hh⟩
    refine .inr ⟨b, o, e, hl, Aa, fun i hi => ?_⟩;obtain ⟨c0, c1, c2, c3, e0, e1, e2, e3, ht⟩ := hc i hi
    have U6 : ∀ j, w'.cell? ⟨b, j, none⟩ = w.cell? ⟨b, j, none⟩ := fun j => World.cell?_of_block (w := w) (a := ⟨b, j, none⟩) (hk b hl Zo)
    exact ⟨c0, c1, c2, c3, (U6 _).trans e0, (U6 _).trans e1, (U6 _).trans e2, (U6 _).trans e3, ih ht⟩
theorem yP (h : Bc w lo n v D) (hl : lo' <= lo) : Bc w lo' n v D := by
 induction n generalizing v D with
 | zero => exact h.elim
 | succ n ih =>
  obtain ⟨k, nm, na, nc, ka, kc, ns, ks, h1, h2, h3, h4, h5, h6, h7, h8, h9⟩ := h;refine ⟨k, nm, na, nc, ka, kc, ns, ks, h1, h2, h3, h4, h5, h6, h7, ?_, ?_⟩
  ·rcases h8 with h8 | ⟨b, o, e, hb, Zo, hc⟩
   ·exact .inl h8
   ·exact .inr ⟨b, o, e, by omega, Zo, hc⟩
  ·rcases h9 with h9 | ⟨b, o, e, hb, Yz, hc⟩
   ·exact .inl h9
   ·refine .inr ⟨b, o, e, by omega, Yz, fun i hi => ?_⟩
    obtain ⟨c0, c1, c2, c3, e0, e1, e2, e3, ht⟩ := hc i hi;exact ⟨c0, c1, c2, c3, e0, e1, e2, e3, ih ht⟩
theorem Gg (h : Bc w lo n v D) (hm : n <= m) : Bc w lo m v D := by
 induction n generalizing m v D with
 | zero => exact h.elim
 | succ n ih =>
  obtain ⟨m, rfl⟩ : ∃ p, m = p + 1 := ⟨m - 1, by omega⟩
  obtain ⟨k, nm, na, nc, ka, kc, ns, ks, h1, h2, h3, h4, h5, h6, h7, h8, h9⟩ := h;refine ⟨k, nm, na, nc, ka, kc, ns, ks, h1, h2, h3, h4, h5, h6, h7, h8, ?_⟩;rcases h9 with h9 | ⟨b, o, e, hb, Yz, hc⟩
  ·exact .inl h9
  ·refine .inr ⟨b, o, e, hb, Yz, fun i hi => ?_⟩
   obtain ⟨c0, c1, c2, c3, e0, e1, e2, e3, ht⟩ := hc i hi;exact ⟨c0, c1, c2, c3, e0, e1, e2, e3, ih ht (by omega)⟩
theorem pV (h : Bc w lo n v D) : ∃ (k : Int) (nm : ByteArray) (na : Option Addr) (nl nc : Nat) (ka : Option Addr) (kl kc : Nat), v = .agg #[.int .i64 k, .string nm, .slice na nl nc, .slice ka kl kc] /\ vZ D = k := by
 cases n with
 | zero => exact h.elim
 | succ n =>
  obtain ⟨k, nm, na, nc, ka, kc, ns, ks, h1, h2, _⟩ := h;exact ⟨k, nm, na, _, nc, ka, _, kc, h1, by rw [h2]; rfl⟩
theorem kH (h : Ut w lo n ka ks) {i : Nat} (hi : i < ks.length) :
  ∃ b o k nm na nl nc la ll lc, ka = some ⟨b, o, none⟩ /\ b < w.heap.size /\ w.cell? ⟨b, o + i * 4, none⟩ = some (.int .i64 k) /\ w.cell? ⟨b, o + i * 4 + 1, none⟩ = some (.string nm) /\ w.cell? ⟨b, o + i * 4 + 2, none⟩ = some (.slice na nl nc) /\
   w.cell? ⟨b, o + i * 4 + 3, none⟩ = some (.slice la ll lc) /\ Bc w lo n (.agg #[.int .i64 k, .string nm, .slice na nl nc, .slice la ll lc]) ks[i] := by
 rcases h with rfl | ⟨b, o, rfl, _, Yz, hc⟩
 ·cases hi
 ·obtain ⟨c0, c1, c2, c3, q0, q1, q2, q3, ht⟩ := hc i hi
  obtain ⟨k, nm, na, nl, nc, ka, kl, kc, e, _⟩ := pV ht;injection e with e;injection e with e;injection e with e0 e;injection e with e1 e;injection e with e2 e;injection e with e3 _;subst e0 e1 e2 e3;exact ⟨b, o, k, nm, na, nl, nc, ka, kl, kc, rfl, Nr Yz, q0, q1, q2, q3, ht⟩
end
abbrev Co := Int × ByteArray × Option Addr × Nat × Nat × Option Addr × Nat × Nat
def Co.list (c : Co) : List Value := [.int .i64 c.1, .string c.2.1, .slice c.2.2.1 c.2.2.2.1 c.2.2.2.2.1, .slice c.2.2.2.2.2.1 c.2.2.2.2.2.2.1 c.2.2.2.2.2.2.2]
def Co.val (c : Co) : Value := .agg c.list.toArray
abbrev zTy : Value := .agg #[.int .i64 0, .string ⟨#[]⟩, .slice none 0 0, .slice none 0 0]
theorem dK {fn : Func} {p u : Tmp} {ty : TypeId} (h : fn.results = #[.cell p ty, .tmp u]) (tmps : Array Value) {P : Program} {w : World} {g : Nat} {t : TypeId} {cs : Array Value} {fr : Nat × Nat} {fs : Array Field}
  (hp : tmps.getD p undef = .pointer (some ⟨g, 0, none⟩)) (hg : w.heap[g]? = some (.cells cs t fr))
  (hu : P.underlying ty = some (.struct fs)) (hi : (P.info? ty).map (·.size) = some cs.size) :
  (results fn tmps).run P w = .ok (.tuple #[.agg cs, tmps.getD u undef]) w := by
 have hp' : tmps[p]?.getD undef = .pointer (some ⟨g, 0, none⟩) := by simpa using hp
 simp [results, h, hp', asAddr, run_loadVar_row w g t ty cs fr _ hg hu rfl hi]
theorem F4 : (prog.info? 42).map (·.size) = some 4 := by kernel_rfl
theorem Dp : (prog.info? 42).map (fun i => (i.zero, i.size, i.bytes)) = some (some zTy, 4, 72) := by kernel_rfl
theorem Ri : (prog.info? 9).map (fun i => (i.zero, i.size, i.bytes)) = some (some (.string ⟨#[]⟩), 1, 16) := by kernel_rfl
theorem Xe {w : World} {b o : Nat} {cs : Array Value} {u : Value} {t : TypeId} {fr : Nat × Nat} (h : w.heap[b]? = some (.cells cs t fr)) : (w.setCell ⟨b, o, none⟩ u).heap[b]? = some (.cells (cs.setIfInBounds o u) t fr) := by
 simp [World.setCell, Array.getElem?_modify, h]
theorem set4 {w : World} {b : Nat} {y0 y1 y2 y3 : Value} {t : TypeId} {fr : Nat × Nat} (h : w.heap[b]? = some (.cells #[y0, y1, y2, y3] t fr)) (x0 x1 x2 x3 : Value) :
  ((((w.setCell ⟨b, 0, none⟩ x0).setCell ⟨b, 1, none⟩ x1).setCell ⟨b, 2, none⟩ x2).setCell ⟨b, 3, none⟩ x3).heap[b]? = some (.cells #[x0, x1, x2, x3] t fr) :=
 Xe (Xe (Xe (Xe h)))
theorem V9 {B : Nat} {a w : World} {b : Nat} (h : Below B a w) (hb : B <= b) (x0 x1 x2 x3 : Value) : Below B a ((((w.setCell ⟨b, 0, none⟩ x0).setCell ⟨b, 1, none⟩ x1).setCell ⟨b, 2, none⟩ x2).setCell ⟨b, 3, none⟩ x3) :=
 (((h.setCell hb _).setCell hb _).setCell hb _).setCell hb _
theorem Xs {w : World} {b i : Nat} (hi : i ≠ b) (x0 x1 x2 x3 : Value) : ((((w.setCell ⟨b, 0, none⟩ x0).setCell ⟨b, 1, none⟩ x1).setCell ⟨b, 2, none⟩ x2).setCell ⟨b, 3, none⟩ x3).heap[i]? = w.heap[i]? := by
 rw [xH hi, xH hi, xH hi, xH hi]
theorem Ti (w : World) (o1 o2 : Obj) : ((w.alloc o1).alloc o2).heap[w.heap.size + 1]? = some o2 := by
 have := xL (w.alloc o1) o2
 simpa using this
theorem Z6 {w1 : World} {b : Nat} {y0 y1 y2 y3 : Value} {t : TypeId} (h : w1.heap[b]? = some (.cells #[y0, y1, y2, y3] t)) :
  (w1.cell? ⟨b, 0, none⟩ = some y0 /\ w1.cell? ⟨b, 1, none⟩ = some y1 /\ w1.cell? ⟨b, 2, none⟩ = some y2 /\ w1.cell? ⟨b, 3, none⟩ = some y3) /\
  (w1.frozen? ⟨b, 0, none⟩ = false /\ w1.frozen? ⟨b, 1, none⟩ = false /\ w1.frozen? ⟨b, 2, none⟩ = false /\ w1.frozen? ⟨b, 3, none⟩ = false) /\ b < w1.heap.size := by
 refine ⟨⟨?_, ?_, ?_, ?_⟩, ⟨?_, ?_, ?_, ?_⟩, xB h⟩
 all_goals first | (rw [cell_of_row _ _ _ _ _ _ h]; rfl) | simp [World.frozen?, h]
theorem Mg (w : World) (b : Nat) (x0 x1 x2 x3 : Value) : ((((w.setCell ⟨b, 0, none⟩ x0).setCell ⟨b, 1, none⟩ x1).setCell ⟨b, 2, none⟩ x2).setCell ⟨b, 3, none⟩ x3).heap.size = w.heap.size := by simp [World.setCell]
theorem vN (a b n : Nat) (h1 : a <= n) (h2 : (n : Int) <= b) (w : World) :
  Calls prog 90 #[.agg #[.int .i64 a, .int .i64 b], .int .i64 n] w fun e w' => e = .returned (.bool true) /\ Below w.heap.size w w' := by
 have e1 : (a : Int) <= (n : Int) := by omega
 go_enter func90, ntmps90
 go_wp2_with fail
 go_ret
 exact ⟨rfl, Zq _ _⟩
theorem jV (a : Option Addr) (c k : Nat) (w : World) : Calls prog 92 #[.slice a 0 c, .bool false, .int .i64 k] w fun e w' => e = .returned (.bool true) /\ w' = w := by
 go_enter func92, ntmps92
 go_wp2_with fail
 go_ret
 exact ⟨rfl, rfl⟩
structure PX where
 li : Int
 co : Int
 ta : Option Addr
 tc : Nat
 na : Option Addr
 nc : Nat
abbrev Jm (k : Nat) (tx : ByteArray) (N : Nat) (pq : PX) (ka : Option Addr) (kl kc : Nat) : Value := .agg #[.int .i64 k, .string tx, .int .i64 N, .int .i64 pq.li, .int .i64 pq.co, .slice pq.ta 0 pq.tc, .slice pq.na 0 pq.nc, .slice ka kl kc]
abbrev Up (k : Nat) (tx : ByteArray) (N : Nat) (pq : PX) (ka : Option Addr) (kl kc : Nat) : Obj := .cells #[.int .i64 k, .string tx, .int .i64 N, .int .i64 pq.li, .int .i64 pq.co, .slice pq.ta 0 pq.tc, .slice pq.na 0 pq.nc, .slice ka kl kc] 38
def Mt (k : Nat) (tx : List UInt8) (N : Nat) (ks : List Ty) : Ty := Yq k tx (List.replicate N []) ks
def Sr (w : World) (b o : Nat) (k : Nat) (tx : ByteArray) (N : Nat) (pq : PX) (ka : Option Addr) (kl kc : Nat) : Prop :=
 w.cell? ⟨b, o, none⟩ = some (.int .i64 k) /\ w.cell? ⟨b, o + 1, none⟩ = some (.string tx) /\ w.cell? ⟨b, o + 2, none⟩ = some (.int .i64 N) /\ w.cell? ⟨b, o + 3, none⟩ = some (.int .i64 pq.li) /\ w.cell? ⟨b, o + 4, none⟩ = some (.int .i64 pq.co) /\
 w.cell? ⟨b, o + 5, none⟩ = some (.slice pq.ta 0 pq.tc) /\ w.cell? ⟨b, o + 6, none⟩ = some (.slice pq.na 0 pq.nc) /\ w.cell? ⟨b, o + 7, none⟩ = some (.slice ka kl kc)
def NRow (w : World) (T : Nat -> ByteArray -> Nat -> PX -> Option Addr -> Nat -> Nat -> Ty -> Prop) (ka : Option Addr) (ks : List Ty) : Prop :=
 ks = [] ∨ ∃ b o, ka = some ⟨b, o, none⟩ /\ N0 w b /\ ∀ i (h : i < ks.length), ∃ k tx N pq la ll lc, Sr w b (o + i * 8) k tx N pq la ll lc /\ T k tx N pq la ll lc ks[i]
def Bb (w : World) : Nat -> Nat -> ByteArray -> Nat -> PX -> Option Addr -> Nat -> Nat -> Ty -> Prop
 | 0, _, _, _, _, _, _, _, _ => False
 | n + 1, k, tx, N, _, ka, kl, kc, D => ∃ ks : List Ty, kl = ks.length /\ D = Mt k tx.data.toList N ks /\ k <= 1000 /\ tx.size <= 1000 /\ N <= 1000 /\ 0 <= kc /\ ks.length <= 1000 /\ NRow w (Bb w n) ka ks
abbrev Ff (w : World) (n : Nat) (ka : Option Addr) (ks : List Ty) : Prop := NRow w (Bb w n) ka ks
section
variable {w w' : World} {n m : Nat} {k : Nat} {tx : ByteArray} {N : Nat} {pq : PX} {ka : Option Addr} {kl kc : Nat} {D : Ty} {ks : List Ty}
theorem Sr.below {b o : Nat} (h : Sr w b o k tx N pq ka kl kc) (Zo : b < w.heap.size) (hb : Below w.heap.size w w') : Sr w' b o k tx N pq ka kl kc := by
 obtain ⟨h0, h1, h2, h3, h4, h5, h6, h7⟩ := h
 exact ⟨(hb.cell (p := ⟨b, o, none⟩) Zo).trans h0, (hb.cell (p := ⟨b, o + 1, none⟩) Zo).trans h1, (hb.cell (p := ⟨b, o + 2, none⟩) Zo).trans h2, (hb.cell (p := ⟨b, o + 3, none⟩) Zo).trans h3, (hb.cell (p := ⟨b, o + 4, none⟩) Zo).trans h4, (hb.cell (p := ⟨b, o + 5, none⟩) Zo).trans h5, (hb.cell (p := ⟨b, o + 6, none⟩) Zo).trans h6, (hb.cell (p := ⟨b, o + 7, none⟩) Zo).trans h7⟩
theorem Rp (h : Bb w n k tx N pq ka kl kc D) (hb : Below w.heap.size w w') : Bb w' n k tx N pq ka kl kc D := by
 induction n generalizing k tx N pq ka kl kc D with
 | zero => exact h.elim
 | succ n ih =>
  obtain ⟨ks, e1, e2, h1, h2, h3, h4, h5, h6⟩ := h;refine ⟨ks, e1, e2, h1, h2, h3, h4, h5, ?_⟩;rcases h6 with h6 | ⟨b, o, e, Yz, hc⟩
  ·exact .inl h6
  ·refine .inr ⟨b, o, e, Et Yz hb, fun i hi => ?_⟩
   obtain ⟨k, tx, N, pq, la, ll, lc, q, ht⟩ := hc i hi;exact ⟨k, tx, N, pq, la, ll, lc, q.below (Nr Yz) hb, ih ht⟩
theorem tC (h : Ff w n ka ks) (hb : Below w.heap.size w w') : Ff w' n ka ks := by
 rcases h with h6 | ⟨b, o, e, Yz, hc⟩
 ·exact .inl h6
 ·refine .inr ⟨b, o, e, Et Yz hb, fun i hi => ?_⟩
  obtain ⟨k, tx, N, pq, la, ll, lc, q, ht⟩ := hc i hi;exact ⟨k, tx, N, pq, la, ll, lc, q.below (Nr Yz) hb, Rp ht hb⟩
theorem zQ (h : Ff w n ka ks) {i : Nat} (hi : i < ks.length) : ∃ b o k tx N pq la ll lc, ka = some ⟨b, o, none⟩ /\ b < w.heap.size /\ Sr w b (o + i * 8) k tx N pq la ll lc /\ Bb w n k tx N pq la ll lc ks[i] := by
 rcases h with rfl | ⟨b, o, rfl, Yz, hc⟩
 ·cases hi
 ·obtain ⟨k, tx, N, pq, la, ll, lc, q, ht⟩ := hc i hi
  exact ⟨b, o, k, tx, N, pq, la, ll, lc, rfl, Nr Yz, q, ht⟩
theorem nd_det {D' : Ty} (h : Bb w n k tx N pq ka kl kc D) (h' : Bb w m k tx N pq ka kl kc D') : D = D' := by
 induction n generalizing m k tx N pq ka kl kc D D' with
 | zero => exact h.elim
 | succ n ih =>
  cases m with
  | zero => exact h'.elim
  | succ m =>
   obtain ⟨ks, e1, rfl, _, _, _, _, _, h6⟩ := h;obtain ⟨ks', e1', rfl, _, _, _, _, _, h6'⟩ := h'
   have hl : ks.length = ks'.length := by omega
   have : ks = ks' := by
    rcases h6 with rfl | ⟨b, o, rfl, _, hc⟩
    ·exact (List.length_eq_zero_iff.1 hl.symm).symm
    ·rcases h6' with rfl | ⟨b', o', ha, _, Hb⟩
     ·exact List.length_eq_zero_iff.1 hl
     ·injection ha with ha
      injection ha with hb ho;subst hb ho
      refine List.ext_getElem hl fun i h1 h2 => ?_
      obtain ⟨k, tx, N, pq, la, ll, lc, ⟨q0, q1, q2, q3, q4, q5, q6, q7⟩, ht⟩ := hc i h1;obtain ⟨k', tx', N', pq', la', ll', lc', ⟨p0, p1, p2, p3, p4, p5, p6, p7⟩, ht'⟩ := Hb i h2;have e0 := Option.some.inj (q0.symm.trans p0);have e1 := Option.some.inj (q1.symm.trans p1);have e2 := Option.some.inj (q2.symm.trans p2);have e3 := Option.some.inj (q3.symm.trans p3);have e4 := Option.some.inj (q4.symm.trans p4)
      have e5 := Option.some.inj (q5.symm.trans p5);have e6 := Option.some.inj (q6.symm.trans p6);have e7 := Option.some.inj (q7.symm.trans p7);injection e0 with _ e0;injection e1 with e1;injection e2 with _ e2;injection e3 with _ e3;injection e4 with _ e4;injection e5 with e5 _ e5c;injection e6 with e6 _ e6c
      have eP : pq = pq' := by cases pq; cases pq'; simp_all
      injection e7 with e7 e8 e9
      have e0' : k = k' := by omega
      have e2' : N = N' := by omega
      subst e0' e1 e2' eP e7 e8 e9;exact ih ht ht'
   rw [this]
theorem hM {ks' : List Ty} (h : Ff w n ka ks) (h' : Ff w m ka ks') (hl : ks.length = ks'.length) : ks = ks' := by
 rcases h with rfl | ⟨b, o, rfl, _, hc⟩
 ·exact (List.length_eq_zero_iff.1 hl.symm).symm
 ·rcases h' with rfl | ⟨b', o', ha, _, Hb⟩
  ·exact List.length_eq_zero_iff.1 hl
  ·injection ha with ha
   injection ha with hb ho;subst hb ho
   refine List.ext_getElem hl fun i h1 h2 => ?_
   obtain ⟨k, tx, N, pq, la, ll, lc, ⟨q0, q1, q2, q3, q4, q5, q6, q7⟩, ht⟩ := hc i h1;obtain ⟨k', tx', N', pq', la', ll', lc', ⟨p0, p1, p2, p3, p4, p5, p6, p7⟩, ht'⟩ := Hb i h2;have e0 := Option.some.inj (q0.symm.trans p0);have e1 := Option.some.inj (q1.symm.trans p1);have e2 := Option.some.inj (q2.symm.trans p2);have e3 := Option.some.inj (q3.symm.trans p3);have e4 := Option.some.inj (q4.symm.trans p4)
   have e5 := Option.some.inj (q5.symm.trans p5);have e6 := Option.some.inj (q6.symm.trans p6);have e7 := Option.some.inj (q7.symm.trans p7);injection e0 with _ e0;injection e1 with e1;injection e2 with _ e2;injection e3 with _ e3;injection e4 with _ e4;injection e5 with e5 _ e5c;injection e6 with e6 _ e6c
   have eP : pq = pq' := by cases pq; cases pq'; simp_all
   injection e7 with e7 e8 e9
   have e0' : k = k' := by omega
   have e2' : N = N' := by omega
   subst e0' e1 e2' eP e7 e8 e9;exact nd_det ht ht'
end
theorem Rq {w1 : World} {b : Nat} {k : Nat} {tx : ByteArray} {N : Nat} {pq : PX} {ka : Option Addr} {kl kc : Nat} (h : w1.heap[b]? = some (Up k tx N pq ka kl kc)) : Sr w1 b 0 k tx N pq ka kl kc /\ b < w1.heap.size := by
 refine ⟨⟨?_, ?_, ?_, ?_, ?_, ?_, ?_, ?_⟩, xB h⟩
 all_goals (rw [cell_of_row _ _ _ _ _ _ h]; rfl)
end Go.Proofs.YtfoejkhfdiodhaaGreatDoor
