/- Part. -/
import Derived.Below
import Derived.Laws.Rows
import Derived.Laws.World
import Derived.Deep.WholeRow
import Derived.OneCell
import Derived.WalkKit
import Derived.Test.YtbnjllkkhhkkaaaGreatDoorProg
import Derived.KernelRfl
import Derived.WalkLawsBesides
import Derived.LoopTactic
import Derived.Deep.QuietTactic
import Derived.BigQuiet
import Derived.Deep.MidRow
import Derived.ChangeArms
import Derived.SizedLaws
import Derived.WalkSmall
import Derived.Laws.OwnMore
set_option maxRecDepth 100000
set_option maxHeartbeats 4000000
namespace Go.Proofs.YtbnjllkkhhkkaaaGreatDoor
open Tryz
open Go.RowKit
def xQ (p : Prop) : Prop := p
theorem xQ.o {p : Prop} (h : xQ p) : p := h
theorem xE {α : Type _} (t : α) : ∃ x, x = t := ⟨t, rfl⟩
theorem xS (w : World) (o : Obj) : (w.alloc o).heap.size = w.heap.size + 1 := World.size_alloc w o
theorem xB {w : World} {b : Nat} {o : Obj} (h : w.heap[b]? = some o) : b < w.heap.size := lt_of_block h
theorem xR {n : Nat} : n ≤ n := Nat.le_refl n
theorem xH {w : World} {p : Addr} {v : Value} {k : Nat} (h : k ≠ p.block) : (w.setCell p v).heap[k]? = w.heap[k]? := Below.heap_setCell w p v k h
theorem xA {w : World} {o : Obj} {k : Nat} (h : k < w.heap.size) : (w.alloc o).heap[k]? = w.heap[k]? := Below.heap_alloc w o k h
theorem xL (w : World) (o : Obj) : (w.alloc o).heap[w.heap.size]? = some o := heap_alloc_last w o
theorem xM {α : Type} {a : α} {l : List α} : a ∈ a :: l := List.mem_cons_self
theorem xW {α : Type} (b : α) {a : α} {l : List α} (h : a ∈ l) : a ∈ b :: l := List.mem_cons_of_mem b h
theorem xZ (n : Nat) : 0 ≤ n := Nat.zero_le n
theorem xT {a b c : Nat} (h : a < b) (k : b ≤ c) : a < c := Nat.lt_of_lt_of_le h k
theorem xU (n : Nat) : n < n + 1 := Nat.lt_succ_self n
end Go.Proofs.YtbnjllkkhhkkaaaGreatDoor
namespace Go.Proofs.YtbnjllkkhhkkaaaGreatDoor
open Tryz
def Vm : List UInt8 → Int → Option Int
 | [], n => some n
 | d :: r, n => if (d.toNat : Int) < 48 ∨ 57 < (d.toNat : Int) then none else if (9223372036854775807 - ((d.toNat : Int) - 48)) / 10 < n then none else Vm r (n * 10 + ((d.toNat : Int) - 48))
def Ww (l : List UInt8) : Option Int :=
 match l with
 | [] => none
 | d :: r => if (d.toNat : Int) = 48 ∧ r ≠ [] then none else Vm (d :: r) 0
theorem Yp (s : ByteArray) : s.data.toList.length = s.size := Array.length_toList
theorem Y0 (s : ByteArray) (k : Nat) (hk : k < s.size) : s.data.toList.drop k = s[k] :: s.data.toList.drop (k + 1) := by
 have h : k < s.data.toList.length := by rw [Yp]; exact hk
 rw [List.drop_eq_getElem_cons h]
 rfl
theorem Fg {s : ByteArray} {k : Nat} (hk : k < s.size) (n : Int) (h : (s[k].toNat : Int) < 48 ∨ 57 < (s[k].toNat : Int)) : Vm (s.data.toList.drop k) n = none := by
 rw [Y0 s k hk, Vm, if_pos h]
theorem zgj {s : ByteArray} {k : Nat} (hk : k < s.size) (n : Int) (h : ¬ ((s[k].toNat : Int) < 48 ∨ 57 < (s[k].toNat : Int))) (h2 : (9223372036854775807 - ((s[k].toNat : Int) - 48)) / 10 < n) : Vm (s.data.toList.drop k) n = none := by
 rw [Y0 s k hk, Vm, if_neg h, if_pos h2]
theorem Ih {s : ByteArray} {k : Nat} (hk : k < s.size) (n : Int) (h : ¬ ((s[k].toNat : Int) < 48 ∨ 57 < (s[k].toNat : Int))) (h2 : ¬ (9223372036854775807 - ((s[k].toNat : Int) - 48)) / 10 < n) :
  Vm (s.data.toList.drop k) n = Vm (s.data.toList.drop (k + 1)) (n * 10 + ((s[k].toNat : Int) - 48)) := by
 rw [Y0 s k hk, Vm, if_neg h, if_neg h2]
theorem zdl {s : ByteArray} {k : Nat} (hk : ¬ k < s.size) (n : Int) : Vm (s.data.toList.drop k) n = some n := by
 rw [List.drop_eq_nil_of_le (by rw [Yp]; omega), Vm]
theorem Rp {s : ByteArray} (h : s.size = 0) : Ww s.data.toList = none := by
 have : s.data.toList = [] := List.eq_nil_of_length_eq_zero (by rw [Yp]; exact h)
 rw [this]
 rfl
theorem Dp {s : ByteArray} (h0 : 0 < s.size) (h : (s[0].toNat : Int) = 48) (h1 : 1 < s.size) : Ww s.data.toList = none := by
 have e := Y0 s 0 h0
 rw [List.drop_zero] at e
 rw [e, Ww, if_pos]
 refine ⟨h, fun hn => ?_⟩
 have h2 := congrArg List.length hn
 rw [List.length_drop, Yp] at h2
 simp only [List.length_nil] at h2
 omega
theorem J9 {s : ByteArray} (h0 : 0 < s.size) (h : ¬ ((s[0].toNat : Int) = 48 ∧ 1 < s.size)) : Ww s.data.toList = Vm s.data.toList 0 := by
 have e := Y0 s 0 h0
 rw [List.drop_zero] at e
 rw [e, Ww, if_neg ?_]
 rintro ⟨h1, h2⟩
 apply h
 refine ⟨h1, ?_⟩
 have h3 : (List.drop (0 + 1) s.data.toList).length ≠ 0 := fun hh => h2 (List.eq_nil_of_length_eq_zero hh)
 rw [List.length_drop, Yp] at h3
 omega
theorem N4 (s : ByteArray) : s.toList.isEmpty = decide (s.size = 0) := by
 rw [ByteArray.toList_eq, ← Yp]
 cases s.data.toList <;> simp
def Pd (o : Option Int) : Value := .tuple #[.int .i64 (o.getD 0), .bool o.isSome]
def Y8 (b : UInt8) : Bool := (decide (97 ≤ b.toNat) && decide (b.toNat ≤ 122)) || (decide (65 ≤ b.toNat) && decide (b.toNat ≤ 90)) || decide (b.toNat = 95)
def Ye (b : UInt8) : Bool := decide (48 ≤ b.toNat) && decide (b.toNat ≤ 57)
def Yc (b : UInt8) : Bool := Y8 b || Ye b
def Vi (b : UInt8) : Bool := !decide (b.toNat = 10)
def Wa : List (List UInt8) := [[97, 110, 100], [97, 110, 121], [97, 115], [98, 111, 111, 108], [101, 108, 115, 101], [101, 120, 112, 111, 114, 116], [102, 97, 108, 115, 101], [102, 110], [102, 117, 110, 99, 116, 105, 111, 110], [105, 102], [105, 109, 112, 111, 114, 116], [105, 110], [105, 110, 116], [105, 115], [108, 101, 116], [110, 111, 116], [110, 117, 108, 108], [111, 114], [112, 114, 105, 110, 116], [114, 101, 97, 100], [114, 101, 99, 111, 114, 100], [115, 116, 114], [116, 104, 101, 110], [116, 114, 117, 101], [119, 105, 116, 104]]
def U0 : List (UInt8 × UInt8) := [(45, 62), (61, 62), (60, 58), (60, 60), (60, 61), (62, 62), (61, 61), (43, 43)]
def Qb : List UInt8 := [40, 41, 123, 125, 91, 93, 44, 58, 59, 61, 43, 45, 42, 47, 37, 38, 94, 60, 124, 46]
def Y7 : List UInt8 → Nat
 | [] => 0
 | [a] => if Qb.contains a then 1 else 0
 | a :: b :: _ => if U0.contains (a, b) then 2 else if Qb.contains a then 1 else 0
def U5 (b : UInt8) : Option UInt8 := if b = 92 then some 92 else if b = 34 then some 34 else if b = 110 then some 10 else if b = 116 then some 9 else none
def Wv : List UInt8 → List UInt8 → Option (List UInt8 × List UInt8)
 | [], _ => none
 | b :: r, acc =>
  if b = 34 then some (acc, r) else if b.toNat < 32 then none
  else if b = 92 then
   match r with
   | [] => none
   | c :: r' => match U5 c with
    | none => none
    | some x => Wv r' (acc ++ [x])
  else Wv r (acc ++ [b])
def Yy : Bool → List UInt8 → Nat → Nat → List UInt8 × Nat × Nat
 | _, [], li, co => ([], li, co)
 | true, b :: r, li, co => if b = 10 then Yy false r (li + 1) 1 else Yy true r li (co + 1)
 | false, b :: r, li, co =>
  if b = 10 then Yy false r (li + 1) 1 else if b = 32 ∨ b = 9 ∨ b = 13 then Yy false r li (co + 1)
  else if b = 35 then Yy true r li (co + 1) else (b :: r, li, co)
abbrev Rd := Int ⊕ (Int × List UInt8 × List UInt8)
abbrev Rd.bad (e : Int) : Rd := .inl e
abbrev Rd.tok (kind : Int) (text rest : List UInt8) : Rd := .inr (kind, text, rest)
theorem Mk {k k' : Int} {t t' r r' : List UInt8} (h : Rd.tok k t r = Rd.tok k' t' r') : k = k' ∧ t = t' ∧ r = r' := by
 injection h with h
 injection h with h1 h2
 injection h2 with h2 h3
 exact ⟨h1, h2, h3⟩
def Xc (l : List UInt8) : Rd :=
 match l with
 | [] => .bad 5
 | b :: r =>
  if Y8 b then
   if 32 < ((b :: r).takeWhile Yc).length then .bad 2
   else .tok (if Wa.contains ((b :: r).takeWhile Yc) then 2 else 1) ((b :: r).takeWhile Yc) ((b :: r).dropWhile Yc)
  else if Ye b then
   match Ww ((b :: r).takeWhile Ye) with
   | none => .bad 3
   | some _ => .tok 3 ((b :: r).takeWhile Ye) ((b :: r).dropWhile Ye)
  else if b = 34 then
   match Wv r [] with
   | none => .bad 4
   | some (said, rest) => if 256 < said.length then .bad 2 else .tok 4 said rest
  else if Y7 (b :: r) = 0 then .bad 5
  else .tok 5 ((b :: r).take (Y7 (b :: r))) ((b :: r).drop (Y7 (b :: r)))
structure Tok where
 kind : Int
 text : List UInt8
 line : Nat
 col : Nat
abbrev Lx := List Tok ⊕ (Int × Nat × Nat)
abbrev Lx.toks (l : List Tok) : Lx := .inl l
abbrev Lx.bad (e : Int) (line col : Nat) : Lx := .inr (e, line, col)
def Lx.pre (a : List Tok) : Lx → Lx
 | .inl l => .inl (a ++ l)
 | .inr b => .inr b
def Uu : Nat → List UInt8 → Nat → Nat → Nat → Lx
 | 0, _, _, _, _ => .bad 0 0 0
 | f + 1, l, li, co, n =>
  match Yy false l li co with
  | ([], li', co') => .toks [⟨0, [], li', co'⟩]
  | (b :: r, li', co') =>
   match Xc (b :: r) with
   | .inl e => .bad e li' co'
   | .inr (k, t, rest) => if n = 8192 then .bad 19 li' co' else (Uu f rest li' (co' + ((b :: r).length - rest.length)) (n + 1)).pre [⟨k, t, li', co'⟩]
def Wb (l : List UInt8) : Lx := if 65536 < l.length then .bad 2 1 1 else Uu (l.length + 1) l 1 1 0
def Tz (l : List UInt8) : Bool :=
 match l with
 | [] => false
 | b :: r => decide ((b :: r).length ≤ 32) && Y8 b && (b :: r).all Yc && !Wa.contains (b :: r)
/-! What follows of them by themselves. -/
theorem zea (a b : List Tok) (x : Lx) : (x.pre b).pre a = x.pre (a ++ b) := by
 cases x <;> simp [Lx.pre]
theorem Ov (x : Lx) : x.pre [] = x := by
 cases x <;> simp [Lx.pre]
theorem zdn (l : List UInt8) (li co : Nat) : Yy true l li co = Yy false (l.dropWhile Vi) li (co + (l.takeWhile Vi).length) := by
 induction l generalizing co with
 | nil => simp [Yy]
 | cons b r ih =>
  by_cases h : b = 10
  ·subst h
   simp [Yy, Vi, List.takeWhile, List.dropWhile]
  ·have h1 : Vi b = true := by
    simp only [Vi, Bool.not_eq_true', decide_eq_false_iff_not]
    intro h2
    exact h (UInt8.toNat_inj.1 h2)
   rw [Yy, if_neg h, ih, List.dropWhile_cons_of_pos h1, List.takeWhile_cons_of_pos h1]
   simp [Nat.add_assoc, Nat.add_comm 1]
theorem Ko (c : Bool) (l : List UInt8) (li co : Nat) : (Yy c l li co).1 <:+ l := by
 induction l generalizing c li co with
 | nil => cases c <;> simp [Yy]
 | cons b r ih =>
  cases c
  ·rw [Yy]
   split
   ·exact (ih _ _ _).trans (List.suffix_cons b r)
   split
   ·exact (ih _ _ _).trans (List.suffix_cons b r)
   split
   ·exact (ih _ _ _).trans (List.suffix_cons b r)
   ·exact List.suffix_refl _
  ·rw [Yy]
   split
   ·exact (ih _ _ _).trans (List.suffix_cons b r)
   ·exact (ih _ _ _).trans (List.suffix_cons b r)
theorem zfq (acc : List UInt8) : Wv [] acc = none := rfl
theorem A2 (r acc : List UInt8) : Wv (34 :: r) acc = some (acc, r) := by
 rw [Wv.eq_def]
 simp
theorem Dz {b : UInt8} (h : b.toNat < 32) (r acc : List UInt8) : Wv (b :: r) acc = none := by
 rw [Wv.eq_def]
 have h1 : ¬ b = 34 := fun e => by rw [e] at h; revert h; decide
 simp [h1, h]
theorem D7 (acc : List UInt8) : Wv [92] acc = none := by
 rw [Wv.eq_def]
 simp
theorem Sq {c : UInt8} (h : U5 c = none) (r acc : List UInt8) : Wv (92 :: c :: r) acc = none := by
 rw [Wv.eq_def]
 simp [h]
theorem Aw {c x : UInt8} (h : U5 c = some x) (r acc : List UInt8) : Wv (92 :: c :: r) acc = Wv r (acc ++ [x]) := by
 rw [Wv.eq_def]
 simp [h]
theorem Dq {b : UInt8} (h : ¬ b = 34) (h1 : ¬ b.toNat < 32) (h2 : ¬ b = 92) (r acc : List UInt8) : Wv (b :: r) acc = Wv r (acc ++ [b]) := by
 rw [Wv.eq_def]
 simp [h, h1, h2]
theorem Ix {P : List UInt8 → List UInt8 → Prop} (h1 : ∀ acc, P [] acc) (h2 : ∀ r acc, P (34 :: r) acc) (h3 : ∀ b r acc, b.toNat < 32 → P (b :: r) acc) (h4 : ∀ acc, P [92] acc)
  (h5 : ∀ c r acc, U5 c = none → P (92 :: c :: r) acc) (h6 : ∀ c x r acc, U5 c = some x → P r (acc ++ [x]) → P (92 :: c :: r) acc)
  (h7 : ∀ b r acc, ¬ b = 34 → ¬ b.toNat < 32 → ¬ b = 92 → P r (acc ++ [b]) → P (b :: r) acc) (l acc : List UInt8) : P l acc := by
 suffices H : ∀ n (l acc : List UInt8), l.length ≤ n → P l acc from H l.length l acc (xR)
 intro n
 induction n with
 | zero =>
  intro l acc hl
  rw [List.eq_nil_of_length_eq_zero (Nat.le_zero.1 hl)]
  exact h1 acc
 | succ n ih =>
  intro l acc hl
  match l, hl with
  | [], _ => exact h1 acc
  | b :: r, hl =>
   by_cases b1 : b = 34
   ·subst b1; exact h2 r acc
   by_cases b2 : b.toNat < 32
   ·exact h3 b r acc b2
   by_cases b3 : b = 92
   ·subst b3
    match r, hl with
    | [], _ => exact h4 acc
    | c :: r, hl =>
     cases hc : U5 c with
     | none => exact h5 c r acc hc
     | some x => exact h6 c x r acc hc (ih _ _ (by simp at hl; omega))
   ·exact h7 b r acc b1 b2 b3 (ih _ _ (by simp at hl; omega))
theorem zgv (l acc said rest : List UInt8) (h : Wv l acc = some (said, rest)) : ∃ c, l = c ++ rest ∧ c ≠ [] := by
 revert h
 refine Ix (P := fun l acc => Wv l acc = some (said, rest) → ∃ c, l = c ++ rest ∧ c ≠ []) ?_ ?_ ?_ ?_ ?_ ?_ ?_ l acc
 ·intro acc h; cases h
 ·intro r acc h
  rw [A2] at h
  injection h with h
  injection h with h1 h2
  exact ⟨[34], by simp [h2], by simp⟩
 ·intro b r acc hb h; rw [Dz hb] at h; cases h
 ·intro acc h; rw [D7] at h; cases h
 ·intro c r acc hc h; rw [Sq hc] at h; cases h
 ·intro c x r acc hc ih h
  rw [Aw hc] at h
  obtain ⟨d, rfl, _⟩ := ih h
  exact ⟨92 :: c :: d, by simp, by simp⟩
 ·intro b r acc a1 a2 a3 ih h
  rw [Dq a1 a2 a3] at h
  obtain ⟨d, rfl, _⟩ := ih h
  exact ⟨b :: d, by simp, by simp⟩
theorem L3 (l : List UInt8) : Y7 l ≤ l.length := by
 match l with
 | [] => simp [Y7]
 | [a] => simp only [Y7]; split <;> simp
 | a :: b :: r => simp only [Y7]; split <;> (try split) <;> simp
theorem Hn {l t rest : List UInt8} {k : Int} (h : Xc l = .tok k t rest) : ∃ c, l = c ++ rest ∧ c ≠ [] := by
 unfold Xc at h
 split at h
 ·cases h
 ·rename_i b r
  split at h
  ·rename_i hb
   split at h
   ·cases h
   ·obtain ⟨h1, h2, h3⟩ := Mk h
    have hn : Yc b = true := by simp [Yc, hb]
    exact ⟨(b :: r).takeWhile Yc, by rw [← h3, List.takeWhile_append_dropWhile], by rw [List.takeWhile_cons_of_pos hn]; simp⟩
  split at h
  ·rename_i hb
   split at h
   ·cases h
   ·obtain ⟨h1, h2, h3⟩ := Mk h
    exact ⟨(b :: r).takeWhile Ye, by rw [← h3, List.takeWhile_append_dropWhile], by rw [List.takeWhile_cons_of_pos hb]; simp⟩
  split at h
  ·split at h
   ·cases h
   ·rename_i said rest' hs
    split at h
    ·cases h
    ·obtain ⟨h1, h2, h3⟩ := Mk h
     subst h3
     obtain ⟨c, hc, _⟩ := zgv _ _ _ _ hs
     exact ⟨b :: c, by rw [hc]; rfl, by simp⟩
  split at h
  ·cases h
  ·rename_i h0
   obtain ⟨h1, h2, h3⟩ := Mk h
   refine ⟨(b :: r).take (Y7 (b :: r)), by rw [← h3, List.take_append_drop], ?_⟩
   intro he
   have := congrArg List.length he
   rw [List.length_take] at this
   have := L3 (b :: r)
   simp at *
   omega
end Go.Proofs.YtbnjllkkhhkkaaaGreatDoor
namespace Go.Proofs.YtbnjllkkhhkkaaaGreatDoor
open Tryz
open Go.RowKit
theorem Za {p : Prop} (h : p) : xQ p := h
theorem Vr {x y : Bool} (h : x = y) : Ending.returned (.bool x) = .returned (.bool y) := by rw [h]
theorem Px (b : UInt8) (w : World) : Calls prog 163 #[.int .u8 b.toNat] w fun e w' => e = .returned (.bool (Y8 b)) ∧ w' = w := by
 have zhr : (b.toNat < 65) ∨ (65 ≤ b.toNat ∧ b.toNat ≤ 90) ∨ (90 < b.toNat ∧ b.toNat < 95) ∨ b.toNat = 95 ∨ b.toNat = 96 ∨ (97 ≤ b.toNat ∧ b.toNat ≤ 122) ∨ 122 < b.toNat := by omega
 unfold Y8
 generalize b.toNat = n at zhr ⊢
 rcases zhr with h | ⟨h1, h2⟩ | ⟨h1, h2⟩ | rfl | rfl | ⟨h1, h2⟩ | h
 ·have e : ((n : Int) == 95) = false := by simp; omega
  go_enter func163, ntmps163
  go_wp2
  go_ret
  exact ⟨Vr (by first | rfl | (simp; done) | (simp; omega) | (rw [Bool.eq_iff_iff]; simp; omega)), rfl⟩
 ·go_enter func163, ntmps163
  go_wp2
  go_ret
  exact ⟨Vr (by first | rfl | (simp; done) | (simp; omega) | (rw [Bool.eq_iff_iff]; simp; omega)), rfl⟩
 ·have e : ((n : Int) == 95) = false := by simp; omega
  go_enter func163, ntmps163
  go_wp2
  go_ret
  exact ⟨Vr (by first | rfl | (simp; done) | (simp; omega) | (rw [Bool.eq_iff_iff]; simp; omega)), rfl⟩
 ·go_enter func163, ntmps163
  go_wp2
  go_ret
  exact ⟨rfl, rfl⟩
 ·go_enter func163, ntmps163
  go_wp2
  go_ret
  exact ⟨rfl, rfl⟩
 ·go_enter func163, ntmps163
  go_wp2
  go_ret
  exact ⟨Vr (by first | rfl | (simp; done) | (simp; omega) | (rw [Bool.eq_iff_iff]; simp; omega)), rfl⟩
 ·have e : ((n : Int) == 95) = false := by simp; omega
  go_enter func163, ntmps163
  go_wp2
  go_ret
  exact ⟨Vr (by first | rfl | (simp; done) | (simp; omega) | (rw [Bool.eq_iff_iff]; simp; omega)), rfl⟩
theorem M3 (b : UInt8) (w : World) : Calls prog 167 #[.int .u8 b.toNat] w fun e w' => e = .returned (.bool (Ye b)) ∧ w' = w := by
 have zhr : (b.toNat < 48) ∨ (48 ≤ b.toNat ∧ b.toNat ≤ 57) ∨ 57 < b.toNat := by omega
 unfold Ye
 generalize b.toNat = n at zhr ⊢
 rcases zhr with h | ⟨h1, h2⟩ | h
 all_goals
  go_enter func167, ntmps167
  go_wp2
  go_ret
  exact ⟨Vr (by first | rfl | (simp; done) | (simp; omega) | (rw [Bool.eq_iff_iff]; simp; omega)), rfl⟩
theorem Hf (b : UInt8) (w : World) : Calls prog 165 #[.int .u8 b.toNat] w fun e w' => e = .returned (.bool (Yc b)) ∧ w' = w := by
 have s := Px b
 have d := M3 b
 unfold Yc
 cases h1 : Y8 b
 ·rw [h1] at s
  have S := Za s
  have D := Za d
  clear h1 s d
  go_enter func165, ntmps165
  go_wp2_with fail
  refine (S.o _).mono ?_
  rintro e w' ⟨rfl, rfl⟩
  go_wp2_with fail
  refine (D.o _).mono ?_
  rintro e w' ⟨rfl, rfl⟩
  go_wp2
  go_ret
  exact ⟨rfl, rfl⟩
 ·rw [h1] at s
  have S := Za s
  clear h1 s d
  go_enter func165, ntmps165
  go_wp2_with fail
  refine (S.o _).mono ?_
  rintro e w' ⟨rfl, rfl⟩
  go_wp2
  go_ret
  exact ⟨rfl, rfl⟩
def Ya (s : ByteArray) (k : Nat) (p : UInt8 → Bool) : Nat := k + ((s.data.toList.drop k).takeWhile p).length
theorem Qz (s : ByteArray) (k : Nat) (p : UInt8 → Bool) (hk : k ≤ s.size) : Ya s k p ≤ s.size := by
 unfold Ya
 have h : ((s.data.toList.drop k).takeWhile p).length ≤ (s.data.toList.drop k).length := (List.takeWhile_sublist p).length_le
 rw [List.length_drop, Yp] at h
 omega
theorem Pk {s : ByteArray} {k : Nat} {p : UInt8 → Bool} (hk : k < s.size) (h : p s[k] = true) : Ya s k p = Ya s (k + 1) p := by
 unfold Ya
 rw [Y0 s k hk, List.takeWhile_cons_of_pos h, List.length_cons]
 omega
theorem M5 {s : ByteArray} {k : Nat} {p : UInt8 → Bool} (hk : k < s.size) (h : p s[k] = false) : Ya s k p = k := by
 unfold Ya
 rw [Y0 s k hk, List.takeWhile_cons_of_neg (by rw [h]; decide)]
 rfl
theorem Mw {s : ByteArray} {k : Nat} {p : UInt8 → Bool} (hk : ¬ k < s.size) : Ya s k p = k := by
 unfold Ya
 rw [List.drop_eq_nil_of_le (by rw [Yp]; omega)]
 rfl
theorem K7 (s : ByteArray) (hs : s.size ≤ 140737488351232) (k : Nat) (hk : k ≤ s.size) (w : World) :
  Calls prog 161 #[.string s, .int .i64 k, .func (.func 165) #[] #[]] w fun e w' => e = .returned (.int .i64 (Ya s k Yc)) ∧ w' = w := by
 go_enter func161, ntmps161
 go_wp2
 go_loop [7] (fun i => ∃ m : Nat, m ≤ s.size ∧ i = .int .i64 m ∧ Ya s k Yc = Ya s m Yc) (fun i => s.size - (intOf i).toNat)
 case atStart => exact ⟨k, hk, rfl, rfl⟩
 case round =>
  obtain ⟨m, hm, rfl, hrow⟩ := hrel
  have HR := Za hrow
  clear hrow
  by_cases hlt : m < s.size
  ·have hc := Hf s[m]
   have hyes := Pk (p := Yc) hlt
   have hno := M5 (p := Yc) hlt
   cases hp : Yc s[m]
   ·rw [hp] at hc
    have E := Za (hno hp)
    have HC := Za hc
    clear hyes hno hp hc
    go_wp2_with fail
    refine (HC.o _).mono ?_
    rintro e w' ⟨rfl, rfl⟩
    go_wp2
    go_ret
    rw [HR.o, E.o]
    exact ⟨rfl, rfl⟩
   ·rw [hp] at hc
    have E := Za (hyes hp)
    have HC := Za hc
    clear hyes hno hp hc
    go_wp2_with fail
    refine (HC.o _).mono ?_
    rintro e w' ⟨rfl, rfl⟩
    go_wp2
    go_round
    case rel => exact ⟨m + 1, by omega, by go_num, HR.o.trans E.o⟩
    case measure => simp [intOf]; omega
  ·go_wp2
   go_ret
   rw [HR.o, Mw hlt]
   exact ⟨rfl, rfl⟩
def Vf (i : Nat) : ByteArray := ⟨(Wa.getD i []).toArray⟩
def Words (w : World) : Prop := ∀ i, i < 25 → w.cell? ⟨4, i, none⟩ = some (.string (Vf i))
theorem Words.lt {w : World} (h : Words w) : 4 < w.heap.size := World.block_lt_of_cell? w _ (h 0 (by decide))
theorem Words.below {w w' : World} (h : Words w) (hb : Below w.heap.size w w') : Words w' := fun i hi => (hb.cell (show 4 < w.heap.size from h.lt)).trans (h i hi)
def Tq : List Value := (List.range 25).map fun i => .string (Vf i)
theorem Bn (i : Nat) (hi : i < 25) : Tq[i]? = some (.string (Vf i)) := by simp [Tq, hi]
theorem Words.range {w : World} (h : Words w) : w.rangeAt 4 0 Tq := by
 intro j v hv
 have hj : j < 25 := by
  have := (List.getElem?_eq_some_iff.1 hv).1
  simpa [Tq] using this
 rw [Bn j hj] at hv
 injection hv with hv
 rw [← hv, Nat.zero_add]
 exact h j hj
theorem J7 : (prog.info? 221).map (·.size) = some Tq.length := by kernel_rfl
def Mq (s : ByteArray) (k : Nat) : Prop := ∀ i, i < k → s ≠ Vf i
theorem Nl (s : ByteArray) : Wa.contains s.data.toList = true ↔ ∃ i, i < 25 ∧ s = Vf i := by
 rw [List.contains_iff_mem]
 constructor
 ·intro h
  obtain ⟨i, hi, e⟩ := List.mem_iff_getElem.1 h
  refine ⟨i, hi, ?_⟩
  unfold Vf
  rw [List.getD_eq_getElem?_getD, List.getElem?_eq_getElem hi, Option.getD_some, e]
 ·rintro ⟨i, hi, e⟩
  rw [e]
  unfold Vf
  rw [List.getD_eq_getElem?_getD, List.getElem?_eq_getElem (show i < Wa.length from hi), Option.getD_some]
  exact List.getElem_mem ..
theorem Qn {s t : ByteArray} : (s.toList == t.toList) = true ↔ s = t := by
 rw [ByteArray.toList_eq, ByteArray.toList_eq, beq_iff_eq]
 constructor
 ·intro h
  cases s; cases t
  simp at h
  rw [h]
 ·rintro rfl; rfl
theorem M4 {s t : ByteArray} (h : (s.toList == t.toList) = false) : s ≠ t := fun e => by
 rw [Qn.2 e] at h
 cases h
theorem Hv {A : List Value} {k : Nat} {t : ByteArray} (hk : k < 25) (h : A[k]? = some (.string t)) (w : World) :
  (Instr.index 221 (.agg A.toArray) (.int .i64 k)).run prog w = .ok (.string t) w := by
 have hu := underlying221
 have ha := isAgg9
 have hz := sizeOf9
 simp [Instr.index, asIntOf, run_underlying hu, part, ha, hz, Result.andThen, hk]
 rw [h]
 rfl
theorem Ki (s : ByteArray) (w : World) (hw : Words w) :
  Calls prog 166 #[.string s] w fun e w' => e = .returned (.bool (Wa.contains s.data.toList)) ∧ w' = w := by
 obtain ⟨b, hb⟩ := xE (Wa.contains s.data.toList)
 rw [← hb]
 have HB := Za hb
 clear hb
 have hr := Za hw.range
 obtain ⟨A, hA⟩ := xE Tq
 have hat := Bn
 have hsz := J7
 rw [← hA] at hr hat hsz
 clear hA hw
 have HA := Za hat
 clear hat
 go_enter func166, ntmps166
 go_wp2_with (refine wpList_load_mid rfl 221 (.global 4) rfl 4 0 rfl A (.array 25 9) hr.o underlying221 rfl hsz ?_)
 go_loop [6] (fun i => ∃ k : Nat, k ≤ 25 ∧ i = .int .i64 k ∧ xQ (Mq s k)) (fun i => 25 - (intOf i).toNat)
 case atStart => exact ⟨0, by omega, rfl, fun i hi => by omega⟩
 case round =>
  obtain ⟨k, hk, rfl, hno⟩ := hrel
  by_cases hlt : k < 25
  ·have hAk := HA.o k hlt
   obtain ⟨t, ht⟩ := xE (Vf k)
   rw [← ht] at hAk
   have hix := Hv hlt hAk w
   clear hAk
   have HT := Za ht
   clear ht
   cases hq : (s.toList == t.toList)
   ·have hno' : xQ (Mq s (k + 1)) := fun i hi => by
     by_cases hik : i = k
     ·subst hik; rw [← HT.o]; exact M4 hq
     ·exact hno.o i (by omega)
    go_wp2
    go_round
    case rel => exact ⟨k + 1, by omega, by go_num, hno'⟩
    case measure => simp [intOf]; omega
   ·have e : b = true := by
     rw [HB.o]
     exact (Nl s).2 ⟨k, hlt, (Qn.1 hq).trans HT.o⟩
    subst e
    go_wp2
    go_ret
    exact ⟨rfl, rfl⟩
  ·have e : b = false := by
    rw [HB.o, Bool.eq_false_iff]
    intro h
    obtain ⟨i, hi, e⟩ := (Nl s).1 h
    exact hno.o i (by omega) e
   subst e
   go_wp2
   go_ret
   exact ⟨rfl, rfl⟩
theorem Hz {S : ByteArray} (h : S.size = 0) : Tz S.data.toList = false := by
 have : S.data.toList = [] := List.eq_nil_of_length_eq_zero (by rw [Yp]; exact h)
 rw [this]
 rfl
theorem Hk {S : ByteArray} (h : 0 < S.size) : Tz S.data.toList = (decide (S.size ≤ 32) && Y8 S[0] && S.data.toList.all Yc && !Wa.contains S.data.toList) := by
 have e := Y0 S 0 h
 rw [List.drop_zero] at e
 have hl := Yp S
 rw [e] at hl
 conv => lhs; rw [e]
 rw [Tz, hl, ← e]
theorem Hr (S : ByteArray) (p : UInt8 → Bool) : (Ya S 0 p = S.size) ↔ S.data.toList.all p = true := by
 unfold Ya
 rw [List.drop_zero, ← Yp, Nat.zero_add]
 generalize S.data.toList = l
 induction l with
 | nil => simp
 | cons b r ih =>
  by_cases h : p b = true
  ·rw [List.takeWhile_cons_of_pos h]
   simp [h, ← ih]
  ·rw [List.takeWhile_cons_of_neg h]
   simp [h]
theorem Sl (S : ByteArray) (hS : S.size ≤ 140737488351232) (w : World) (hw : Words w) : Calls prog 128 #[.string S] w fun e w' => e = .returned (.bool (Tz S.data.toList)) ∧ w' = w := by
 by_cases hz : S.size = 0
 ·have he : S.toList.isEmpty = true := by rw [N4]; simp [hz]
  rw [Hz hz]
  clear hw
  go_enter func128, ntmps128
  go_wp2
  go_ret
  exact ⟨rfl, rfl⟩
 have h0 : 0 < S.size := by omega
 have he : S.toList.isEmpty = false := by rw [N4]; simp [hz]
 rw [Hk h0]
 by_cases hl : 32 < S.size
 ·have hd : decide (S.size ≤ 32) = false := by simp; omega
  rw [hd]
  clear hd hw
  go_enter func128, ntmps128
  go_wp2
  go_ret
  exact ⟨rfl, rfl⟩
 have hd : decide (S.size ≤ 32) = true := by simp; omega
 rw [hd]
 clear hd hz
 have hst := Px S[0]
 cases hb : Y8 S[0]
 ·rw [hb] at hst
  have HST := Za hst
  clear hst hb hw
  simp only [Bool.and_false, Bool.false_and]
  go_enter func128, ntmps128
  go_wp2_with fail
  refine (HST.o _).mono ?_
  rintro e w' ⟨rfl, rfl⟩
  go_wp2
  go_ret
  exact ⟨rfl, rfl⟩
 rw [hb] at hst
 have HST := Za hst
 have hrow := K7 S hS 0 (by omega)
 have hall := Hr S Yc
 have hwd := fun w h => Ki S w h
 have HW := Za hw
 obtain ⟨r, hr⟩ := xE (Ya S 0 Yc)
 rw [← hr] at hrow hall
 have HROW := Za hrow
 have hrle : r ≤ S.size := by rw [hr]; exact Qz S 0 Yc (by omega)
 clear hst hb hrow hr hw
 cases ha : S.data.toList.all Yc
 ·have hne : ((r : Int) == (S.size : Int)) = false := by
   have : r ≠ S.size := fun e => by rw [hall.1 e] at ha; cases ha
   simp
   omega
  clear hall ha hwd
  simp only [Bool.and_false, Bool.false_and]
  go_enter func128, ntmps128
  go_wp2_with fail
  refine (HST.o _).mono ?_
  rintro e w' ⟨rfl, rfl⟩
  go_wp2_with fail
  refine (HROW.o _).mono ?_
  rintro e w' ⟨rfl, rfl⟩
  go_wp2
  go_ret
  exact ⟨rfl, rfl⟩
 ·have heq : ((r : Int) == (S.size : Int)) = true := by
   have := hall.2 ha
   simp
   omega
  cases hq : Wa.contains S.data.toList
  ·rw [hq] at hwd
   have HWD := Za hwd
   clear hall ha hwd hq
   go_enter func128, ntmps128
   go_wp2_with fail
   refine (HST.o _).mono ?_
   rintro e w' ⟨rfl, rfl⟩
   go_wp2_with fail
   refine (HROW.o _).mono ?_
   rintro e w' ⟨rfl, rfl⟩
   go_wp2_with fail
   refine (HWD.o _ HW.o).mono ?_
   rintro e w' ⟨rfl, rfl⟩
   go_wp2
   go_ret
   exact ⟨rfl, rfl⟩
  ·rw [hq] at hwd
   have HWD := Za hwd
   clear hall ha hwd hq
   go_enter func128, ntmps128
   go_wp2_with fail
   refine (HST.o _).mono ?_
   rintro e w' ⟨rfl, rfl⟩
   go_wp2_with fail
   refine (HROW.o _).mono ?_
   rintro e w' ⟨rfl, rfl⟩
   go_wp2_with fail
   refine (HWD.o _ HW.o).mono ?_
   rintro e w' ⟨rfl, rfl⟩
   go_wp2
   go_ret
   exact ⟨rfl, rfl⟩
end Go.Proofs.YtbnjllkkhhkkaaaGreatDoor
namespace Go.Proofs.YtbnjllkkhhkkaaaGreatDoor
open Tryz
abbrev Ty := DataW Unit
def Z6 (k : Int) (nm : List UInt8) (ns : List (List UInt8)) (ks : List Ty) : Ty := .agg [.lit (.int .i64 k), .lit (.string nm), .agg (ns.map fun s => .lit (.string s)), .agg ks]
def Li : Ty → List UInt8
 | .lit (.string s) => s
 | _ => []
def Gj : Ty → Int
 | .agg (.lit (.int _ k) :: _) => k
 | _ => 0
def Jn : Ty → List UInt8
 | .agg (_ :: s :: _) => Li s
 | _ => []
def Au : Ty → List (List UInt8)
 | .agg (_ :: _ :: .agg l :: _) => l.map Li
 | _ => []
def Vl : Ty → List Ty
 | .agg (_ :: _ :: _ :: .agg l :: _) => l
 | _ => []
section
variable (k : Int) (nm : List UInt8) (ns : List (List UInt8)) (ks : List Ty)
theorem Fu : Au (Z6 k nm ns ks) = ns := by
 show (ns.map fun s => (DataW.lit (.string s) : Ty)).map Li = ns
 rw [List.map_map]
 exact List.map_id _
theorem Kb : Vl (Z6 k nm ns ks) = ks := rfl
end
theorem Kf {k k' : Int} {nm nm' : List UInt8} {ns ns' : List (List UInt8)} {ks ks' : List Ty} (h : Z6 k nm ns ks = Z6 k' nm' ns' ks') : k = k' ∧ nm = nm' ∧ ns = ns' ∧ ks = ks' := by
 have h1 := congrArg Gj h
 have h2 := congrArg Jn h
 have h3 := congrArg Au h
 have h4 := congrArg Vl h
 rw [Fu, Fu] at h3
 exact ⟨h1, h2, h3, h4⟩
def Yb (k : Int) : List UInt8 := if k = 0 then [97, 110, 121] else if k = 1 then [110, 117, 108, 108] else if k = 2 then [98, 111, 111, 108] else if k = 3 then [105, 110, 116] else [115, 116, 114]
section
variable {n : Nat} {b : Bool}
end
def Wl : Nat → Ty → Nat
 | 0, _ => 0
 | n + 1, D => 1 + ((Vl D).map (Wl n)).sum
def Vw : List Nat → Nat
 | [] => 0
 | a :: r => max a (Vw r)
def Xf : Nat → Ty → Nat
 | 0, _ => 0
 | n + 1, D => 1 + Vw ((Vl D).map (Xf n))
theorem P3 {l : List Nat} {a : Nat} (h : a ∈ l) : a ≤ Vw l := by
 induction l with
 | nil => cases h
 | cons b r ih =>
  rw [Vw]
  rcases List.mem_cons.1 h with rfl | h
  ·exact Nat.le_max_left ..
  ·exact Nat.le_trans (ih h) (Nat.le_max_right ..)
theorem Ld {l : List Nat} {m : Nat} (h : ∀ a ∈ l, a ≤ m) : Vw l ≤ m := by
 induction l with
 | nil => exact xZ _
 | cons b r ih =>
  rw [Vw]
  exact Nat.max_le.2 ⟨h b (xM ..), ih fun a ha => h a (xW _ ha)⟩
end Go.Proofs.YtbnjllkkhhkkaaaGreatDoor
namespace Go.Proofs.YtbnjllkkhhkkaaaGreatDoor
open Tryz
open Go.RowKit
def Ng (w : World) (a : Option Addr) (ns : List (List UInt8)) : Prop :=
 ns = [] ∨ ∃ b o, a = some ⟨b, o, none⟩ ∧ b < w.heap.size ∧ ∀ i (h : i < ns.length), w.cell? ⟨b, o + i, none⟩ = some (.string ⟨ns[i].toArray⟩)
def V5 (w : World) (b : Nat) : Prop := ∃ cs t, w.heap[b]? = some (.cells cs t (0, 0))
def Kn (w : World) (u : Bool) (T : Value → Ty → Prop) (ka : Option Addr) (ks : List Ty) : Prop :=
 ks = [] ∨ ∃ b o, ka = some ⟨b, o, none⟩ ∧ b < w.heap.size ∧ w.frozen? ⟨b, o, none⟩ = false ∧ (u = true → V5 w b) ∧ ∀ i (h : i < ks.length), ∃ c0 c1 c2 c3, w.cell? ⟨b, o + i * 4, none⟩ = some c0 ∧ w.cell? ⟨b, o + i * 4 + 1, none⟩ = some c1 ∧
   w.cell? ⟨b, o + i * 4 + 2, none⟩ = some c2 ∧ w.cell? ⟨b, o + i * 4 + 3, none⟩ = some c3 ∧ T (.agg #[c0, c1, c2, c3]) ks[i]
def Mg (w : World) (u : Bool) : Nat → Value → Ty → Prop
 | 0, _, _ => False
 | n + 1, v, D => ∃ (k : Int) (nm : ByteArray) (na : Option Addr) (nc : Nat) (ka : Option Addr) (kc : Nat) (ns : List (List UInt8)) (ks : List Ty),
  v = .agg #[.int .i64 k, .string nm, .slice na ns.length nc, .slice ka ks.length kc] ∧ D = Z6 k nm.data.toList ns ks ∧ (Lit.int .i64 k).wf = true ∧ nm.size ≤ reachBytes ∧ (∀ s ∈ ns, s.length ≤ reachBytes) ∧
  (ns.length ≤ nc ∧ ns.length ≤ reachBytes) ∧ (ks.length ≤ kc ∧ ks.length ≤ reachBytes) ∧ Ng w na ns ∧ Kn w u (fun v D => Mg w u n v D) ka ks
abbrev Bh (w : World) (u : Bool) (n : Nat) (ka : Option Addr) (ks : List Ty) : Prop := Kn w u (fun v D => Mg w u n v D) ka ks
theorem Lc {w w' : World} {a : Option Addr} {ns : List (List UInt8)} (h : Ng w a ns) (hb : Below w.heap.size w w') : Ng w' a ns := by
 rcases h with h | ⟨b, o, ha, hlt, hc⟩
 ·exact .inl h
 ·exact .inr ⟨b, o, ha, xT hlt hb.size, fun i hi => (hb.cell (p := ⟨b, o + i, none⟩) hlt).trans (hc i hi)⟩
theorem Lm {w w' : World} {b : Nat} (h : V5 w b) (hb : Below w.heap.size w w') : V5 w' b := by
 obtain ⟨cs, t, h⟩ := h
 exact ⟨cs, t, (hb.block b (xB h)).trans h⟩
theorem Ah {w w' : World} {u : Bool} {T T' : Value → Ty → Prop} {ka : Option Addr} {ks : List Ty} (hT : ∀ v D, D ∈ ks → T v D → T' v D) (h : Kn w u T ka ks) (hb : Below w.heap.size w w') : Kn w' u T' ka ks := by
 rcases h with h9 | ⟨b, o, ha, hlt, hf, hcl, hc⟩
 ·exact .inl h9
 ·refine .inr ⟨b, o, ha, xT hlt hb.size, (hb.frozen (p := ⟨b, o, none⟩) hlt).trans hf, fun hu => Lm (hcl hu) hb, fun i hi => ?_⟩
  obtain ⟨c0, c1, c2, c3, e0, e1, e2, e3, ht⟩ := hc i hi
  exact ⟨c0, c1, c2, c3, (hb.cell (p := ⟨b, o + i * 4, none⟩) hlt).trans e0, (hb.cell (p := ⟨b, o + i * 4 + 1, none⟩) hlt).trans e1, (hb.cell (p := ⟨b, o + i * 4 + 2, none⟩) hlt).trans e2,
   (hb.cell (p := ⟨b, o + i * 4 + 3, none⟩) hlt).trans e3, hT _ _ (List.getElem_mem hi) ht⟩
theorem Jt {w w' : World} {u : Bool} {n : Nat} {v : Value} {D : Ty} (h : Mg w u n v D) (hb : Below w.heap.size w w') : Mg w' u n v D := by
 induction n generalizing v D with
 | zero => exact h.elim
 | succ n ih =>
  obtain ⟨k, nm, na, nc, ka, kc, ns, ks, h1, h2, h3, h4, h5, h6, h7, h8, h9⟩ := h
  exact ⟨k, nm, na, nc, ka, kc, ns, ks, h1, h2, h3, h4, h5, h6, h7, Lc h8 hb, Ah (fun _ _ _ h => ih h) h9 hb⟩
theorem Kg {w w' : World} {u : Bool} {n : Nat} {ka : Option Addr} {ks : List Ty} (h : Bh w u n ka ks) (hb : Below w.heap.size w w') : Bh w' u n ka ks := Ah (fun _ _ _ h => Jt h hb) h hb
theorem Fs {w : World} {u : Bool} {n : Nat} {ka : Option Addr} {ks : List Ty} (h : Bh w u n ka ks) {i : Nat} (hi : i < ks.length) :
  ∃ b o k nm na nl nc la ll lc, ka = some ⟨b, o, none⟩ ∧ b < w.heap.size ∧ w.cell? ⟨b, o + i * 4, none⟩ = some (.int .i64 k) ∧ w.cell? ⟨b, o + i * 4 + 1, none⟩ = some (.string nm) ∧ w.cell? ⟨b, o + i * 4 + 2, none⟩ = some (.slice na nl nc) ∧
   w.cell? ⟨b, o + i * 4 + 3, none⟩ = some (.slice la ll lc) ∧ Mg w u n (.agg #[.int .i64 k, .string nm, .slice na nl nc, .slice la ll lc]) ks[i] := by
 rcases h with rfl | ⟨b, o, rfl, hlt, _, _, hc⟩
 ·cases hi
 ·obtain ⟨c0, c1, c2, c3, q0, q1, q2, q3, ht⟩ := hc i hi
  cases n with
  | zero => exact ht.elim
  | succ n =>
   have ht' := ht
   obtain ⟨k, nm, na, nc, ka, kc, ns, ks', h1, _⟩ := ht
   injection h1 with e
   injection e with e
   injection e with e0 e
   injection e with e1 e
   injection e with e2 e
   injection e with e3 _
   subst e0 e1 e2 e3
   exact ⟨b, o, k, nm, na, ns.length, nc, ka, ks'.length, kc, rfl, hlt, q0, q1, q2, q3, ht'⟩
theorem Bd {cs : List Value} {o : Nat} (h : cs.length = 4) (ho : o < 4) : ∃ c, (cs.drop o).take 1 = [c] ∧ cs[o]? = some c := by
 match cs, h, o, ho with
 | [a, b, c, d], _, 0, _ => exact ⟨a, rfl, rfl⟩
 | [a, b, c, d], _, 1, _ => exact ⟨b, rfl, rfl⟩
 | [a, b, c, d], _, 2, _ => exact ⟨c, rfl, rfl⟩
 | [a, b, c, d], _, 3, _ => exact ⟨d, rfl, rfl⟩
theorem Zn {w w1 w2 : World} (h : Below w.heap.size w w1) (k : Below w1.heap.size w1 w2) : Below w.heap.size w w2 := h.trans (k.mono h.size)
theorem Zl (w : World) (o : Obj) : Below w.heap.size w (w.alloc o) := (Below.refl _ w).alloc (xR) o
abbrev Zq (k : Int) (nm : ByteArray) (na : Option Addr) (nl nc : Nat) (ka : Option Addr) (kl kc : Nat) : Obj := .cells #[.int .i64 k, .string nm, .slice na nl nc, .slice ka kl kc] 36
def Uc (w : World) (lo : Nat) (a : Option Addr) (ns : List (List UInt8)) : Prop :=
 ns = [] ∨ ∃ b o, a = some ⟨b, o, none⟩ ∧ lo ≤ b ∧ b < w.heap.size ∧ ∀ i (h : i < ns.length), w.cell? ⟨b, o + i, none⟩ = some (.string ⟨ns[i].toArray⟩)
def RowF (w : World) (lo : Nat) (T : Value → Ty → Prop) (ka : Option Addr) (ks : List Ty) : Prop :=
 ks = [] ∨ ∃ b o, ka = some ⟨b, o, none⟩ ∧ lo ≤ b ∧ V5 w b ∧ ∀ i (h : i < ks.length), ∃ c0 c1 c2 c3, w.cell? ⟨b, o + i * 4, none⟩ = some c0 ∧ w.cell? ⟨b, o + i * 4 + 1, none⟩ = some c1 ∧
   w.cell? ⟨b, o + i * 4 + 2, none⟩ = some c2 ∧ w.cell? ⟨b, o + i * 4 + 3, none⟩ = some c3 ∧ T (.agg #[c0, c1, c2, c3]) ks[i]
def Uh (w : World) (lo : Nat) : Nat → Value → Ty → Prop
 | 0, _, _ => False
 | n + 1, v, D => ∃ (k : Int) (nm : ByteArray) (na : Option Addr) (nc : Nat) (ka : Option Addr) (kc : Nat) (ns : List (List UInt8)) (ks : List Ty),
  v = .agg #[.int .i64 k, .string nm, .slice na ns.length nc, .slice ka ks.length kc] ∧ D = Z6 k nm.data.toList ns ks ∧ (Lit.int .i64 k).wf = true ∧ nm.size ≤ reachBytes ∧ (∀ s ∈ ns, s.length ≤ reachBytes) ∧
  (ns.length ≤ nc ∧ ns.length ≤ reachBytes) ∧ (ks.length ≤ kc ∧ ks.length ≤ reachBytes) ∧ Uc w lo na ns ∧ RowF w lo (fun v D => Uh w lo n v D) ka ks
abbrev Xw (w : World) (lo n : Nat) (ka : Option Addr) (ks : List Ty) : Prop := RowF w lo (fun v D => Uh w lo n v D) ka ks
theorem Di {w : World} {b o : Nat} (h : V5 w b) : w.frozen? ⟨b, o, none⟩ = false := by
 obtain ⟨cs, t, h⟩ := h
 simp [World.frozen?, h]
theorem Ux {w : World} {b : Nat} (h : V5 w b) : b < w.heap.size := by
 obtain ⟨cs, t, h⟩ := h
 exact xB h
section
variable {w w' : World} {lo lo' n m : Nat} {v : Value} {D : Ty} {a ka : Option Addr} {ns : List (List UInt8)} {ks : List Ty}
theorem Uc.at (h : Uc w lo a ns) : Ng w a ns := by
 rcases h with h | ⟨b, o, e, _, hlt, hc⟩
 ·exact .inl h
 ·exact .inr ⟨b, o, e, hlt, hc⟩
theorem Kr (h : Uh w lo n v D) (hsz : w.heap.size ≤ w'.heap.size) (hk : ∀ b, lo ≤ b → b < w.heap.size → w'.heap[b]? = w.heap[b]?) : Uh w' lo n v D := by
 induction n generalizing v D with
 | zero => exact h.elim
 | succ n ih =>
  obtain ⟨k, nm, na, nc, ka, kc, ns, ks, h1, h2, h3, h4, h5, h6, h7, h8, h9⟩ := h
  refine ⟨k, nm, na, nc, ka, kc, ns, ks, h1, h2, h3, h4, h5, h6, h7, ?_, ?_⟩
  ·rcases h8 with h8 | ⟨b, o, e, hl, hlt, hc⟩
   ·exact .inl h8
   ·exact .inr ⟨b, o, e, hl, xT hlt hsz, fun i hi => (World.cell?_of_block (w := w) (a := ⟨b, o + i, none⟩) (hk b hl hlt)).trans (hc i hi)⟩
  ·rcases h9 with h9 | ⟨b, o, e, hl, hcl, hc⟩
   ·exact .inl h9
   ·have hlt := Ux hcl
    have hcl' : V5 w' b := by
     obtain ⟨cs, t, hh⟩ := hcl
     exact ⟨cs, t, (hk b hl hlt).trans hh⟩
    refine .inr ⟨b, o, e, hl, hcl', fun i hi => ?_⟩
    obtain ⟨c0, c1, c2, c3, e0, e1, e2, e3, ht⟩ := hc i hi
    have zhq : ∀ j, w'.cell? ⟨b, j, none⟩ = w.cell? ⟨b, j, none⟩ := fun j => World.cell?_of_block (w := w) (a := ⟨b, j, none⟩) (hk b hl hlt)
    exact ⟨c0, c1, c2, c3, (zhq _).trans e0, (zhq _).trans e1, (zhq _).trans e2, (zhq _).trans e3, ih ht⟩
theorem Hb (h : Uh w lo n v D) (hl : lo' ≤ lo) : Uh w lo' n v D := by
 induction n generalizing v D with
 | zero => exact h.elim
 | succ n ih =>
  obtain ⟨k, nm, na, nc, ka, kc, ns, ks, h1, h2, h3, h4, h5, h6, h7, h8, h9⟩ := h
  refine ⟨k, nm, na, nc, ka, kc, ns, ks, h1, h2, h3, h4, h5, h6, h7, ?_, ?_⟩
  ·rcases h8 with h8 | ⟨b, o, e, hb, hlt, hc⟩
   ·exact .inl h8
   ·exact .inr ⟨b, o, e, by omega, hlt, hc⟩
  ·rcases h9 with h9 | ⟨b, o, e, hb, hcl, hc⟩
   ·exact .inl h9
   ·refine .inr ⟨b, o, e, by omega, hcl, fun i hi => ?_⟩
    obtain ⟨c0, c1, c2, c3, e0, e1, e2, e3, ht⟩ := hc i hi
    exact ⟨c0, c1, c2, c3, e0, e1, e2, e3, ih ht⟩
theorem Pw (h : Uh w lo n v D) (hm : n ≤ m) : Uh w lo m v D := by
 induction n generalizing m v D with
 | zero => exact h.elim
 | succ n ih =>
  obtain ⟨m, rfl⟩ : ∃ p, m = p + 1 := ⟨m - 1, by omega⟩
  obtain ⟨k, nm, na, nc, ka, kc, ns, ks, h1, h2, h3, h4, h5, h6, h7, h8, h9⟩ := h
  refine ⟨k, nm, na, nc, ka, kc, ns, ks, h1, h2, h3, h4, h5, h6, h7, h8, ?_⟩
  rcases h9 with h9 | ⟨b, o, e, hb, hcl, hc⟩
  ·exact .inl h9
  ·refine .inr ⟨b, o, e, hb, hcl, fun i hi => ?_⟩
   obtain ⟨c0, c1, c2, c3, e0, e1, e2, e3, ht⟩ := hc i hi
   exact ⟨c0, c1, c2, c3, e0, e1, e2, e3, ih ht (by omega)⟩
theorem Rf (h : Uh w lo n v D) : ∃ (k : Int) (nm : ByteArray) (na : Option Addr) (nl nc : Nat) (ka : Option Addr) (kl kc : Nat), v = .agg #[.int .i64 k, .string nm, .slice na nl nc, .slice ka kl kc] ∧ Gj D = k := by
 cases n with
 | zero => exact h.elim
 | succ n =>
  obtain ⟨k, nm, na, nc, ka, kc, ns, ks, h1, h2, _⟩ := h
  exact ⟨k, nm, na, _, nc, ka, _, kc, h1, by rw [h2]; rfl⟩
theorem zen (h : Xw w lo n ka ks) {i : Nat} (hi : i < ks.length) :
  ∃ b o k nm na nl nc la ll lc, ka = some ⟨b, o, none⟩ ∧ b < w.heap.size ∧ w.cell? ⟨b, o + i * 4, none⟩ = some (.int .i64 k) ∧ w.cell? ⟨b, o + i * 4 + 1, none⟩ = some (.string nm) ∧ w.cell? ⟨b, o + i * 4 + 2, none⟩ = some (.slice na nl nc) ∧
   w.cell? ⟨b, o + i * 4 + 3, none⟩ = some (.slice la ll lc) ∧ Uh w lo n (.agg #[.int .i64 k, .string nm, .slice na nl nc, .slice la ll lc]) ks[i] := by
 rcases h with rfl | ⟨b, o, rfl, _, hcl, hc⟩
 ·cases hi
 ·obtain ⟨c0, c1, c2, c3, q0, q1, q2, q3, ht⟩ := hc i hi
  obtain ⟨k, nm, na, nl, nc, ka, kl, kc, e, _⟩ := Rf ht
  injection e with e
  injection e with e
  injection e with e0 e
  injection e with e1 e
  injection e with e2 e
  injection e with e3 _
  subst e0 e1 e2 e3
  exact ⟨b, o, k, nm, na, nl, nc, ka, kl, kc, rfl, Ux hcl, q0, q1, q2, q3, ht⟩
end
abbrev L2 := Int × ByteArray × Option Addr × Nat × Nat × Option Addr × Nat × Nat
def L2.list (c : L2) : List Value := [.int .i64 c.1, .string c.2.1, .slice c.2.2.1 c.2.2.2.1 c.2.2.2.2.1, .slice c.2.2.2.2.2.1 c.2.2.2.2.2.2.1 c.2.2.2.2.2.2.2]
def L2.val (c : L2) : Value := .agg c.list.toArray
abbrev zTy : Value := .agg #[.int .i64 0, .string ⟨#[]⟩, .slice none 0 0, .slice none 0 0]
theorem zem {fn : Func} {p u : Tmp} {ty : TypeId} (h : fn.results = #[.cell p ty, .tmp u]) (tmps : Array Value) {P : Program} {w : World} {g : Nat} {t : TypeId} {cs : Array Value} {fr : Nat × Nat} {fs : Array Field}
  (hp : tmps.getD p undef = .pointer (some ⟨g, 0, none⟩)) (hg : w.heap[g]? = some (.cells cs t fr))
  (hu : P.underlying ty = some (.struct fs)) (hi : (P.info? ty).map (·.size) = some cs.size) :
  (results fn tmps).run P w = .ok (.tuple #[.agg cs, tmps.getD u undef]) w := by
 have hp' : tmps[p]?.getD undef = .pointer (some ⟨g, 0, none⟩) := by simpa using hp
 simp [results, h, hp', asAddr, run_loadVar_row w g t ty cs fr _ hg hu rfl hi]
theorem Pf : (prog.info? 36).map (·.size) = some 4 := by kernel_rfl
theorem Nh : (prog.info? 36).map (fun i => (i.zero, i.size, i.bytes)) = some (some zTy, 4, 72) := by kernel_rfl
theorem B5 : (prog.info? 9).map (fun i => (i.zero, i.size, i.bytes)) = some (some (.string ⟨#[]⟩), 1, 16) := by kernel_rfl
theorem Z9 {w : World} {b o : Nat} {cs : Array Value} {u : Value} {t : TypeId} {fr : Nat × Nat} (h : w.heap[b]? = some (.cells cs t fr)) : (w.setCell ⟨b, o, none⟩ u).heap[b]? = some (.cells (cs.setIfInBounds o u) t fr) := by
 simp [World.setCell, Array.getElem?_modify, h]
theorem set4 {w : World} {b : Nat} {y0 y1 y2 y3 : Value} {t : TypeId} {fr : Nat × Nat} (h : w.heap[b]? = some (.cells #[y0, y1, y2, y3] t fr)) (x0 x1 x2 x3 : Value) :
  ((((w.setCell ⟨b, 0, none⟩ x0).setCell ⟨b, 1, none⟩ x1).setCell ⟨b, 2, none⟩ x2).setCell ⟨b, 3, none⟩ x3).heap[b]? = some (.cells #[x0, x1, x2, x3] t fr) :=
 Z9 (Z9 (Z9 (Z9 h)))
theorem Xd {B : Nat} {a w : World} {b : Nat} (h : Below B a w) (hb : B ≤ b) (x0 x1 x2 x3 : Value) : Below B a ((((w.setCell ⟨b, 0, none⟩ x0).setCell ⟨b, 1, none⟩ x1).setCell ⟨b, 2, none⟩ x2).setCell ⟨b, 3, none⟩ x3) :=
 (((h.setCell hb _).setCell hb _).setCell hb _).setCell hb _
theorem Yn {w : World} {b i : Nat} (hi : i ≠ b) (x0 x1 x2 x3 : Value) : ((((w.setCell ⟨b, 0, none⟩ x0).setCell ⟨b, 1, none⟩ x1).setCell ⟨b, 2, none⟩ x2).setCell ⟨b, 3, none⟩ x3).heap[i]? = w.heap[i]? := by
 rw [xH hi, xH hi, xH hi, xH hi]
theorem Wn (w : World) (o1 o2 : Obj) : ((w.alloc o1).alloc o2).heap[w.heap.size + 1]? = some o2 := by
 have := xL (w.alloc o1) o2
 simpa using this
theorem Zr {w1 : World} {b : Nat} {y0 y1 y2 y3 : Value} {t : TypeId} (h : w1.heap[b]? = some (.cells #[y0, y1, y2, y3] t)) :
  (w1.cell? ⟨b, 0, none⟩ = some y0 ∧ w1.cell? ⟨b, 1, none⟩ = some y1 ∧ w1.cell? ⟨b, 2, none⟩ = some y2 ∧ w1.cell? ⟨b, 3, none⟩ = some y3) ∧
  (w1.frozen? ⟨b, 0, none⟩ = false ∧ w1.frozen? ⟨b, 1, none⟩ = false ∧ w1.frozen? ⟨b, 2, none⟩ = false ∧ w1.frozen? ⟨b, 3, none⟩ = false) ∧ b < w1.heap.size := by
 refine ⟨⟨?_, ?_, ?_, ?_⟩, ⟨?_, ?_, ?_, ?_⟩, xB h⟩
 all_goals first | (rw [cell_of_row _ _ _ _ _ _ h]; rfl) | simp [World.frozen?, h]
theorem Vj (w : World) (b : Nat) (x0 x1 x2 x3 : Value) : ((((w.setCell ⟨b, 0, none⟩ x0).setCell ⟨b, 1, none⟩ x1).setCell ⟨b, 2, none⟩ x2).setCell ⟨b, 3, none⟩ x3).heap.size = w.heap.size := by simp [World.setCell]
theorem Rw (a b n : Nat) (h1 : a ≤ n) (h2 : (n : Int) ≤ b) (w : World) :
  Calls prog 155 #[.agg #[.int .i64 a, .int .i64 b], .int .i64 n] w fun e w' => e = .returned (.bool true) ∧ Below w.heap.size w w' := by
 have e1 : (a : Int) ≤ (n : Int) := by omega
 go_enter func155, ntmps155
 go_wp2_with fail
 go_ret
 exact ⟨rfl, Zl _ _⟩
theorem zhc (a : Option Addr) (c k : Nat) (w : World) : Calls prog 157 #[.slice a 0 c, .bool false, .int .i64 k] w fun e w' => e = .returned (.bool true) ∧ w' = w := by
 go_enter func157, ntmps157
 go_wp2_with fail
 go_ret
 exact ⟨rfl, rfl⟩
structure PX where
 li : Int
 co : Int
 ta : Option Addr
 tc : Nat
 na : Option Addr
 nc : Nat
abbrev Tv (k : Nat) (tx : ByteArray) (N : Nat) (pq : PX) (ka : Option Addr) (kl kc : Nat) : Value := .agg #[.int .i64 k, .string tx, .int .i64 N, .int .i64 pq.li, .int .i64 pq.co, .slice pq.ta 0 pq.tc, .slice pq.na 0 pq.nc, .slice ka kl kc]
abbrev Xl (k : Nat) (tx : ByteArray) (N : Nat) (pq : PX) (ka : Option Addr) (kl kc : Nat) : Obj := .cells #[.int .i64 k, .string tx, .int .i64 N, .int .i64 pq.li, .int .i64 pq.co, .slice pq.ta 0 pq.tc, .slice pq.na 0 pq.nc, .slice ka kl kc] 27
def Vt (k : Nat) (tx : List UInt8) (N : Nat) (ks : List Ty) : Ty := Z6 k tx (List.replicate N []) ks
def My (w : World) (b o : Nat) (k : Nat) (tx : ByteArray) (N : Nat) (pq : PX) (ka : Option Addr) (kl kc : Nat) : Prop :=
 w.cell? ⟨b, o, none⟩ = some (.int .i64 k) ∧ w.cell? ⟨b, o + 1, none⟩ = some (.string tx) ∧ w.cell? ⟨b, o + 2, none⟩ = some (.int .i64 N) ∧ w.cell? ⟨b, o + 3, none⟩ = some (.int .i64 pq.li) ∧ w.cell? ⟨b, o + 4, none⟩ = some (.int .i64 pq.co) ∧
 w.cell? ⟨b, o + 5, none⟩ = some (.slice pq.ta 0 pq.tc) ∧ w.cell? ⟨b, o + 6, none⟩ = some (.slice pq.na 0 pq.nc) ∧ w.cell? ⟨b, o + 7, none⟩ = some (.slice ka kl kc)
def NRow (w : World) (T : Nat → ByteArray → Nat → PX → Option Addr → Nat → Nat → Ty → Prop) (ka : Option Addr) (ks : List Ty) : Prop :=
 ks = [] ∨ ∃ b o, ka = some ⟨b, o, none⟩ ∧ V5 w b ∧ ∀ i (h : i < ks.length), ∃ k tx N pq la ll lc, My w b (o + i * 8) k tx N pq la ll lc ∧ T k tx N pq la ll lc ks[i]
def V4 (w : World) : Nat → Nat → ByteArray → Nat → PX → Option Addr → Nat → Nat → Ty → Prop
 | 0, _, _, _, _, _, _, _, _ => False
 | n + 1, k, tx, N, _, ka, kl, kc, D => ∃ ks : List Ty, kl = ks.length ∧ D = Vt k tx.data.toList N ks ∧ k ≤ 1000 ∧ tx.size ≤ 1000 ∧ N ≤ 1000 ∧ 0 ≤ kc ∧ ks.length ≤ 1000 ∧ NRow w (V4 w n) ka ks
abbrev Pt (w : World) (n : Nat) (ka : Option Addr) (ks : List Ty) : Prop := NRow w (V4 w n) ka ks
section
variable {w w' : World} {n m : Nat} {k : Nat} {tx : ByteArray} {N : Nat} {pq : PX} {ka : Option Addr} {kl kc : Nat} {D : Ty} {ks : List Ty}
theorem My.below {b o : Nat} (h : My w b o k tx N pq ka kl kc) (hlt : b < w.heap.size) (hb : Below w.heap.size w w') : My w' b o k tx N pq ka kl kc := by
 obtain ⟨h0, h1, h2, h3, h4, h5, h6, h7⟩ := h
 exact ⟨(hb.cell (p := ⟨b, o, none⟩) hlt).trans h0, (hb.cell (p := ⟨b, o + 1, none⟩) hlt).trans h1, (hb.cell (p := ⟨b, o + 2, none⟩) hlt).trans h2, (hb.cell (p := ⟨b, o + 3, none⟩) hlt).trans h3, (hb.cell (p := ⟨b, o + 4, none⟩) hlt).trans h4, (hb.cell (p := ⟨b, o + 5, none⟩) hlt).trans h5, (hb.cell (p := ⟨b, o + 6, none⟩) hlt).trans h6, (hb.cell (p := ⟨b, o + 7, none⟩) hlt).trans h7⟩
theorem N3 (h : V4 w n k tx N pq ka kl kc D) (hb : Below w.heap.size w w') : V4 w' n k tx N pq ka kl kc D := by
 induction n generalizing k tx N pq ka kl kc D with
 | zero => exact h.elim
 | succ n ih =>
  obtain ⟨ks, e1, e2, h1, h2, h3, h4, h5, h6⟩ := h
  refine ⟨ks, e1, e2, h1, h2, h3, h4, h5, ?_⟩
  rcases h6 with h6 | ⟨b, o, e, hcl, hc⟩
  ·exact .inl h6
  ·refine .inr ⟨b, o, e, Lm hcl hb, fun i hi => ?_⟩
   obtain ⟨k, tx, N, pq, la, ll, lc, q, ht⟩ := hc i hi
   exact ⟨k, tx, N, pq, la, ll, lc, q.below (Ux hcl) hb, ih ht⟩
theorem G1 (h : Pt w n ka ks) (hb : Below w.heap.size w w') : Pt w' n ka ks := by
 rcases h with h6 | ⟨b, o, e, hcl, hc⟩
 ·exact .inl h6
 ·refine .inr ⟨b, o, e, Lm hcl hb, fun i hi => ?_⟩
  obtain ⟨k, tx, N, pq, la, ll, lc, q, ht⟩ := hc i hi
  exact ⟨k, tx, N, pq, la, ll, lc, q.below (Ux hcl) hb, N3 ht hb⟩
theorem Hj (h : Pt w n ka ks) {i : Nat} (hi : i < ks.length) : ∃ b o k tx N pq la ll lc, ka = some ⟨b, o, none⟩ ∧ b < w.heap.size ∧ My w b (o + i * 8) k tx N pq la ll lc ∧ V4 w n k tx N pq la ll lc ks[i] := by
 rcases h with rfl | ⟨b, o, rfl, hcl, hc⟩
 ·cases hi
 ·obtain ⟨k, tx, N, pq, la, ll, lc, q, ht⟩ := hc i hi
  exact ⟨b, o, k, tx, N, pq, la, ll, lc, rfl, Ux hcl, q, ht⟩
theorem nd_det {D' : Ty} (h : V4 w n k tx N pq ka kl kc D) (h' : V4 w m k tx N pq ka kl kc D') : D = D' := by
 induction n generalizing m k tx N pq ka kl kc D D' with
 | zero => exact h.elim
 | succ n ih =>
  cases m with
  | zero => exact h'.elim
  | succ m =>
   obtain ⟨ks, e1, rfl, _, _, _, _, _, h6⟩ := h
   obtain ⟨ks', e1', rfl, _, _, _, _, _, h6'⟩ := h'
   have hl : ks.length = ks'.length := by omega
   have : ks = ks' := by
    rcases h6 with rfl | ⟨b, o, rfl, _, hc⟩
    ·exact (List.length_eq_zero_iff.1 hl.symm).symm
    ·rcases h6' with rfl | ⟨b', o', ha, _, hc'⟩
     ·exact List.length_eq_zero_iff.1 hl
     ·injection ha with ha
      injection ha with hb ho
      subst hb ho
      refine List.ext_getElem hl fun i h1 h2 => ?_
      obtain ⟨k, tx, N, pq, la, ll, lc, ⟨q0, q1, q2, q3, q4, q5, q6, q7⟩, ht⟩ := hc i h1
      obtain ⟨k', tx', N', pq', la', ll', lc', ⟨p0, p1, p2, p3, p4, p5, p6, p7⟩, ht'⟩ := hc' i h2
      have e0 := Option.some.inj (q0.symm.trans p0)
      have e1 := Option.some.inj (q1.symm.trans p1)
      have e2 := Option.some.inj (q2.symm.trans p2)
      have e3 := Option.some.inj (q3.symm.trans p3)
      have e4 := Option.some.inj (q4.symm.trans p4)
      have e5 := Option.some.inj (q5.symm.trans p5)
      have e6 := Option.some.inj (q6.symm.trans p6)
      have e7 := Option.some.inj (q7.symm.trans p7)
      injection e0 with _ e0
      injection e1 with e1
      injection e2 with _ e2
      injection e3 with _ e3
      injection e4 with _ e4
      injection e5 with e5 _ e5c
      injection e6 with e6 _ e6c
      have eP : pq = pq' := by cases pq; cases pq'; simp_all
      injection e7 with e7 e8 e9
      have e0' : k = k' := by omega
      have e2' : N = N' := by omega
      subst e0' e1 e2' eP e7 e8 e9
      exact ih ht ht'
   rw [this]
theorem Ej {ks' : List Ty} (h : Pt w n ka ks) (h' : Pt w m ka ks') (hl : ks.length = ks'.length) : ks = ks' := by
 rcases h with rfl | ⟨b, o, rfl, _, hc⟩
 ·exact (List.length_eq_zero_iff.1 hl.symm).symm
 ·rcases h' with rfl | ⟨b', o', ha, _, hc'⟩
  ·exact List.length_eq_zero_iff.1 hl
  ·injection ha with ha
   injection ha with hb ho
   subst hb ho
   refine List.ext_getElem hl fun i h1 h2 => ?_
   obtain ⟨k, tx, N, pq, la, ll, lc, ⟨q0, q1, q2, q3, q4, q5, q6, q7⟩, ht⟩ := hc i h1
   obtain ⟨k', tx', N', pq', la', ll', lc', ⟨p0, p1, p2, p3, p4, p5, p6, p7⟩, ht'⟩ := hc' i h2
   have e0 := Option.some.inj (q0.symm.trans p0)
   have e1 := Option.some.inj (q1.symm.trans p1)
   have e2 := Option.some.inj (q2.symm.trans p2)
   have e3 := Option.some.inj (q3.symm.trans p3)
   have e4 := Option.some.inj (q4.symm.trans p4)
   have e5 := Option.some.inj (q5.symm.trans p5)
   have e6 := Option.some.inj (q6.symm.trans p6)
   have e7 := Option.some.inj (q7.symm.trans p7)
   injection e0 with _ e0
   injection e1 with e1
   injection e2 with _ e2
   injection e3 with _ e3
   injection e4 with _ e4
   injection e5 with e5 _ e5c
   injection e6 with e6 _ e6c
   have eP : pq = pq' := by cases pq; cases pq'; simp_all
   injection e7 with e7 e8 e9
   have e0' : k = k' := by omega
   have e2' : N = N' := by omega
   subst e0' e1 e2' eP e7 e8 e9
   exact nd_det ht ht'
end
theorem N5 {w1 : World} {b : Nat} {k : Nat} {tx : ByteArray} {N : Nat} {pq : PX} {ka : Option Addr} {kl kc : Nat} (h : w1.heap[b]? = some (Xl k tx N pq ka kl kc)) : My w1 b 0 k tx N pq ka kl kc ∧ b < w1.heap.size := by
 refine ⟨⟨?_, ?_, ?_, ?_, ?_, ?_, ?_, ?_⟩, xB h⟩
 all_goals (rw [cell_of_row _ _ _ _ _ _ h]; rfl)
end Go.Proofs.YtbnjllkkhhkkaaaGreatDoor
