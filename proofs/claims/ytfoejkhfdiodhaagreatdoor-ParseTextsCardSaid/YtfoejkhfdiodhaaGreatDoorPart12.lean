/- Part. -/
import Derived.Defers
import Derived.Recover
import Derived.DeepKeys4
import Derived.Test.YtfoejkhfdiodhaaGreatDoorPart11
set_option maxRecDepth 100000
set_option maxHeartbeats 4000000
namespace Go.Proofs.YtfoejkhfdiodhaaGreatDoor
open Go.Proofs.Tryz
section
variable {ts : List Tok} {K E U sub : Nat -> Pr Ty} {f a : Nat} {x : Ty}
theorem Ot {s : List UInt8} (h : Zh ts a s = true) : Ze ts a s = .inl ((), a + 1) := by unfold Ze; rw [if_pos h]
theorem zF (ts : List Tok) (f : Nat) : ∀ (n m d a : Nat), 101 <= d + n -> 101 <= d + m -> Xl ts f n d a = Xl ts f m d a
 | 0, 0, _, _, _, _ => rfl
 | 0, m + 1, d, a, h1, h2 => by rw [Xl, Xl, if_pos (by omega)]
 | n + 1, 0, d, a, h1, h2 => by rw [Xl, Xl, if_pos (by omega)]
 | n + 1, m + 1, d, a, h1, h2 => by
  rw [Xl, Xl];by_cases hd : 100 <= d
  ·rw [if_pos hd, if_pos hd]
  ·rw [if_neg hd, if_neg hd]
   have e : Xl ts f n (d + 1) = Xl ts f m (d + 1) := funext fun a => zF ts f n m (d + 1) a (by omega) (by omega)
   rw [e]
theorem Qe {α β γ : Type} (r : Pr α) (p : α -> Nat -> Pr β) (q : β -> Nat -> Pr γ) : (r.go p).go q = r.go fun x a => (p x a).go q := by
 rcases r with ⟨x, a⟩ | e <;> rfl
theorem A7 (r : Pr Ty) : (r.go fun x b => .inl (x, b)) = r := by
 rcases r with ⟨x, a⟩ | e <;> rfl
theorem B0 {α β : Type} {r : Pr α} {p q : α -> Nat -> Pr β} (h : ∀ x a, p x a = q x a) : r.go p = r.go q := by
 rw [show p = q from funext fun x => funext fun a => h x a]
theorem tJ {β : Type} (G : List Ty -> Nat -> Pr β) : ((Vi ts K [58] a).go fun y b => G (if y.2 then [y.1] else []) b) = (Ve ts K a).go G := by
 unfold Vi Ve
 by_cases h : Zh ts a [58] = true
 ·rw [if_pos h, if_pos h, Qe, Qe]
  exact B0 fun _ _ => rfl
 ·rw [if_neg h, if_neg h]
  rfl
theorem let_eq (h : Zh ts a [108, 101, 116] = true) : ((Ze ts a [108, 101, 116]).go fun _ b => (Zr ts b).go fun s b => (Vi ts K [58] b).go fun y b => (Ze ts b [61]).go fun _ b => (E b).go fun v b => (Ze ts b [59]).go fun _ b => (E b).go fun r b => .inl (Zn 5 s 0 (Zk ts a).line (Zk ts a).col (if y.2 then [y.1] else []) [] [v, r], b)) = P6 ts K E U f a := by
 unfold P6
 rw [if_pos h, Ot h, Km]
 refine B0 fun s b => ?_
 exact tJ (fun t b => (Ze ts b [61]).go fun _ b => (E b).go fun v b => (Ze ts b [59]).go fun _ b => (E b).go fun r b => .inl (Zn 5 s 0 (Zk ts a).line (Zk ts a).col t [] [v, r], b))
theorem if_eq (h0 : Zh ts a [108, 101, 116] = false) (h : Zh ts a [105, 102] = true) : ((Ze ts a [105, 102]).go fun _ b => (E b).go fun c b => (Ze ts b [116, 104, 101, 110]).go fun _ b => (E b).go fun x b => (Ze ts b [101, 108, 115, 101]).go fun _ b => (E b).go fun y b => .inl (Zn 11 [] 0 (Zk ts a).line (Zk ts a).col [] [] [c, x, y], b)) = P6 ts K E U f a := by
 unfold P6
 rw [if_neg (by simp [h0]), if_pos h, Ot h, Km]
 rfl
theorem vK {β : Type} (G : List UInt8 × List Ty -> Nat -> Pr β) : ((Bp ts K a).go fun h b => (Vi ts K [58] b).go fun y b => G (h.1, h.2 :: if y.2 then [y.1] else []) b) = (Nb ts K a).go G := by
 unfold Bp Nb
 rw [Qe, Qe]
 refine B0 fun _ b => ?_
 rw [Qe, Qe]
 refine B0 fun s b => ?_
 rw [Qe, Qe]
 have h1 : ((Vi ts K [58] b).go fun x a => Pr.go (Pr.go (Ze ts a [41]) fun _ b => .inl ((s, x.1), b)) fun h b => (Vi ts K [58] b).go fun y b => G (h.1, h.2 :: if y.2 then [y.1] else []) b) =
   (Ve ts K b).go fun x a => (Ze ts a [41]).go fun _ a => (Vi ts K [58] a).go fun y b => G (s, (if x.isEmpty then [Yq 0 [] [] []] else x) ++ (if y.2 then [y.1] else [])) b := by
  unfold Vi Ve;by_cases h : Zh ts b [58] = true
  ·rw [if_pos h, if_pos h, Qe, Qe]
   refine B0 fun t c => ?_
   rw [Km, Km, Qe];rfl
  ·rw [if_neg h, if_neg h, Km, Km, Qe]
   rfl
 rw [h1]
 refine B0 fun x c => ?_
 rw [Qe]
 refine B0 fun _ c => ?_
 rw [Qe]
 exact tJ (fun y b => G (s, (if x.isEmpty then [Yq 0 [] [] []] else x) ++ y) b)
theorem fn_eq (h0 : Zh ts a [108, 101, 116] = false) (h1 : Zh ts a [105, 102] = false) (h : Zh ts a [102, 110] = true) : ((Ze ts a [102, 110]).go fun _ b => (Bp ts K b).go fun h b => (Vi ts K [58] b).go fun y b => (Ze ts b [61, 62]).go fun _ b => (E b).go fun x b => .inl (Zn 6 h.1 0 (Zk ts a).line (Zk ts a).col (h.2 :: if y.2 then [y.1] else []) [] [x], b)) = P6 ts K E U f a := by
 unfold P6
 rw [if_neg (by simp [h0]), if_neg (by simp [h1]), if_pos h, Ot h, Km]
 exact vK (fun h b => (Ze ts b [61, 62]).go fun _ b => (E b).go fun x b => .inl (Zn 6 h.1 0 (Zk ts a).line (Zk ts a).col h.2 [] [x], b))
theorem or_eq (h0 : Zh ts a [108, 101, 116] = false) (h1 : Zh ts a [105, 102] = false) (h : Zh ts a [102, 110] = false) : Dy ts K U f a = P6 ts K E U f a := by
 unfold P6
 rw [if_neg (by simp [h0]), if_neg (by simp [h1]), if_neg (by simp [h])]
theorem lO {L : List (List UInt8)} (h : (L.any fun s => Zh ts a s) = true) : L.find? (Zh ts a) = some (Zk ts a).text := by
 obtain ⟨s, hs, h2⟩ := List.any_eq_true.1 h
 obtain ⟨q, hq⟩ := Option.isSome_iff_exists.1 (List.find?_isSome.2 ⟨s, hs, h2⟩)
 rw [hq, Og (List.find?_some hq)]
theorem lN {L : List (List UInt8)} (h : (L.any fun s => Zh ts a s) = false) : L.find? (Zh ts a) = none := List.find?_eq_none.2 fun s hs => by
 have := List.any_eq_false.1 h s hs
 simpa using this
theorem tag_eq {β : Type} (G : Int -> Nat -> Pr β) : ((F2 ts a).go G) = match Us.findIdx? (Zh ts a) with
  | some i => G i (a + 1)
  | none => Wa ts 7 a := by
 unfold F2 Pm
 by_cases hk : (Zk ts a).kind = 2 ∨ (Zk ts a).kind = 5
 ·have Lt : ((Zk ts a).kind == 2 || (Zk ts a).kind == 5) = true := by rcases hk with h | h <;> simp [h]
  have e : Us.findIdx? (Zh ts a) = Us.findIdx? (· == (Zk ts a).text) := by
   congr 1
   funext s
   unfold Zh;rw [Lt, Bool.true_and, Bool.eq_iff_iff, beq_iff_eq, beq_iff_eq];exact eq_comm
  rw [if_pos hk, e, Hn]
  cases Us.findIdx? (· == (Zk ts a).text) with
  | none => rfl
  | some i =>
   simp only;rw [if_pos (Int.natCast_nonneg i)];rfl
 ·have Lt : ((Zk ts a).kind == 2 || (Zk ts a).kind == 5) = false := by simpa using hk
  have e : Us.findIdx? (Zh ts a) = none := List.findIdx?_eq_none_iff.2 fun s _ => by unfold Zh; rw [Lt, Bool.false_and]
  rw [if_neg hk, e, if_neg (by decide)];rfl
theorem wF : K5 ts K sub a = (sub a).go fun x b => Sy ts K sub x b := by
 unfold K5
 refine B0 fun x b => ?_
 unfold Sy
 cases h3 : ([[60], [60, 61], [61, 61]] : List (List UInt8)).any fun s => Zh ts b s with
 | true =>
  rw [lO h3, if_pos rfl];rfl
 | false =>
  rw [lN h3];simp only [Bool.false_eq_true, if_false];by_cases h4 : Zh ts b [105, 115] = true
  ·have h5 := Kn h4 (show ([105, 115] : List UInt8) ≠ [97, 115] by decide)
   simp only [h5, h4, Bool.false_eq_true, if_false, if_true];rw [tag_eq]
   cases Us.findIdx? (Zh ts (b + 1)) <;> rfl
  ·by_cases h5 : Zh ts b [97, 115] = true
   ·simp only [h5, h4, if_true]
    simp;rfl
   ·simp only [h5, h4]
    simp
end
end Go.Proofs.YtfoejkhfdiodhaaGreatDoor
namespace Go.Proofs.YtfoejkhfdiodhaaGreatDoor
open Go.Proofs.Tryz
open Go.RowKit
section
variable {ts : List Tok} {K E U sub : Nat -> Pr Ty} {f a : Nat} {x : Ty}
theorem sN {s : List UInt8} (h : Zh ts a s = true) : (Zk ts a).kind ≠ 3 /\ (Zk ts a).kind ≠ 4 /\ (Zk ts a).kind ≠ 1 := by
 unfold Zh at h
 simp only [Bool.and_eq_true, Bool.or_eq_true, beq_iff_eq] at h
 rcases h.1 with h | h <;> (rw [h]; decide)
theorem Mf {s s' : List UInt8} (h : Zh ts a s = true) (hn : (s == s') = false) : ¬ Zh ts a s' = true := by
 rw [Kn h (by simpa using hn)]
 simp
def Fh (ts : List Tok) (K E : Nat -> Pr Ty) (f a : Nat) : Pr Ty :=
 if Zh ts a [116, 114, 117, 101] then .inl (Zn 2 [] 1 (Yg ts a) (Yf ts a) [] [] [], a + 1)
 else if Zh ts a [102, 97, 108, 115, 101] then .inl (Zn 2 [] 0 (Yg ts a) (Yf ts a) [] [] [], a + 1)
 else if Zh ts a [110, 117, 108, 108] then .inl (Zn 3 [] 0 (Yg ts a) (Yf ts a) [] [] [], a + 1)
 else if Zh ts a [114, 101, 97, 100] then (Ze ts (a + 1) [40]).go fun _ b => (Ze ts b [41]).go fun _ b => .inl (Zn 18 [] 0 (Yg ts a) (Yf ts a) [] [] [], b)
 else if Zh ts a [112, 114, 105, 110, 116] then (Ze ts (a + 1) [40]).go fun _ b => (E b).go fun x b => (Ze ts b [41]).go fun _ b => .inl (Zn 17 [] 0 (Yg ts a) (Yf ts a) [] [] [x], b)
 else if Zh ts a [40] then (E (a + 1)).go fun x b => (Ze ts b [41]).go fun _ b => .inl (x, b)
 else if Zh ts a [123] then G0 ts E f a
 else (Zr ts a).go fun s b => if Zh ts b [91] then (Yd ts K [44] f (b + 1)).go fun l b => (Ze ts b [93]).go fun _ b => .inl (Zn 19 s 0 (Yg ts a) (Yf ts a) l [] [], b) else .inl (Zn 4 s 0 (Yg ts a) (Yf ts a) [] [] [], b)
theorem Sw {s : List UInt8} (h : Zh ts a s = true) : Qp ts K E f a = Fh ts K E f a := by
 obtain ⟨h3, h4, _⟩ := sN h
 unfold Qp Fh
 rw [if_neg (by simpa using h3), if_neg (by simpa using h4)]
theorem nZ (h : Zh ts a [116, 114, 117, 101] = true) : Qp ts K E f a = .inl (Zn 2 [] 1 (Zk ts a).line (Zk ts a).col [] [] [], a + 1) := by
 rw [Sw h, Fh, if_pos h]
 rfl
theorem nQ (h : Zh ts a [102, 97, 108, 115, 101] = true) : Qp ts K E f a = .inl (Zn 2 [] 0 (Zk ts a).line (Zk ts a).col [] [] [], a + 1) := by
 rw [Sw h, Fh, if_neg (Mf h rfl), if_pos h]
 rfl
theorem nR (h : Zh ts a [110, 117, 108, 108] = true) : Qp ts K E f a = .inl (Zn 3 [] 0 (Zk ts a).line (Zk ts a).col [] [] [], a + 1) := by
 rw [Sw h, Fh, if_neg (Mf h rfl), if_neg (Mf h rfl), if_pos h]
 rfl
theorem nV (h : Zh ts a [114, 101, 97, 100] = true) : Qp ts K E f a = (Ze ts (a + 1) [40]).go fun _ b => (Ze ts b [41]).go fun _ b => .inl (Zn 18 [] 0 (Zk ts a).line (Zk ts a).col [] [] [], b) := by
 rw [Sw h, Fh, if_neg (Mf h rfl), if_neg (Mf h rfl), if_neg (Mf h rfl), if_pos h]
 rfl
theorem nT (h : Zh ts a [112, 114, 105, 110, 116] = true) : Qp ts K E f a = ((Ze ts (a + 1) [40]).go fun _ b => (E b).go fun x b => (Ze ts b [41]).go fun _ b => .inl (x, b)).go fun x b => .inl (Zn 17 [] 0 (Zk ts a).line (Zk ts a).col [] [] [x], b) := by
 rw [Sw h, Fh, if_neg (Mf h rfl), if_neg (Mf h rfl), if_neg (Mf h rfl), if_neg (Mf h rfl), if_pos h, Qe]
 refine B0 fun _ b => ?_
 rw [Qe]
 refine B0 fun x b => ?_
 rw [Qe]
 rfl
theorem nM (h : Zh ts a [40] = true) : Qp ts K E f a = ((Ze ts a [40]).go fun _ b => (E b).go fun x b => (Ze ts b [41]).go fun _ b => .inl (x, b)).go fun x b => .inl (x, b) := by
 rw [Sw h, Fh, if_neg (Mf h rfl), if_neg (Mf h rfl), if_neg (Mf h rfl), if_neg (Mf h rfl), if_neg (Mf h rfl), if_pos h, A7, Ot h, Km]
theorem sX (ok : Yh ts) (b : Nat) : Zh ts b [58] = ((Zk ts b).kind == 5 && (Zk ts b).text == [58]) := by
 unfold Zh
 by_cases h2 : (Zk ts b).kind = 2
 ·have Zo : b < ts.length := by
   by_cases hb : b < ts.length
   ·exact hb
   ·exfalso
    unfold Zk at h2;rw [List.getD_eq_getElem?_getD, List.getElem?_eq_none (by omega)] at h2;simp at h2
  have := ok.wrd b Zo h2;rw [h2];simp [this]
 ·have e : ((Zk ts b).kind == 2) = false := by simpa using h2
  rw [e, Bool.false_or]
theorem nW (ok : Yh ts) (h : Zh ts a [123] = true) : Qp ts K E f a = (A6 ts E f (a + 1)).go fun x b => .inl (E6 (Zk ts a) x, b) := by
 rw [Sw h, Fh, if_neg (Mf h rfl), if_neg (Mf h rfl), if_neg (Mf h rfl), if_neg (Mf h rfl), if_neg (Mf h rfl), if_neg (Mf h rfl), if_pos h]
 unfold G0 A6
 by_cases h1 : Zh ts (a + 1) [125] = true
 ·rw [if_pos h1, if_pos h1, O6 h1]
  rfl
 ·rw [if_neg h1, if_neg h1, sX ok]
  by_cases h2 : ((Zk ts (a + 1)).kind == 1 && ((Zk ts (a + 1 + 1)).kind == 5 && (Zk ts (a + 1 + 1)).text == [58])) = true
  ·rw [if_pos h2, if_pos h2, Mo, if_neg h1, Qe, Qe]
   refine B0 fun l b => ?_
   rw [Qe];rfl
  ·rw [if_neg h2, if_neg h2, Qe]
   refine B0 fun x b => ?_
   rw [Qe]
   refine B0 fun _ b => ?_
   rw [Qe]
   refine B0 fun s b => ?_
   rw [Qe]
   refine B0 fun _ b => ?_
   rw [Qe]
   refine B0 fun y b => ?_
   rw [Qe];rfl
theorem nY (h3 : (M4.any fun s => Zh ts a s) = false) (hp : Zh ts a [112, 114, 105, 110, 116] = false) (hr : Zh ts a [114, 101, 97, 100] = false) (hb : Zh ts a [40] = false) (hc : Zh ts a [123] = false) : Qp ts K E f a = (Ea ts K f a).go fun x b => .inl (x, b) := by
 rw [A7]
 have hn : ∀ s ∈ M4, ¬ Zh ts a s = true := fun s hs => by
  have := List.any_eq_false.1 h3 s hs;exact this
 unfold Qp Ea
 by_cases k3 : (Zk ts a).kind = 3
 ·rw [if_pos (by simpa using k3), if_pos k3]
  rfl
 ·rw [if_neg (by simpa using k3), if_neg k3]
  by_cases k4 : (Zk ts a).kind = 4
  ·rw [if_pos (by simpa using k4), if_pos k4]
   rfl
  ·rw [if_neg (by simpa using k4), if_neg k4, if_neg (hn _ (by simp [M4])), if_neg (hn _ (by simp [M4])), if_neg (hn _ (by simp [M4])), if_neg (by simp [hr]), if_neg (by simp [hp]), if_neg (by simp [hb]), if_neg (by simp [hc])]
   unfold Zr Aj;by_cases k1 : (Zk ts a).kind = 1
   ·rw [if_pos (by simpa using k1), if_pos k1]
    rfl
   ·rw [if_neg (by simpa using k1), if_neg k1]
    rfl
theorem mC {L : List (List UInt8)} (hs : ∀ a x b, sub a = .inl (x, b) -> a <= b) : ∀ (f : Nat) (x : Ty) {a c : Nat}, a <= c -> Uw a (V3 ts L sub f x c)
 | 0, _, _, _, _ => F5 _ _
 | f + 1, x, a, c, h => by
  rw [V3]
  cases L.find? (Zh ts c) with
  | none => exact Xh h _
  | some s => exact Yp (Tc hs (by omega)) fun y b hb => mC hs f _ hb
theorem Kq {L : List (List UInt8)} (hs : ∀ a x b, sub a = .inl (x, b) -> a <= b) (f : Nat) : ∀ a x b, ((sub a).go fun x a => V3 ts L sub f x a) = .inl (x, b) -> a <= b := fun a x b h =>
 Yp (Tc hs (Nat.le_refl a)) (fun y _ hc => mC hs f y hc) x b h
theorem yQ (hK : ∀ a x b, K a = .inl (x, b) -> a <= b) (hs : ∀ a x b, sub a = .inl (x, b) -> a <= b) : ∀ a x b, K5 ts K sub a = .inl (x, b) -> a <= b := fun a x b h => by
 rw [wF] at h
 refine Yp (a := a) (Tc hs (Nat.le_refl a)) (fun y c hc => ?_) x b h
 unfold Sy
 refine Wx (Yp (Tc hs (by omega)) fun _ _ h1 => Xh h1 _) (Wx ?_ (Wx (Yp (Tc hK (by omega)) fun _ _ h1 => Xh h1 _) (Xh hc _)))
 refine Yp (r := F2 ts (c + 1)) ?_ fun _ _ h1 => Xh h1 _
 unfold F2
 exact Wx (Xh (by omega) _) (F5 _ _)
theorem Oq (hE : ∀ a x b, E a = .inl (x, b) -> a <= b) : ∀ (f : Nat) (x : Ty) {a c : Nat}, a <= c -> Uw a (Uf ts E f x c)
 | 0, _, _, _, _ => F5 _ _
 | f + 1, x, a, c, h => by
  rw [Uf];exact Wx (Yp (Tc hE (by omega)) fun _ _ h1 => Yp (Td h1 _) fun _ _ h2 => Oq hE f _ h2) (Wx (Yp (Hs (by omega)) fun _ _ h1 => Oq hE f _ h1) (Xh h _))
theorem pZ (hK : ∀ a x b, K a = .inl (x, b) -> a <= b) (hE : ∀ a x b, E a = .inl (x, b) -> a <= b) (f : Nat) : ∀ a x b, Qp ts K E f a = .inl (x, b) -> a <= b := fun a x b h => by
 have hu : Uw a (Qp ts K E f a) := by
  unfold Qp;refine Wx (Xh (by omega) _) (Wx (Xh (by omega) _) (Wx (Xh (by omega) _) (Wx (Xh (by omega) _) (Wx (Xh (by omega) _) (Wx ?_ (Wx ?_ (Wx ?_ (Wx ?_ ?_))))))))
  ·exact Yp (Td (by omega) _) fun _ _ h1 => Yp (Td h1 _) fun _ _ h2 => Xh h2 _
  ·exact Yp (Td (by omega) _) fun _ _ h1 => Yp (Tc hE h1) fun _ _ h2 => Yp (Td h2 _) fun _ _ h3 => Xh h3 _
  ·exact Yp (Tc hE (by omega)) fun _ _ h2 => Yp (Td h2 _) fun _ _ h3 => Xh h3 _
  ·unfold G0
   refine Wx (Xh (by omega) _) (Wx ?_ ?_)
   ·exact Yp (Aw (fun a x b e => mB hE (xR) x b e) f (by omega)) fun _ _ h1 => Yp (Td h1 _) fun _ _ h2 => Xh h2 _
   ·exact Yp (Tc hE (by omega)) fun _ _ h1 => Yp (Td h1 _) fun _ _ h2 => Yp (Hs h2) fun _ _ h3 => Yp (Td h3 _) fun _ _ h4 => Yp (Tc hE h4) fun _ _ h5 => Yp (Td h5 _) fun _ _ h6 => Xh h6 _
  ·exact Yp (Hs (xR)) fun _ _ h1 => Wx (Yp (Aw hK f (by omega)) fun _ _ h2 => Yp (Td h2 _) fun _ _ h3 => Xh h3 _) (Xh h1 _)
 exact hu x b h
theorem yR (hK : ∀ a x b, K a = .inl (x, b) -> a <= b) {c : Nat} (h : a <= c) : Uw a (Ve ts K c) := Wx (Yp (Tc hK (by omega)) fun _ _ h1 => Xh h1 _) (Xh h _)
theorem rU (hK : ∀ a x b, K a = .inl (x, b) -> a <= b) (hE : ∀ a x b, E a = .inl (x, b) -> a <= b) (hU : ∀ a x b, U a = .inl (x, b) -> a <= b) (f : Nat) : ∀ a x b, P6 ts K E U f a = .inl (x, b) -> a <= b := fun a x b h => by
 have hor : Uw a (Dy ts K U f a) := fun x b h => Kq (sub := Sv ts K U f) (fun a x b h => Kq (sub := K5 ts K (J7 ts U f)) (yQ hK (fun a x b h => Kq (sub := D8 ts U f) (fun a x b h => Kq (sub := As ts U f) (fun a x b h => Kq hU f a x b h) f a x b h) f a x b h)) f a x b h) f a x b h
 have hu : Uw a (P6 ts K E U f a) := by
  unfold P6;refine Wx ?_ (Wx ?_ (Wx ?_ hor))
  ·exact Yp (Hs (by omega)) fun _ _ h1 => Yp (yR hK h1) fun _ _ h2 => Yp (Td h2 _) fun _ _ h3 => Yp (Tc hE h3) fun _ _ h4 => Yp (Td h4 _) fun _ _ h5 => Yp (Tc hE h5) fun _ _ h6 => Xh h6 _
  ·exact Yp (Tc hE (by omega)) fun _ _ h1 => Yp (Td h1 _) fun _ _ h2 => Yp (Tc hE h2) fun _ _ h3 => Yp (Td h3 _) fun _ _ h4 => Yp (Tc hE h4) fun _ _ h5 => Xh h5 _
  ·refine Yp (r := Nb ts K (a + 1)) ?_ fun _ _ h1 => Yp (Td h1 _) fun _ _ h2 => Yp (Tc hE h2) fun _ _ h3 => Xh h3 _
   exact Yp (Td (by omega) _) fun _ _ h1 => Yp (Hs h1) fun _ _ h2 => Yp (yR hK h2) fun _ _ h3 => Yp (Td h3 _) fun _ _ h4 => Yp (yR hK h4) fun _ _ h5 => Xh h5 _
 exact hu x b h
theorem Sz (ts : List Tok) (f : Nat) : ∀ (n : Nat) (u : Bool) (d a : Nat) (x : Ty) (b : Nat), Wo ts f n u d a = .inl (x, b) -> a <= b
 | 0, _, _, _, _, _, h => by cases h
 | n + 1, u, d, a, x, b, h => by
  have hK : ∀ a x b, Xl ts f 101 (d + 1) a = .inl (x, b) -> a <= b := fun a x b h => Af h
  have hE := Sz ts f n false (d + 1);have hU := Sz ts f n true (d + 1);unfold Wo at h;by_cases hd : 100 <= d
  ·rw [if_pos hd] at h
   cases h
  ·rw [if_neg hd] at h
   cases u with
   | false => exact rU hK hE hU f a x b h
   | true =>
    have hu : Uw a (if Zh ts a [45] then (Wo ts f n true (d + 1) (a + 1)).go fun x b => .inl (Zn 16 [] 0 (Yg ts a) (Yf ts a) [] [] [x], b)
      else if Zh ts a [110, 111, 116] then (Wo ts f n true (d + 1) (a + 1)).go fun x b => .inl (Zn 15 [] 0 (Yg ts a) (Yf ts a) [] [] [x], b)
      else (Qp ts (Xl ts f 101 (d + 1)) (Wo ts f n false (d + 1)) f a).go fun x b => Uf ts (Wo ts f n false (d + 1)) f x b : Pr Ty) :=
     Wx (Yp (Tc hU (by omega)) fun _ _ h1 => Xh h1 _) (Wx (Yp (Tc hU (by omega)) fun _ _ h1 => Xh h1 _) (Yp (fun x b h => pZ hK hE f a x b h) fun y c hc => Oq hE f y hc))
    exact hu x b h
end
theorem atom_c (pb tb cap d : Nat) (ts : List Tok) (K E : Nat -> Pr Ty) (hK : Xg pb tb cap d ts Yb 21 K) (hE : Xg pb tb cap d ts Z4 19 E) (ok : Yh ts) (a : Nat) (w : World) (h : Ps w pb tb cap ts a d) :
  Calls prog 181 #[pP pb] w (Z7 pb tb cap ts d w Z4 (Qp ts K E ts.length a)) := by
 cases h3 : M4.any fun s => Zh ts a s with
 | true =>
  obtain ⟨s, hs, h2⟩ := List.any_eq_true.1 h3
  have Mr : s = [116, 114, 117, 101] ∨ s = [102, 97, 108, 115, 101] ∨ s = [110, 117, 108, 108] := by simpa [M4] using hs
  rcases Mr with rfl | rfl | rfl
  ·rw [nZ h2]
   exact Oy pb tb cap d a ts _ (fun w h => bV pb tb cap d ts ok a h2 w h) ok h3 w h
  ·rw [nQ h2]
   exact Oy pb tb cap d a ts _ (fun w h => bT pb tb cap d ts ok a h2 w h) ok h3 w h
  ·rw [nR h2]
   exact Oy pb tb cap d a ts _ (fun w h => bU pb tb cap d ts ok a h2 w h) ok h3 w h
 | false =>
  cases hp : Zh ts a [112, 114, 105, 110, 116] with
  | true =>
   rw [nT hp];exact nS pb tb cap d ts E hE ok a h3 hp w h
  | false =>
   cases hr : Zh ts a [114, 101, 97, 100] with
   | true =>
    rw [nV hr];exact nU pb tb cap d ts ok a h3 hp hr w h
   | false =>
    cases hb : Zh ts a [40] with
    | true =>
     rw [nM hb];exact nO pb tb cap d ts E hE ok a h3 hp hr hb w h
    | false =>
     cases hc : Zh ts a [123] with
     | true =>
      rw [nW ok hc];exact nN pb tb cap d ts E hE ok a h3 hp hr hb hc w h
     | false =>
      rw [nY h3 hp hr hb hc];exact nX pb tb cap d ts K hK ok a h3 hp hr hb hc w h
theorem nP (pb : Nat) : Mx 181 pb := fun w => Bi func181 (by kernel_rfl) (by kernel_rfl) _ w
theorem fI (pb : Nat) : Mx 180 pb := fun w => Bi func180 (by kernel_rfl) (by kernel_rfl) _ w
theorem rP (pb : Nat) : Mx 178 pb := fun w => Bi func178 (by kernel_rfl) (by kernel_rfl) _ w
theorem wL (pb : Nat) : Mx 19 pb := fun w => Bi func19 (by kernel_rfl) (by kernel_rfl) _ w
theorem bS (pb : Nat) : Mx 147 pb := fun w => Bi func147 (by kernel_rfl) (by kernel_rfl) _ w
theorem rO (pb : Nat) : Mx 179 pb := fun w => Bi func179 (by kernel_rfl) (by kernel_rfl) _ w
theorem lI (pb : Nat) : Mx 44 pb := fun w => Bi func44 (by kernel_rfl) (by kernel_rfl) _ w
theorem v8 (pb tb cap d : Nat) (ts : List Tok) (ok : Yh ts) (hd : d <= 100) : Xg pb tb cap d ts Yb 21 (Xl ts ts.length 101 d) where
 calls := fun a w h => by
  rw [zF ts ts.length 101 (101 - d) d a (by omega) (by omega)];exact zD pb tb cap ts ok (101 - d) d a w (by omega) hd h
 enters := zE pb
 up := fun _ _ _ h => Af h
theorem gR (pb tb cap d : Nat) (ts : List Tok) (K U : Nat -> Pr Ty) (hK : Xg pb tb cap d ts Yb 21 K) (hU : Xg pb tb cap d ts Z4 178 U) (ok : Yh ts) :
  Xg pb tb cap d ts Z4 84 (Dy ts K U ts.length) := by
 have h1 : Xg pb tb cap d ts Z4 175 (As ts U ts.length) := ⟨fun a w h => fT pb tb cap d ts U hU ok a w h, aS pb, fun a x b h => Kq hU.up ts.length a x b h⟩
 have h2 : Xg pb tb cap d ts Z4 167 (D8 ts U ts.length) := ⟨fun a w h => psum_c pb tb cap d ts _ h1 ok a w h, aP pb, fun a x b h => Kq h1.up ts.length a x b h⟩
 have h3 : Xg pb tb cap d ts Z4 157 (J7 ts U ts.length) := ⟨fun a w h => pcat_c pb tb cap d ts _ h2 ok a w h, bL pb, fun a x b h => Kq h2.up ts.length a x b h⟩
 have h4 : Xg pb tb cap d ts Z4 147 (K5 ts K (J7 ts U ts.length)) := ⟨fun a w h => by rw [wF]; exact cmp_c pb tb cap d ts K hK _ h3 ok a w h, bS pb, yQ hK.up h3.up⟩
 have h5 : Xg pb tb cap d ts Z4 125 (Sv ts K U ts.length) := ⟨fun a w h => pand_c pb tb cap d ts _ h4 ok a w h, nB pb, fun a x b h => Kq h4.up ts.length a x b h⟩
 exact ⟨fun a w h => por_c pb tb cap d ts _ h5 ok a w h, gQ pb, fun a x b h => Kq h5.up ts.length a x b h⟩
theorem lH (pb tb cap d : Nat) (ts : List Tok) (K E U : Nat -> Pr Ty) (hK : Xg pb tb cap d ts Yb 21 K) (hE : Xg pb tb cap d ts Z4 19 E) (hU : Xg pb tb cap d ts Z4 178 U) (ok : Yh ts) (a : Nat) (w : World) (h : Ps w pb tb cap ts a d) :
  Calls prog 44 #[pP pb] w (Z7 pb tb cap ts d w Z4 (P6 ts K E U ts.length a)) := by
 cases h0 : Zh ts a [108, 101, 116] with
 | true =>
  have := l3 pb tb cap d a ts _ (fun w h => let_c pb tb cap d ts K E hK hE ok a w h) h0 ok w h
  rwa [A7, let_eq (U := U) (f := ts.length) h0] at this
 | false =>
  cases h1 : Zh ts a [105, 102] with
  | true =>
   have := lZ pb tb cap d a ts _ (fun w h => bQ pb tb cap d ts E hE ok a w h) h0 h1 ok w h
   rwa [A7, if_eq (K := K) (U := U) (f := ts.length) h0 h1] at this
  | false =>
   cases h2 : Zh ts a [102, 110] with
   | true =>
    have := lY pb tb cap d a ts _ (fun w h => lR pb tb cap d ts K E hK hE ok a w h) h0 h1 h2 ok w h
    rwa [A7, fn_eq (U := U) (f := ts.length) h0 h1 h2] at this
   | false =>
    have := l4 pb tb cap d a ts _ (fun w h => (gR pb tb cap d ts K U hK hU ok).calls a w h) h0 h1 h2 ok w h
    rwa [A7, or_eq (E := E) h0 h1 h2] at this
theorem Ev (pb tb cap : Nat) (ts : List Tok) (ok : Yh ts) : ∀ (n d : Nat), d + n = 101 -> d <= 100 -> ∀ (a : Nat) (w : World), Ps w pb tb cap ts a d ->
  Calls prog 19 #[pP pb] w (Z7 pb tb cap ts d w Z4 (Wo ts ts.length n false d a)) /\
  Calls prog 178 #[pP pb] w (Z7 pb tb cap ts d w Z4 (Wo ts ts.length n true d a))
 | 0, d, h1, h2, _, _, _ => absurd h1 (by omega)
 | n + 1, d, h1, h2, a, w, h => by
  unfold Wo;by_cases hd : 100 <= d
  ·obtain rfl : d = 100 := by omega
   rw [if_pos hd, if_pos hd];exact ⟨wM pb tb cap 100 ts _ w (fun w1 hb => mM pb tb cap a _ ts w1 (h.below hb)) h.ltp, pY pb tb cap 100 ts _ w (fun w1 hb => mM pb tb cap a _ ts w1 (h.below hb)) h.ltp⟩
  ·rw [if_neg hd, if_neg hd]
   have hK := v8 pb tb cap (d + 1) ts ok (by omega)
   have hE : Xg pb tb cap (d + 1) ts Z4 19 (Wo ts ts.length n false (d + 1)) := ⟨fun a w h => (Ev pb tb cap ts ok n (d + 1) (by omega) (by omega) a w h).1, wL pb, fun a x b h => Sz ts ts.length n false (d + 1) a x b h⟩
   have hU : Xg pb tb cap (d + 1) ts Z4 178 (Wo ts ts.length n true (d + 1)) := ⟨fun a w h => (Ev pb tb cap ts ok n (d + 1) (by omega) (by omega) a w h).2, rP pb, fun a x b h => Sz ts ts.length n true (d + 1) a x b h⟩
   have hA : Xg pb tb cap (d + 1) ts Z4 181 (Qp ts (Xl ts ts.length 101 (d + 1)) (Wo ts ts.length n false (d + 1)) ts.length) := ⟨fun a w h => atom_c pb tb cap (d + 1) ts _ _ hK hE ok a w h, nP pb, pZ hK.up hE.up ts.length⟩
   have hP : Xg pb tb cap (d + 1) ts Z4 180 (fun a => (Qp ts (Xl ts ts.length 101 (d + 1)) (Wo ts ts.length n false (d + 1)) ts.length a).go fun x b => Uf ts (Wo ts ts.length n false (d + 1)) ts.length x b) := ⟨fun a w h => post_c pb tb cap (d + 1) ts _ hA _ hE ok a w h, fI pb, fun a x b h => Yp (a := a) (Tc hA.up (Nat.le_refl a)) (fun y c hc => Oq hE.up ts.length y hc) x b h⟩
   exact ⟨wM pb tb cap d ts _ w (fun w1 hb => mL pb tb cap a d _ ts _ (by omega) (fun w2 h2 => lH pb tb cap (d + 1) ts _ _ _ hK hE hU ok a w2 h2) (lI pb) w1 (h.below hb)) h.ltp,
    pY pb tb cap d ts _ w (fun w1 hb => mL pb tb cap a d _ ts _ (by omega) (fun w2 h2 => rN pb tb cap (d + 1) ts _ _ hU hP ok a w2 h2) (rO pb) w1 (h.below hb)) h.ltp⟩
theorem Hc (W : World) : W.drew.heap = W.heap := rfl
theorem zO (v : Value) (w : World) : (binOp .neq 20 (.iface 29 v) .nilIface).run prog w = .ok (.bool true) w := by
 kernel_rfl
theorem Ox (v : Value) (w : World) : (Instr.typeAssert (.iface 29 v) 20 29 false).run prog w = .ok v w := by kernel_rfl
theorem zP (w : World) : (binOp .neq 20 .nilIface .nilIface).run prog w = .ok (.bool false) w := by kernel_rfl
theorem bO (p q : Addr) (w : World) :
  CallsD prog 45 #[.pointer (some p), .pointer (some q)] .returning w fun e u' w' => e = .returned (.tuple #[]) /\ u' = .returning /\ w' = w := by
 have hn := zP
 refine callsD_of_wpS func45 rfl fun c₀ cs hu => ?_
 apply wpS_seq
 apply wpS_region
 simp [wpOpsS, go_sem, recoverD, hu, ntmps45, Exit.thenS]
 refine wpS_of_wp ?_
 simp only [Array.replicate, List.replicate, List.setIfInBounds_toArray, List.set_cons_zero, List.set_cons_succ, List.append_toArray, List.cons_append, List.nil_append]
 go_wp2
 cases c₀
 simp_all [bodyPostS, results, results45]
theorem wC (ab db : Nat) (li co x : Int) (older : List PanicEntry) (w : World) (y0 y1 y2 y3 x0 x1 x2 x3 : Value) (ha : w.heap[ab]? = some (.cells #[y0, y1, y2, y3] 42)) (hd : w.heap[db]? = some (.cells #[x0, x1, x2, x3] 29)) (K8 : ab ≠ db) :
  CallsD prog 45 #[.pointer (some ⟨ab, 0, none⟩), .pointer (some ⟨db, 0, none⟩)] (.panicking ({ v := .iface 29 (M6 li co x), recovered := false } :: older)) w fun e u' w' => e = .returned (.tuple #[]) /\ u' = .panicking ({ v := .iface 29 (M6 li co x), recovered := true } :: older) /\
   (w'.heap[ab]? = some Xt /\ w'.heap[db]? = some (.cells #[.int .i64 0, .int .i64 li, .int .i64 co, .int .i64 x] 29)) /\ xQ (∀ B, B <= ab -> B <= db -> Below B w w') := by
 have hn := zO
 have hta := Ox
 obtain ⟨⟨a0, a1, a2, a3⟩, ⟨z0, z1, z2, z3⟩, Lw⟩ := Z6 ha
 obtain ⟨⟨d0, d1, d2, d3⟩, ⟨g0, g1, g2, g3⟩, Jc⟩ := Z6 hd
 have HA := Za ha
 have HD := Za hd
 clear ha hd
 have hab' : ¬ db = ab := fun e => K8 e.symm
 refine callsD_of_wpS func45 rfl fun c₀ cs hu => ?_
 apply wpS_seq
 apply wpS_region
 simp [wpOpsS, go_sem, recoverD, hu, ntmps45, Exit.thenS]
 refine wpS_of_wp ?_
 simp only [Array.replicate, List.replicate, List.setIfInBounds_toArray, List.set_cons_zero, List.set_cons_succ, List.append_toArray, List.cons_append, List.nil_append]
 go_wp2
 go_region
 all_goals
  go_wp2;refine ⟨rfl, _, rfl, .tuple #[], results_none rfl _ _ _, rfl, rfl, ⟨?_, ?_⟩, fun B h1 h2 => ?_⟩
  ·rw [Hc]
   refine (xA (by rw [Mg, Mg]; exact Lw)).trans ?_;exact (Xs K8 _ _ _ _).trans (set4 HA.o _ _ _ _)
  ·rw [Hc]
   refine (xA (by rw [Mg, Mg]; exact Jc)).trans ?_;exact set4 ((Xs hab' _ _ _ _).trans HD.o) _ _ _ _
  ·exact ((V9 (V9 (Below.refl _ w) h1 _ _ _ _) h2 _ _ _ _).alloc (by rw [Mg, Mg]; omega) _).drew
end Go.Proofs.YtfoejkhfdiodhaaGreatDoor
namespace Go.Proofs.YtfoejkhfdiodhaaGreatDoor.Lx
open Go.Proofs.Tryz
theorem lexGo_end {f n li co li' co' : Nat} {l : List UInt8} (h : Vg false l li co = ([], li', co')) : B8 (f + 1) l li co n = .toks [⟨0, [], li', co'⟩] := by
 rw [B8, h]
theorem lexGo_bad {f n li co li' co' : Nat} {l r : List UInt8} {e : Int} (h : Vg false l li co = (r, li', co')) (hr : r ≠ []) (he : V4 r = .bad e) : B8 (f + 1) l li co n = .bad e li' co' := by
 cases r with
 | nil => exact absurd rfl hr
 | cons b r => rw [B8, h]; simp only; rw [he]
theorem lexGo_many {f li co li' co' : Nat} {l r t rest : List UInt8} {k : Int} (h : Vg false l li co = (r, li', co')) (hr : r ≠ []) (he : V4 r = .tok k t rest) : B8 (f + 1) l li co 8192 = .bad 19 li' co' := by
 cases r with
 | nil => exact absurd rfl hr
 | cons b r => rw [B8, h]; simp only; rw [he]; simp
theorem lexGo_tok {f n li co li' co' : Nat} {l r t rest : List UInt8} {k : Int} (h : Vg false l li co = (r, li', co')) (hr : r ≠ []) (he : V4 r = .tok k t rest) (hn : n ≠ 8192) :
  B8 (f + 1) l li co n = (B8 f rest li' (co' + (r.length - rest.length)) (n + 1)).pre [⟨k, t, li', co'⟩] := by
 cases r with
 | nil => exact absurd rfl hr
 | cons b r => rw [B8, h]; simp only; rw [he]; simp [hn]
end Go.Proofs.YtfoejkhfdiodhaaGreatDoor.Lx
namespace Go.Proofs.YtfoejkhfdiodhaaGreatDoor
open Go.Proofs.Tryz
def TsOk : List Tok -> Prop
 | [] => False
 | [t] => t.kind = 0 /\ t.text.length <= 70000
 | t :: u :: r => (t.kind ≠ 0 /\ t.text.length <= 70000 /\ (t.kind = 2 -> t.text ≠ [58])) /\ TsOk (u :: r)
theorem dH {l t rest : List UInt8} {k : Int} (hl : l.length <= 65536) (h : V4 l = .tok k t rest) : k ≠ 0 /\ t.length <= 70000 /\ (k = 2 -> t ≠ [58]) := by
 match l, h, hl with
 | [], h, _ => cases h
 | b :: r, h, hl =>
  have Vd : ∀ p : UInt8 -> Bool, ((b :: r).takeWhile p).length <= 70000 := fun p => by
   have := (List.takeWhile_sublist p (l := b :: r)).length_le;omega
  unfold V4 at h;by_cases h1 : V2 b = true
  ·simp only [h1, if_true] at h
   by_cases h2 : 32 < ((b :: r).takeWhile Y8).length
   ·rw [if_pos h2] at h; cases h
   ·rw [if_neg h2] at h
    obtain ⟨rfl, rfl, _⟩ := D5 h;by_cases hw : Tl.contains ((b :: r).takeWhile Y8) = true
    ·rw [if_pos hw]
     refine ⟨by decide, Vd _, fun _ e => ?_⟩;rw [e] at hw;exact absurd hw (by decide)
    ·rw [if_neg hw]
     exact ⟨by decide, Vd _, fun e => absurd e (by decide)⟩
  ·simp only [h1] at h
   by_cases h2 : Y9 b = true
   ·simp only [h2, if_true] at h
    cases hp : Pi ((b :: r).takeWhile Y9) with
    | none => simp [hp] at h
    | some N =>
     simp only [hp] at h
     have h' : Rd.tok 3 ((b :: r).takeWhile Y9) ((b :: r).dropWhile Y9) = Rd.tok k t rest := by simpa using h
     obtain ⟨rfl, rfl, _⟩ := D5 h';exact ⟨by decide, Vd _, fun e => absurd e (by decide)⟩
   ·simp only [h2] at h
    by_cases h3 : b = 34
    ·simp only [h3, if_true] at h
     cases hs : Pk r [] with
     | none => simp [hs] at h
     | some p =>
      obtain ⟨said, rs⟩ := p;simp only [hs] at h;by_cases h4 : 256 < said.length
      ·simp [h4] at h
      ·have h' : Rd.tok 4 said rs = Rd.tok k t rest := by simpa [h4] using h
       obtain ⟨rfl, rfl, _⟩ := D5 h';exact ⟨by decide, by omega, fun e => absurd e (by decide)⟩
    ·simp only [h3] at h
     by_cases h4 : V5 (b :: r) = 0
     ·simp [h4] at h
     ·have h' : Rd.tok 5 ((b :: r).take (V5 (b :: r))) ((b :: r).drop (V5 (b :: r))) = Rd.tok k t rest := by simpa [h4] using h
      obtain ⟨rfl, rfl, _⟩ := D5 h';refine ⟨by decide, ?_, fun e => absurd e (by decide)⟩;have := List.length_take_le (V5 (b :: r)) (b :: r);have h5 := List.length_take_le' (V5 (b :: r)) (b :: r);omega
theorem uM : ∀ (f : Nat) (l : List UInt8) (li co n : Nat) (ts : List Tok), l.length <= 65536 -> n <= 8192 -> B8 f l li co n = .inl ts -> TsOk ts /\ ts.length + n <= 8193
 | 0, _, _, _, _, _, _, _, h => by cases h
 | f + 1, l, li, co, n, ts, hl, hn, h => by
  obtain ⟨r, li', co', hs⟩ : ∃ r li' co', Vg false l li co = (r, li', co') := ⟨_, _, _, rfl⟩
  have hsuf := Oi false l li co;rw [hs] at hsuf;have Xu : r.length <= 65536 := Nat.le_trans hsuf.length_le hl;by_cases hr : r = []
  ·subst hr
   rw [Lx.lexGo_end hs] at h;injection h with h;rw [<- h];exact ⟨⟨rfl, xZ _⟩, by simp; omega⟩
  ·cases he : V4 r with
   | inl e => rw [Lx.lexGo_bad hs hr he] at h; cases h
   | inr p =>
    obtain ⟨k, t, rest⟩ := p;by_cases hn2 : n = 8192
    ·subst hn2
     rw [Lx.lexGo_many hs hr he] at h;cases h
    ·rw [Lx.lexGo_tok hs hr he hn2] at h
     have H9 : rest.length <= 65536 := by
      obtain ⟨c, hc, _⟩ := yB he;have := congrArg List.length hc;rw [List.length_append] at this;omega
     cases hg : B8 f rest li' (co' + (r.length - rest.length)) (n + 1) with
     | inr e => rw [hg] at h; cases h
     | inl ts' =>
      obtain ⟨h1, h2⟩ := uM f rest li' _ (n + 1) ts' H9 (by omega) hg;rw [hg] at h;injection h with h;rw [<- h];refine ⟨?_, by simp; omega⟩
      match ts', h1 with
      | u :: r', h1 => exact ⟨dH Xu he, h1⟩
theorem dE {l : List UInt8} {e : Int} (h : V4 l = .bad e) : e ≠ 0 := by
 match l, h with
 | [], h => injection h with h; rw [<- h]; decide
 | b :: r, h =>
  unfold V4 at h;by_cases h1 : V2 b = true
  ·simp only [h1, if_true] at h
   by_cases h2 : 32 < ((b :: r).takeWhile Y8).length
   ·rw [if_pos h2] at h; injection h with h; rw [<- h]; decide
   ·rw [if_neg h2] at h; cases h
  ·simp only [h1] at h
   by_cases h2 : Y9 b = true
   ·simp only [h2, if_true] at h
    cases hp : Pi ((b :: r).takeWhile Y9) with
    | none =>
     have h' : Rd.bad 3 = Rd.bad e := by simpa [hp] using h
     injection h' with h'; rw [<- h']; decide
    | some N => simp [hp] at h
   ·simp only [h2] at h
    by_cases h3 : b = 34
    ·simp only [h3, if_true] at h
     cases hs : Pk r [] with
     | none =>
      have h' : Rd.bad 4 = Rd.bad e := by simpa [hs] using h
      injection h' with h'; rw [<- h']; decide
     | some p =>
      obtain ⟨said, rs⟩ := p;simp only [hs] at h;by_cases h4 : 256 < said.length
      ·have h' : Rd.bad 2 = Rd.bad e := by simpa [h4] using h
       injection h' with h'; rw [<- h']; decide
      ·simp [h4] at h
    ·simp only [h3] at h
     by_cases h4 : V5 (b :: r) = 0
     ·have h' : Rd.bad 5 = Rd.bad e := by simpa [h4] using h
      injection h' with h'; rw [<- h']; decide
     ·simp [h4] at h
theorem uL : ∀ (f : Nat) (l : List UInt8) (li co n : Nat) (x : Int) (a b : Nat), l.length < f -> B8 f l li co n = .inr (x, a, b) -> x ≠ 0
 | 0, _, _, _, _, _, _, _, hf, _ => absurd hf (Nat.not_lt_zero _)
 | f + 1, l, li, co, n, x, a, b, hf, h => by
  obtain ⟨r, li', co', hs⟩ : ∃ r li' co', Vg false l li co = (r, li', co') := ⟨_, _, _, rfl⟩
  have hsuf := Oi false l li co;rw [hs] at hsuf;have Xu := hsuf.length_le;simp only at Xu;by_cases hr : r = []
  ·subst hr
   rw [Lx.lexGo_end hs] at h;cases h
  ·cases he : V4 r with
   | inl e =>
    rw [Lx.lexGo_bad hs hr he] at h;injection h with h;injection h with h;rw [<- h];exact dE he
   | inr p =>
    obtain ⟨k, t, rest⟩ := p;by_cases hn2 : n = 8192
    ·subst hn2
     rw [Lx.lexGo_many hs hr he] at h;injection h with h;injection h with h;rw [<- h]
     decide
    ·rw [Lx.lexGo_tok hs hr he hn2] at h
     cases hg : B8 f rest li' (co' + (r.length - rest.length)) (n + 1) with
     | inl ts => rw [hg] at h; cases h
     | inr e =>
      obtain ⟨x', a', b'⟩ := e;rw [hg] at h;injection h with h;injection h with h;rw [<- h]
      have Zo : rest.length < r.length := by
       obtain ⟨c, hc, Z3⟩ := yB he;have := congrArg List.length hc;rw [List.length_append] at this;have := List.length_pos_iff.2 Z3;omega
      exact uL f rest _ _ _ x' a' b' (by omega) hg
theorem Ip {l : List UInt8} {x : Int} {a b : Nat} (h : Tk l = .inr (x, a, b)) : x ≠ 0 := by
 unfold Tk at h
 by_cases hl : 65536 < l.length
 ·rw [if_pos hl] at h
  injection h with h;injection h with h;rw [<- h]
  decide
 ·rw [if_neg hl] at h
  exact uL _ l 1 1 0 x a b (xU _) h
theorem pQ : ∀ {ts : List Tok}, TsOk ts -> ∀ a (h : a < ts.length), (ts[a].kind ≠ 0 -> a + 1 < ts.length) /\ ts[a].text.length <= 70000 /\ (ts[a].kind = 2 -> ts[a].text ≠ [58])
 | [], h, _, _ => h.elim
 | [t], h, 0, _ => ⟨fun e => absurd h.1 e, h.2, fun e => by have := h.1; have e' : t.kind = 2 := e; rw [e'] at this; cases this⟩
 | t :: u :: r, h, 0, _ => ⟨fun _ => by simp, h.1.2.1, h.1.2.2⟩
 | t :: u :: r, h, a + 1, ha => by
  have := pQ h.2 a (by simpa using ha);exact ⟨fun e => by have := this.1 e; simpa using this, this.2⟩
theorem E2 {l : List UInt8} {ts : List Tok} (h : Tk l = .inl ts) : Yh ts := by
 unfold Tk at h
 by_cases hl : 65536 < l.length
 ·rw [if_pos hl] at h; cases h
 ·rw [if_neg hl] at h
  obtain ⟨h1, h2⟩ := uM _ l 1 1 0 ts (by omega) (by omega) h
  have Zd := fun a ha => pQ h1 a ha
  have Vm : ∀ a (ha : a < ts.length), Zk ts a = ts[a] := fun a ha => by
   unfold Zk;rw [List.getD_eq_getElem?_getD, List.getElem?_eq_getElem ha];rfl
  refine ⟨fun a ha hk => ?_, ?_, by omega, fun a => ?_, fun a ha hk => ?_⟩
  ·rw [Vm a ha] at hk
   exact (Zd a ha).1 hk
  ·cases ts with
   | nil => exact h1.elim
   | cons t r => simp
  ·by_cases ha : a < ts.length
   ·rw [Vm a ha]
    exact (Zd a ha).2.1
   ·unfold Zk
    rw [List.getD_eq_getElem?_getD, List.getElem?_eq_none (by omega)];simp
  ·rw [Vm a ha] at hk ⊢
   exact (Zd a ha).2.2 hk
end Go.Proofs.YtfoejkhfdiodhaaGreatDoor
namespace Go.Proofs.YtfoejkhfdiodhaaGreatDoor.Lx
open Go.Proofs.Tryz
open Go.RowKit
def Y5 (s : ByteArray) (k : Nat) (p : UInt8 -> Bool) : Nat := k + ((s.data.toList.drop k).takeWhile p).length
theorem G2 (s : ByteArray) (k : Nat) (p : UInt8 -> Bool) (hk : k <= s.size) : Y5 s k p <= s.size := by
 unfold Y5
 have h : ((s.data.toList.drop k).takeWhile p).length <= (s.data.toList.drop k).length := (List.takeWhile_sublist p).length_le
 rw [List.length_drop, Xw] at h
 omega
theorem F0 {s : ByteArray} {k : Nat} {p : UInt8 -> Bool} (hk : k < s.size) (h : p s[k] = true) : Y5 s k p = Y5 s (k + 1) p := by
 unfold Y5
 rw [Va s k hk, List.takeWhile_cons_of_pos h, List.length_cons]
 omega
theorem Ap {s : ByteArray} {k : Nat} {p : UInt8 -> Bool} (hk : k < s.size) (h : p s[k] = false) : Y5 s k p = k := by
 unfold Y5
 rw [Va s k hk, List.takeWhile_cons_of_neg (by rw [h]; decide)]
 rfl
theorem Ao {s : ByteArray} {k : Nat} {p : UInt8 -> Bool} (hk : ¬ k < s.size) : Y5 s k p = k := by
 unfold Y5
 rw [List.drop_eq_nil_of_le (by rw [Xw]; omega)]
 rfl
theorem Oc (s : ByteArray) (hs : s.size <= 140737488351232) (k : Nat) (hk : k <= s.size) (w : World) :
  Calls prog 102 #[.string s, .int .i64 k, .func (.func 106) #[] #[]] w fun e w' => e = .returned (.int .i64 (Y5 s k Y8)) /\ w' = w := by
 go_enter func102, ntmps102
 go_wp2
 go_loop [7] (fun i => ∃ m : Nat, m <= s.size /\ i = .int .i64 m /\ Y5 s k Y8 = Y5 s m Y8) (fun i => s.size - (intOf i).toNat)
 case atStart => exact ⟨k, hk, rfl, rfl⟩
 case round =>
  obtain ⟨m, hm, rfl, Yu⟩ := hrel;have HR := Za Yu;clear Yu;by_cases Zo : m < s.size
  ·have hc := zB s[m]
   have Ny := F0 (p := Y8) Zo;have Vb := Ap (p := Y8) Zo;cases hp : Y8 s[m]
   ·rw [hp] at hc
    have E := Za (Vb hp);have HC := Za hc;clear Ny Vb hp hc;go_wp2_with fail;refine (HC.o _).mono ?_;rintro e w' ⟨rfl, rfl⟩;go_wp2;go_ret;rw [HR.o, E.o];exact ⟨rfl, rfl⟩
   ·rw [hp] at hc
    have E := Za (Ny hp);have HC := Za hc;clear Ny Vb hp hc;go_wp2_with fail;refine (HC.o _).mono ?_;rintro e w' ⟨rfl, rfl⟩;go_wp2
    go_round
    case rel => exact ⟨m + 1, by omega, by go_num, HR.o.trans E.o⟩
    case measure => simp [intOf]; omega
  ·go_wp2
   go_ret;rw [HR.o, Ao Zo];exact ⟨rfl, rfl⟩
theorem dR (s : ByteArray) (hs : s.size <= 140737488351232) (k : Nat) (hk : k <= s.size) (w : World) :
  Calls prog 102 #[.string s, .int .i64 k, .func (.func 108) #[] #[]] w fun e w' => e = .returned (.int .i64 (Y5 s k Y9)) /\ w' = w := by
 go_enter func102, ntmps102
 go_wp2
 go_loop [7] (fun i => ∃ m : Nat, m <= s.size /\ i = .int .i64 m /\ Y5 s k Y9 = Y5 s m Y9) (fun i => s.size - (intOf i).toNat)
 case atStart => exact ⟨k, hk, rfl, rfl⟩
 case round =>
  obtain ⟨m, hm, rfl, Yu⟩ := hrel;have HR := Za Yu;clear Yu;by_cases Zo : m < s.size
  ·have hc := Ad s[m]
   have Ny := F0 (p := Y9) Zo;have Vb := Ap (p := Y9) Zo;cases hp : Y9 s[m]
   ·rw [hp] at hc
    have E := Za (Vb hp);have HC := Za hc;clear Ny Vb hp hc;go_wp2_with fail;refine (HC.o _).mono ?_;rintro e w' ⟨rfl, rfl⟩;go_wp2;go_ret;rw [HR.o, E.o];exact ⟨rfl, rfl⟩
   ·rw [hp] at hc
    have E := Za (Ny hp);have HC := Za hc;clear Ny Vb hp hc;go_wp2_with fail;refine (HC.o _).mono ?_;rintro e w' ⟨rfl, rfl⟩;go_wp2
    go_round
    case rel => exact ⟨m + 1, by omega, by go_num, HR.o.trans E.o⟩
    case measure => simp [intOf]; omega
  ·go_wp2
   go_ret;rw [HR.o, Ao Zo];exact ⟨rfl, rfl⟩
theorem dS (s : ByteArray) (hs : s.size <= 140737488351232) (k : Nat) (hk : k <= s.size) (w : World) :
  Calls prog 102 #[.string s, .int .i64 k, .func (.func 103) #[] #[]] w fun e w' => e = .returned (.int .i64 (Y5 s k Mc)) /\ w' = w := by
 go_enter func102, ntmps102
 go_wp2
 go_loop [7] (fun i => ∃ m : Nat, m <= s.size /\ i = .int .i64 m /\ Y5 s k Mc = Y5 s m Mc) (fun i => s.size - (intOf i).toNat)
 case atStart => exact ⟨k, hk, rfl, rfl⟩
 case round =>
  obtain ⟨m, hm, rfl, Yu⟩ := hrel;have HR := Za Yu;clear Yu;by_cases Zo : m < s.size
  ·have hc := gE s[m]
   have Ny := F0 (p := Mc) Zo;have Vb := Ap (p := Mc) Zo;cases hp : Mc s[m]
   ·rw [hp] at hc
    have E := Za (Vb hp);have HC := Za hc;clear Ny Vb hp hc;go_wp2_with fail;refine (HC.o _).mono ?_;rintro e w' ⟨rfl, rfl⟩;go_wp2;go_ret;rw [HR.o, E.o];exact ⟨rfl, rfl⟩
   ·rw [hp] at hc
    have E := Za (Ny hp);have HC := Za hc;clear Ny Vb hp hc;go_wp2_with fail;refine (HC.o _).mono ?_;rintro e w' ⟨rfl, rfl⟩;go_wp2
    go_round
    case rel => exact ⟨m + 1, by omega, by go_num, HR.o.trans E.o⟩
    case measure => simp [intOf]; omega
  ·go_wp2
   go_ret;rw [HR.o, Ao Zo];exact ⟨rfl, rfl⟩
end Go.Proofs.YtfoejkhfdiodhaaGreatDoor.Lx
namespace Go.Proofs.YtfoejkhfdiodhaaGreatDoor.Lx
open Go.Proofs.Tryz
open Go.RowKit Go.Maps
def Left (Tb : Nat) (todo : List Nat) (listed : Array Bool) : Prop := ∀ j, listed.getD j true = false ↔ (j ∈ todo ∨ j = Tb ∨ j = Tb + 1)
theorem kN {Tb : Nat} {todo : List Nat} {listed : Array Bool} (h : Left Tb todo listed) {j : Nat} (hj : j ∈ todo) : j < listed.size := by
 have := (h j).2 (.inl hj)
 rcases Nat.lt_or_ge j listed.size with h' | h'
 ·exact h'
 ·simp [h'] at this
theorem uC {listed : Array Bool} {j : Nat} (hj : listed.getD j true = false) : listed.getD j false = false := by
 rcases Nat.lt_or_ge j listed.size with h' | h'
 ·simp [h'] at hj ⊢; exact hj
 ·simp [h']
theorem kM {Tb : Nat} {todo : List Nat} {listed : Array Bool} (h : Left Tb todo listed) (hn : todo.Nodup) {i : Nat} (hi : i ∈ todo) (ht : ∀ j ∈ todo, j < Tb) : Left Tb (todo.erase i) (listed.setIfInBounds i true) := by
 intro j
 by_cases hij : i = j
 ·subst hij
  have Zo := kN h hi
  constructor
  ·intro h2
   simp [Zo] at h2
  ·rintro (h2 | h2 | h2)
   ·exact absurd h2 hn.not_mem_erase
   ·have := ht i hi; omega
   ·have := ht i hi; omega
 ·rw [getD_set_ne true hij, h j, List.mem_erase_of_ne (Ne.symm hij)]
section
variable {P : Program} {ops : Array Oper} {Q : Exit -> Act -> World -> Prop} {a : Act}
theorem eN (B t k e Tb fuel : Nat) (K : Keyed P k) (ht : P.underlying t = some (.map k e)) (I : List Nat) (X : Nat -> Value) (kl : Nat -> Lit)
  (hop : ∀ i ∈ I, i < Tb /\ ∃ o m x u, ops[i]? = some o /\ o.guard = none /\ o.dst = none /\ o.op = .insert t m x u /\ a.eval m = .map (some B) /\ a.eval x = X i /\ a.eval u = .agg #[] /\ keyOf P k (X i) = some (kl i) /\ ∀ y ∈ o.after, y.on < Tb /\ y.on ∉ I)
  (htop : ∃ o, ops[Tb]? = some o /\ ∀ j ∈ I, ∃ y ∈ o.after, y.on = j /\ Region.binds .any y = true)
  (Jf : ∃ o, ops[Tb + 1]? = some o /\ ∃ y ∈ o.after, y.on = Tb /\ Region.binds .any y = true)
  (w0 : World) (hB : w0.heap.size <= B)
  (sz : Nat) (hfin : ∀ listed w D, listed.size = sz -> Left Tb [] listed -> w.ownsMap (H := Unit) P k unitElem B (I.length + 0) D -> Below w0.heap.size w0 w -> (∀ key, Maps.has D key = true ↔ ∃ i ∈ I, kl i = key) -> wpAny P .any ops Q fuel listed a w) :
  ∀ (n m : Nat) (todo : List Nat) (listed : Array Bool) (w : World) (D : DataW Unit), todo.length = n -> listed.size = sz -> Left Tb todo listed -> todo.Nodup -> (∀ i ∈ todo, i ∈ I) ->
   w.ownsMap P k unitElem B m D -> m + n = I.length -> I.length < 100 -> Below w0.heap.size w0 w -> (∀ i ∈ I, i ∉ todo -> Maps.has D (kl i) = true) -> (∀ key, Maps.has D key = true -> ∃ i ∈ I, kl i = key) ->
   wpAny P .any ops Q (n + fuel) listed a w := by
 intro n
 induction n with
 | zero =>
  intro m todo listed w D hl hsz hL hn hI Xk hm hlen hb h1 h2;have : todo = [] := List.eq_nil_of_length_eq_zero hl;subst this;rw [Nat.zero_add]
  refine hfin listed w D hsz hL (Xk.mono (by omega)) hb fun key => ⟨h2 key, ?_⟩
  rintro ⟨i, hi, rfl⟩;exact h1 i hi (by simp)
 | succ n ih =>
  intro m todo listed w D hl hsz hL hn hI Xk hm hlen hb h1 h2;rw [show n + 1 + fuel = (n + fuel) + 1 from by omega]
  have Ac : ∀ i ∈ Region.ready .any ops listed, i ∈ todo := by
   intro i hi;obtain ⟨hf, o, ho, Ux⟩ := mem_ready.1 hi;rcases (hL i).1 hf with h | rfl | rfl
   ·exact h
   ·exfalso
    obtain ⟨o', ho', hj⟩ := htop;rw [ho] at ho';cases ho'
    cases todo with
    | nil => simp at hl
    | cons j r =>
     obtain ⟨y, hy, hon, hbi⟩ := hj j (hI j (by simp));have h3 := Ux y hy hbi;rw [hon, uC ((hL j).2 (.inl (by simp)))] at h3;cases h3
   ·exfalso
    obtain ⟨o', ho', y, hy, hon, hbi⟩ := Jf;rw [ho] at ho';cases ho'
    have h3 := Ux y hy hbi;rw [hon, uC ((hL Tb).2 (.inr (.inl rfl)))] at h3;cases h3
  refine ⟨?_, ?_⟩
  ·intro h0
   exfalso
   cases todo with
   | nil => simp at hl
   | cons j r =>
    obtain ⟨hjt, o, m', x, u, ho, _, _, _, _, _, _, _, haft⟩ := hop j (hI j (by simp))
    have hr : j ∈ Region.ready .any ops listed := by
     refine mem_ready.2 ⟨(hL j).2 (.inl (by simp)), o, ho, fun y hy _ => ?_⟩;obtain ⟨hy1, hy2⟩ := haft y hy
     have hts : Tb < listed.size := by
      have := (hL Tb).2 (.inr (.inl rfl));rcases Nat.lt_or_ge Tb listed.size with h' | h'
      ·exact h'
      ·simp [h'] at this
     have Z3 : ¬ listed.getD y.on true = false := by
      rw [hL y.on];rintro (h | h | h)
      ·exact hy2 (hI _ h)
      ·omega
      ·omega
     have hys : y.on < listed.size := by omega
     simp [hys] at Z3 ⊢;exact Z3
    rw [h0] at hr;cases hr
  ·intro i hi
   have hit := Ac i hi;obtain ⟨hjt, o, m', x, u, ho, hg, hd, hop', hem, hex, heu, Rb, _⟩ := hop i (hI i hit);obtain ⟨w', Dm, Z1, Zy⟩ := Xk.update K ht (by unfold maxLen; omega) Rb unitElem_mk;unfold wpOp;rw [ho]
   have hw : Region.wanted o (yielded ops a.tmps) = true := by simp [Region.wanted, hg]
   simp only [hw, if_true];refine .inl ?_;unfold Oper.wp;simp [execOp, hop', hem, hex, heu, Dm, Result.andThen, Oper.upon]
   have ea : a.put o.dst undef = a := by rw [hd]; rfl
   rw [ea]
   have V0 : (todo.erase i).length = n := by rw [List.length_erase_of_mem hit]; omega
   refine ih (m + 1) (todo.erase i) (listed.setIfInBounds i true) w' _ V0 (by rw [Array.size_setIfInBounds]; exact hsz) (kM hL hn hit fun j hj => (hop j (hI j hj)).1) (hn.erase i) (fun j hj => hI j (List.mem_of_mem_erase hj)) Z1 (by omega) hlen
    (hb.grown Zy (by exact hb.size) (fun j hj => by cases hj; exact hB)) ?_ ?_
   ·intro j hj hjn
    by_cases hk : kl j = kl i
    ·rw [hk]; exact has_put_same Xk.isMap (K.key Rb) _
    ·rw [has_put_other hk]
     refine h1 j hj fun hjt => hjn ?_
     rw [List.mem_erase_of_ne]
     ·exact hjt
     ·rintro rfl; exact hk rfl
   ·intro key hkey2
    by_cases hk : key = kl i
    ·exact ⟨i, hI i hit, hk.symm⟩
    ·rw [has_put_other hk] at hkey2
     exact h2 key hkey2
end
theorem uB : laidOutB prog = true := by kernel_rfl
theorem zU : Keyed prog 150 := Keyed.of_law (deep_law_laid uB (m := 2) (by omega) (of_decide_eq_true (by kernel_rfl)) (by kernel_rfl) (by rw [underlying150]))
def L2 (a b : UInt8) : Value := .agg #[.int .u8 a.toNat, .int .u8 b.toNat]
theorem gV (a b : UInt8) : ∃ kl, keyOf prog 150 (L2 a b) = some kl := by
 have hk : prog.keyType 150 = true := by kernel_rfl
 have hc : prog.cellsOf 150 = 2 := by kernel_rfl
 have hu : prog.cellsOf 5 = 1 := by kernel_rfl
 have hf : (L2 a b).formed prog 150 = true := by simp [L2, Value.formed, underlying150, hc]
 have hsz : 1 <= prog.types.size := of_decide_eq_true (by kernel_rfl)
 obtain ⟨d, hd⟩ : ∃ d, prog.types.size + 1 = d + 2 := ⟨prog.types.size - 1, by omega⟩
 have wa : (Lit.int .u8 (a.toNat : Int)).wf = true := WalkArith.wf_u8 ⟨by omega, by have := a.toNat_lt; omega⟩
 have wb : (Lit.int .u8 (b.toNat : Int)).wf = true := WalkArith.wf_u8 ⟨by omega, by have := b.toNat_lt; omega⟩
 unfold keyOf
 rw [underlying150]
 simp only [hk, hf, Bool.and_self, if_true]
 rw [hd]
 have hl : prog.keyLits (d + 2) 150 (L2 a b).cells.toList = some [.int .u8 a.toNat, .int .u8 b.toNat] := by
  simp [Program.keyLits, underlying150, underlying5, L2, Value.cells, hc, hu, wa, wb, List.range_succ]
 exact ⟨.string (keyBytes [.int .u8 a.toNat, .int .u8 b.toNat]), by rw [hl]; rfl⟩
theorem E4 (a b : UInt8) : keyOf prog 150 (L2 a b) = some ((keyOf prog 150 (L2 a b)).getD .nil) := by
 obtain ⟨kl, h⟩ := gV a b
 rw [h]
 rfl
theorem gU {a b c d : UInt8} (h : L2 a b = L2 c d) : a = c /\ b = d := by
 simp [L2] at h
 exact ⟨UInt8.toNat_inj.1 (by omega), UInt8.toNat_inj.1 (by omega)⟩
def Gc : Nat -> UInt8 × UInt8
 | 3 => (45, 62) | 6 => (61, 62) | 9 => (60, 58) | 12 => (60, 60) | 15 => (60, 61) | 18 => (62, 62) | 21 => (61, 61) | 24 => (43, 43) | _ => (0, 0)
def Dz : List Nat := [3, 6, 9, 12, 15, 18, 21, 24]
theorem gW (a b : UInt8) (D : DataW Unit) (h : ∀ key, Maps.has D key = true ↔ ∃ i ∈ Dz, (keyOf prog 150 (L2 (Gc i).1 (Gc i).2)).getD .nil = key) {kl : Lit} (hk : keyOf prog 150 (L2 a b) = some kl) : Maps.has D kl = L5.contains (a, b) := by
 rw [Bool.eq_iff_iff, h kl]
 constructor
 ·rintro ⟨i, hi, e⟩
  have h1 := E4 (Gc i).1 (Gc i).2;rw [e] at h1;obtain ⟨rfl, rfl⟩ := gU (zU.inj hk h1)
  revert hi
  exact (show ∀ i ∈ Dz, L5.contains ((Gc i).1, (Gc i).2) = true by decide) i
 ·intro hc
  have hm : (a, b) ∈ L5 := by simpa using hc
  obtain ⟨i, hi, e⟩ := (show ∀ x ∈ L5, ∃ i ∈ Dz, Gc i = x by decide) (a, b) hm;refine ⟨i, hi, ?_⟩;rw [e];exact Option.some.inj ((E4 a b).symm.trans hk)
def St (D : DataW Unit) : Prop := ∀ a b kl, keyOf prog 150 (L2 a b) = some kl -> Maps.has D kl = L5.contains (a, b)
theorem rH (w : World) : Calls prog 59 #[] w fun e w' => e = .returned (.map (some w.heap.size)) /\
  ∃ D, w'.ownsMap prog 150 unitElem w.heap.size 8 D /\ St D /\ Below w.heap.size w w' := by
 have hmm := @run_makeMap prog
 go_enter func59, ntmps59
 go_wp2
 refine wp_region_any (by kernel_rfl) ?_
 change wpAny _ _ _ _ _ _ _ (World.drew _)
 refine wpAny_take (i := 1) (v := .agg #[.int .u8 45, .int .u8 62]) rfl (by kernel_rfl) (by kernel_rfl) (by kernel_rfl) (fun _ _ _ h => h) (Or.inl ⟨by rfl, by intro w; go_simp⟩) ?_
 refine wpAny_take (i := 2) (v := .agg #[]) rfl (by kernel_rfl) (by kernel_rfl) (by kernel_rfl) (fun _ _ _ h => h) (Or.inl ⟨by rfl, by intro w; go_simp⟩) ?_
 refine wpAny_take (i := 4) (v := .agg #[.int .u8 61, .int .u8 62]) rfl (by kernel_rfl) (by kernel_rfl) (by kernel_rfl) (fun _ _ _ h => h) (Or.inl ⟨by rfl, by intro w; go_simp⟩) ?_
 refine wpAny_take (i := 5) (v := .agg #[]) rfl (by kernel_rfl) (by kernel_rfl) (by kernel_rfl) (fun _ _ _ h => h) (Or.inl ⟨by rfl, by intro w; go_simp⟩) ?_
 refine wpAny_take (i := 7) (v := .agg #[.int .u8 60, .int .u8 58]) rfl (by kernel_rfl) (by kernel_rfl) (by kernel_rfl) (fun _ _ _ h => h) (Or.inl ⟨by rfl, by intro w; go_simp⟩) ?_
 refine wpAny_take (i := 8) (v := .agg #[]) rfl (by kernel_rfl) (by kernel_rfl) (by kernel_rfl) (fun _ _ _ h => h) (Or.inl ⟨by rfl, by intro w; go_simp⟩) ?_
 refine wpAny_take (i := 10) (v := .agg #[.int .u8 60, .int .u8 60]) rfl (by kernel_rfl) (by kernel_rfl) (by kernel_rfl) (fun _ _ _ h => h) (Or.inl ⟨by rfl, by intro w; go_simp⟩) ?_
 refine wpAny_take (i := 11) (v := .agg #[]) rfl (by kernel_rfl) (by kernel_rfl) (by kernel_rfl) (fun _ _ _ h => h) (Or.inl ⟨by rfl, by intro w; go_simp⟩) ?_
 refine wpAny_take (i := 13) (v := .agg #[.int .u8 60, .int .u8 61]) rfl (by kernel_rfl) (by kernel_rfl) (by kernel_rfl) (fun _ _ _ h => h) (Or.inl ⟨by rfl, by intro w; go_simp⟩) ?_
 refine wpAny_take (i := 14) (v := .agg #[]) rfl (by kernel_rfl) (by kernel_rfl) (by kernel_rfl) (fun _ _ _ h => h) (Or.inl ⟨by rfl, by intro w; go_simp⟩) ?_
 refine wpAny_take (i := 16) (v := .agg #[.int .u8 62, .int .u8 62]) rfl (by kernel_rfl) (by kernel_rfl) (by kernel_rfl) (fun _ _ _ h => h) (Or.inl ⟨by rfl, by intro w; go_simp⟩) ?_
 refine wpAny_take (i := 17) (v := .agg #[]) rfl (by kernel_rfl) (by kernel_rfl) (by kernel_rfl) (fun _ _ _ h => h) (Or.inl ⟨by rfl, by intro w; go_simp⟩) ?_
 refine wpAny_take (i := 19) (v := .agg #[.int .u8 61, .int .u8 61]) rfl (by kernel_rfl) (by kernel_rfl) (by kernel_rfl) (fun _ _ _ h => h) (Or.inl ⟨by rfl, by intro w; go_simp⟩) ?_
 refine wpAny_take (i := 20) (v := .agg #[]) rfl (by kernel_rfl) (by kernel_rfl) (by kernel_rfl) (fun _ _ _ h => h) (Or.inl ⟨by rfl, by intro w; go_simp⟩) ?_
 refine wpAny_take (i := 22) (v := .agg #[.int .u8 43, .int .u8 43]) rfl (by kernel_rfl) (by kernel_rfl) (by kernel_rfl) (fun _ _ _ h => h) (Or.inl ⟨by rfl, by intro w; go_simp⟩) ?_
 refine wpAny_take (i := 23) (v := .agg #[]) rfl (by kernel_rfl) (by kernel_rfl) (by kernel_rfl) (fun _ _ _ h => h) (Or.inl ⟨by rfl, by intro w; go_simp⟩) ?_
 refine wpAny_ready (rs := [0]) (by kernel_rfl) (by simp) ?_
 refine AllReady.cons rfl (fun K hK => ?_) AllReady.nil
 go_simp
 refine hK _ _ ?_
 clear hK K
 refine eN w.heap.size 106 150 151 25 2 zU underlying106 Dz (fun i => L2 (Gc i).1 (Gc i).2) (fun i => (keyOf prog 150 (L2 (Gc i).1 (Gc i).2)).getD .nil)
  ?hop ⟨_, rfl, ?ht⟩ ⟨_, rfl, ?hn⟩ w (xR) 27 ?fin 8 0 Dz _ _ (.map []) rfl rfl ?left (by decide) (fun _ h => h) (World.ownsMap_made w.drew _ _ _) rfl (by decide) ?below (fun i hi hn => absurd hi hn) (fun key h => by cases h)
 case hop =>
  intro i hi;simp only [Dz, List.mem_cons, List.not_mem_nil, or_false] at hi;rcases hi with rfl | rfl | rfl | rfl | rfl | rfl | rfl | rfl
  all_goals exact ⟨by omega, _, _, _, _, rfl, rfl, rfl, rfl, rfl, rfl, rfl, E4 _ _, by decide⟩
 case ht => decide
 case hn => exact ⟨{ on := 25, ground := .data }, by simp, rfl, rfl⟩
 case left =>
  intro j;by_cases hj : j < 27
  ·revert j
   decide
  ·have h1 : j ≠ 25 /\ j ≠ 26 := by omega
   have h2 : j ∉ Dz := by
    intro h;have := (show ∀ i ∈ Dz, i < 27 by decide) j h;omega
   constructor
   ·intro h
    simp [hj] at h
   ·rintro (h | h | h)
    ·exact absurd h h2
    ·exact absurd h h1.1
    ·exact absurd h h1.2
 case below => exact (Below.refl _ w).drew.alloc (xR) _
 case fin =>
  intro listed w1 D hsz hL Xk hb hD
  have hlit : listed = #[true, true, true, true, true, true, true, true, true, true, true, true, true, true, true, true, true, true, true, true, true, true, true, true, true, false, false] := by
   apply Array.ext
   ·rw [hsz]; rfl
   ·intro j h1 h2
    have hj : j < 27 := by omega
    have e1 : listed.getD j true = listed[j] := by simp [h1]
    have e2 := hL j;rw [e1] at e2
    have e3 : ∀ j (h : j < 27), (#[true, true, true, true, true, true, true, true, true, true, true, true, true, true, true, true, true, true, true, true, true, true, true, true, true, false, false] : Array Bool)[j] = false ↔ (j = 25 ∨ j = 26) := by decide
    rw [Bool.eq_iff_iff, <- Bool.not_eq_false, <- Bool.not_eq_false, e2, e3 j hj];simp
  subst hlit
  have hP : St D := fun a b kl hk => gW a b D hD hk
  refine wpAny_ready (rs := [25]) (by kernel_rfl) (by simp) ?_;refine AllReady.cons rfl (fun K hK => ?_) AllReady.nil
  go_simp
  refine hK _ _ ?_;clear hK K;refine wpAny_ready (rs := [26]) (by kernel_rfl) (by simp) ?_;refine AllReady.cons rfl (fun K hK => ?_) AllReady.nil
  go_simp
  refine hK _ _ ?_;clear hK K;refine wpAny_done (by kernel_rfl) ?_ _;go_wp2;go_ret;exact ⟨rfl, D, Xk, hP, hb⟩
end Go.Proofs.YtfoejkhfdiodhaaGreatDoor.Lx
