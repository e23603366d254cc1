/- Part. -/
import Derived.Defers
import Derived.Recover
import Derived.DeepKeys4
import Derived.Test.YtbnjllkkhhkkaaaGreatDoorPart11
set_option maxRecDepth 100000
set_option maxHeartbeats 4000000
namespace Go.Proofs.YtbnjllkkhhkkaaaGreatDoor
open Tryz
section
variable {ts : List Tok} {K E U sub : Nat → Pr Ty} {f a : Nat} {x : Ty}
theorem Lq {s : List UInt8} (h : Zc ts a s = true) : Zb ts a s = .inl ((), a + 1) := by unfold Zb; rw [if_pos h]
theorem Jl (ts : List Tok) (f : Nat) : ∀ (n m d a : Nat), 101 ≤ d + n → 101 ≤ d + m → Yk ts f n d a = Yk ts f m d a
 | 0, 0, _, _, _, _ => rfl
 | 0, m + 1, d, a, h1, h2 => by rw [Yk, Yk, if_pos (by omega)]
 | n + 1, 0, d, a, h1, h2 => by rw [Yk, Yk, if_pos (by omega)]
 | n + 1, m + 1, d, a, h1, h2 => by
  rw [Yk, Yk]
  by_cases hd : 100 ≤ d
  ·rw [if_pos hd, if_pos hd]
  ·rw [if_neg hd, if_neg hd]
   have e : Yk ts f n (d + 1) = Yk ts f m (d + 1) := funext fun a => Jl ts f n m (d + 1) a (by omega) (by omega)
   rw [e]
theorem Wh {α β γ : Type} (r : Pr α) (p : α → Nat → Pr β) (q : β → Nat → Pr γ) : (r.go p).go q = r.go fun x a => (p x a).go q := by
 rcases r with ⟨x, a⟩ | e <;> rfl
theorem Bl (r : Pr Ty) : (r.go fun x b => .inl (x, b)) = r := by
 rcases r with ⟨x, a⟩ | e <;> rfl
theorem Uk {α β : Type} {r : Pr α} {p q : α → Nat → Pr β} (h : ∀ x a, p x a = q x a) : r.go p = r.go q := by
 rw [show p = q from funext fun x => funext fun a => h x a]
theorem G0 {β : Type} (G : List Ty → Nat → Pr β) : ((Y2 ts K [58] a).go fun y b => G (if y.2 then [y.1] else []) b) = (Yx ts K a).go G := by
 unfold Y2 Yx
 by_cases h : Zc ts a [58] = true
 ·rw [if_pos h, if_pos h, Wh, Wh]
  exact Uk fun _ _ => rfl
 ·rw [if_neg h, if_neg h]
  rfl
theorem let_eq (h : Zc ts a [108, 101, 116] = true) : ((Zb ts a [108, 101, 116]).go fun _ b => (Zm ts b).go fun s b => (Y2 ts K [58] b).go fun y b => (Zb ts b [61]).go fun _ b => (E b).go fun v b => (Zb ts b [59]).go fun _ b => (E b).go fun r b => .inl (Zi 5 s 0 (Zg ts a).line (Zg ts a).col (if y.2 then [y.1] else []) [] [v, r], b)) = Vc ts K E U f a := by
 unfold Vc
 rw [if_pos h, Lq h, Tb]
 refine Uk fun s b => ?_
 exact G0 (fun t b => (Zb ts b [61]).go fun _ b => (E b).go fun v b => (Zb ts b [59]).go fun _ b => (E b).go fun r b => .inl (Zi 5 s 0 (Zg ts a).line (Zg ts a).col t [] [v, r], b))
theorem if_eq (h0 : Zc ts a [108, 101, 116] = false) (h : Zc ts a [105, 102] = true) : ((Zb ts a [105, 102]).go fun _ b => (E b).go fun c b => (Zb ts b [116, 104, 101, 110]).go fun _ b => (E b).go fun x b => (Zb ts b [101, 108, 115, 101]).go fun _ b => (E b).go fun y b => .inl (Zi 11 [] 0 (Zg ts a).line (Zg ts a).col [] [] [c, x, y], b)) = Vc ts K E U f a := by
 unfold Vc
 rw [if_neg (by simp [h0]), if_pos h, Lq h, Tb]
 rfl
theorem A3 {β : Type} (G : List UInt8 × List Ty → Nat → Pr β) : ((Ue ts K a).go fun h b => (Y2 ts K [58] b).go fun y b => G (h.1, h.2 :: if y.2 then [y.1] else []) b) = (U6 ts K a).go G := by
 unfold Ue U6
 rw [Wh, Wh]
 refine Uk fun _ b => ?_
 rw [Wh, Wh]
 refine Uk fun s b => ?_
 rw [Wh, Wh]
 have h1 : ((Y2 ts K [58] b).go fun x a => Pr.go (Pr.go (Zb ts a [41]) fun _ b => .inl ((s, x.1), b)) fun h b => (Y2 ts K [58] b).go fun y b => G (h.1, h.2 :: if y.2 then [y.1] else []) b) =
   (Yx ts K b).go fun x a => (Zb ts a [41]).go fun _ a => (Y2 ts K [58] a).go fun y b => G (s, (if x.isEmpty then [Z6 0 [] [] []] else x) ++ (if y.2 then [y.1] else [])) b := by
  unfold Y2 Yx
  by_cases h : Zc ts b [58] = true
  ·rw [if_pos h, if_pos h, Wh, Wh]
   refine Uk fun t c => ?_
   rw [Tb, Tb, Wh]
   rfl
  ·rw [if_neg h, if_neg h, Tb, Tb, Wh]
   rfl
 rw [h1]
 refine Uk fun x c => ?_
 rw [Wh]
 refine Uk fun _ c => ?_
 rw [Wh]
 exact G0 (fun y b => G (s, (if x.isEmpty then [Z6 0 [] [] []] else x) ++ y) b)
theorem fn_eq (h0 : Zc ts a [108, 101, 116] = false) (h1 : Zc ts a [105, 102] = false) (h : Zc ts a [102, 110] = true) : ((Zb ts a [102, 110]).go fun _ b => (Ue ts K b).go fun h b => (Y2 ts K [58] b).go fun y b => (Zb ts b [61, 62]).go fun _ b => (E b).go fun x b => .inl (Zi 6 h.1 0 (Zg ts a).line (Zg ts a).col (h.2 :: if y.2 then [y.1] else []) [] [x], b)) = Vc ts K E U f a := by
 unfold Vc
 rw [if_neg (by simp [h0]), if_neg (by simp [h1]), if_pos h, Lq h, Tb]
 exact A3 (fun h b => (Zb ts b [61, 62]).go fun _ b => (E b).go fun x b => .inl (Zi 6 h.1 0 (Zg ts a).line (Zg ts a).col h.2 [] [x], b))
theorem or_eq (h0 : Zc ts a [108, 101, 116] = false) (h1 : Zc ts a [105, 102] = false) (h : Zc ts a [102, 110] = false) : Mc ts K U f a = Vc ts K E U f a := by
 unfold Vc
 rw [if_neg (by simp [h0]), if_neg (by simp [h1]), if_neg (by simp [h])]
theorem zfk {L : List (List UInt8)} (h : (L.any fun s => Zc ts a s) = true) : L.find? (Zc ts a) = some (Zg ts a).text := by
 obtain ⟨s, hs, h2⟩ := List.any_eq_true.1 h
 obtain ⟨q, hq⟩ := Option.isSome_iff_exists.1 (List.find?_isSome.2 ⟨s, hs, h2⟩)
 rw [hq, Ky (List.find?_some hq)]
theorem zdw {L : List (List UInt8)} (h : (L.any fun s => Zc ts a s) = false) : L.find? (Zc ts a) = none := List.find?_eq_none.2 fun s hs => by
 have := List.any_eq_false.1 h s hs
 simpa using this
theorem tag_eq {β : Type} (G : Int → Nat → Pr β) : ((Pm ts a).go G) = match Xj.findIdx? (Zc ts a) with
  | some i => G i (a + 1)
  | none => Ys ts 7 a := by
 unfold Pm Wx
 by_cases hk : (Zg ts a).kind = 2 ∨ (Zg ts a).kind = 5
 ·have hk' : ((Zg ts a).kind == 2 || (Zg ts a).kind == 5) = true := by rcases hk with h | h <;> simp [h]
  have e : Xj.findIdx? (Zc ts a) = Xj.findIdx? (· == (Zg ts a).text) := by
   congr 1
   funext s
   unfold Zc
   rw [hk', Bool.true_and, Bool.eq_iff_iff, beq_iff_eq, beq_iff_eq]
   exact eq_comm
  rw [if_pos hk, e, T3]
  cases Xj.findIdx? (· == (Zg ts a).text) with
  | none => rfl
  | some i =>
   simp only
   rw [if_pos (Int.natCast_nonneg i)]
   rfl
 ·have hk' : ((Zg ts a).kind == 2 || (Zg ts a).kind == 5) = false := by simpa using hk
  have e : Xj.findIdx? (Zc ts a) = none := List.findIdx?_eq_none_iff.2 fun s _ => by unfold Zc; rw [hk', Bool.false_and]
  rw [if_neg hk, e, if_neg (by decide)]
  rfl
theorem Rl : Tm ts K sub a = (sub a).go fun x b => Mt ts K sub x b := by
 unfold Tm
 refine Uk fun x b => ?_
 unfold Mt
 cases h3 : ([[60], [60, 61], [61, 61]] : List (List UInt8)).any fun s => Zc ts b s with
 | true =>
  rw [zfk h3, if_pos rfl]
  rfl
 | false =>
  rw [zdw h3]
  simp only [Bool.false_eq_true, if_false]
  by_cases h4 : Zc ts b [105, 115] = true
  ·have h5 := Tf h4 (show ([105, 115] : List UInt8) ≠ [97, 115] by decide)
   simp only [h5, h4, Bool.false_eq_true, if_false, if_true]
   rw [tag_eq]
   cases Xj.findIdx? (Zc ts (b + 1)) <;> rfl
  ·by_cases h5 : Zc ts b [97, 115] = true
   ·simp only [h5, h4, if_true]
    simp
    rfl
   ·simp only [h5, h4]
    simp
end
end Go.Proofs.YtbnjllkkhhkkaaaGreatDoor
namespace Go.Proofs.YtbnjllkkhhkkaaaGreatDoor
open Tryz
open Go.RowKit
section
variable {ts : List Tok} {K E U sub : Nat → Pr Ty} {f a : Nat} {x : Ty}
theorem zbo {s : List UInt8} (h : Zc ts a s = true) : (Zg ts a).kind ≠ 3 ∧ (Zg ts a).kind ≠ 4 ∧ (Zg ts a).kind ≠ 1 := by
 unfold Zc at h
 simp only [Bool.and_eq_true, Bool.or_eq_true, beq_iff_eq] at h
 rcases h.1 with h | h <;> (rw [h]; decide)
theorem Vk {s s' : List UInt8} (h : Zc ts a s = true) (hn : (s == s') = false) : ¬ Zc ts a s' = true := by
 rw [Tf h (by simpa using hn)]
 simp
def Pi (ts : List Tok) (K E : Nat → Pr Ty) (f a : Nat) : Pr Ty :=
 if Zc ts a [116, 114, 117, 101] then .inl (Zi 2 [] 1 (Zx ts a) (Zz ts a) [] [] [], a + 1)
 else if Zc ts a [102, 97, 108, 115, 101] then .inl (Zi 2 [] 0 (Zx ts a) (Zz ts a) [] [] [], a + 1)
 else if Zc ts a [110, 117, 108, 108] then .inl (Zi 3 [] 0 (Zx ts a) (Zz ts a) [] [] [], a + 1)
 else if Zc ts a [114, 101, 97, 100] then (Zb ts (a + 1) [40]).go fun _ b => (Zb ts b [41]).go fun _ b => .inl (Zi 18 [] 0 (Zx ts a) (Zz ts a) [] [] [], b)
 else if Zc ts a [112, 114, 105, 110, 116] then (Zb ts (a + 1) [40]).go fun _ b => (E b).go fun x b => (Zb ts b [41]).go fun _ b => .inl (Zi 17 [] 0 (Zx ts a) (Zz ts a) [] [] [x], b)
 else if Zc ts a [40] then (E (a + 1)).go fun x b => (Zb ts b [41]).go fun _ b => .inl (x, b)
 else if Zc ts a [123] then Q1 ts E f a
 else (Zm ts a).go fun s b => if Zc ts b [91] then (Z1 ts K [44] f (b + 1)).go fun l b => (Zb ts b [93]).go fun _ b => .inl (Zi 19 s 0 (Zx ts a) (Zz ts a) l [] [], b) else .inl (Zi 4 s 0 (Zx ts a) (Zz ts a) [] [] [], b)
theorem M2 {s : List UInt8} (h : Zc ts a s = true) : Wm ts K E f a = Pi ts K E f a := by
 obtain ⟨h3, h4, _⟩ := zbo h
 unfold Wm Pi
 rw [if_neg (by simpa using h3), if_neg (by simpa using h4)]
theorem Ec (h : Zc ts a [116, 114, 117, 101] = true) : Wm ts K E f a = .inl (Zi 2 [] 1 (Zg ts a).line (Zg ts a).col [] [] [], a + 1) := by
 rw [M2 h, Pi, if_pos h]
 rfl
theorem zbk (h : Zc ts a [102, 97, 108, 115, 101] = true) : Wm ts K E f a = .inl (Zi 2 [] 0 (Zg ts a).line (Zg ts a).col [] [] [], a + 1) := by
 rw [M2 h, Pi, if_neg (Vk h rfl), if_pos h]
 rfl
theorem zdv (h : Zc ts a [110, 117, 108, 108] = true) : Wm ts K E f a = .inl (Zi 3 [] 0 (Zg ts a).line (Zg ts a).col [] [] [], a + 1) := by
 rw [M2 h, Pi, if_neg (Vk h rfl), if_neg (Vk h rfl), if_pos h]
 rfl
theorem zag (h : Zc ts a [114, 101, 97, 100] = true) : Wm ts K E f a = (Zb ts (a + 1) [40]).go fun _ b => (Zb ts b [41]).go fun _ b => .inl (Zi 18 [] 0 (Zg ts a).line (Zg ts a).col [] [] [], b) := by
 rw [M2 h, Pi, if_neg (Vk h rfl), if_neg (Vk h rfl), if_neg (Vk h rfl), if_pos h]
 rfl
theorem zch (h : Zc ts a [112, 114, 105, 110, 116] = true) : Wm ts K E f a = ((Zb ts (a + 1) [40]).go fun _ b => (E b).go fun x b => (Zb ts b [41]).go fun _ b => .inl (x, b)).go fun x b => .inl (Zi 17 [] 0 (Zg ts a).line (Zg ts a).col [] [] [x], b) := by
 rw [M2 h, Pi, if_neg (Vk h rfl), if_neg (Vk h rfl), if_neg (Vk h rfl), if_neg (Vk h rfl), if_pos h, Wh]
 refine Uk fun _ b => ?_
 rw [Wh]
 refine Uk fun x b => ?_
 rw [Wh]
 rfl
theorem zdm (h : Zc ts a [40] = true) : Wm ts K E f a = ((Zb ts a [40]).go fun _ b => (E b).go fun x b => (Zb ts b [41]).go fun _ b => .inl (x, b)).go fun x b => .inl (x, b) := by
 rw [M2 h, Pi, if_neg (Vk h rfl), if_neg (Vk h rfl), if_neg (Vk h rfl), if_neg (Vk h rfl), if_neg (Vk h rfl), if_pos h, Bl, Lq h, Tb]
theorem Co (ok : Z0 ts) (b : Nat) : Zc ts b [58] = ((Zg ts b).kind == 5 && (Zg ts b).text == [58]) := by
 unfold Zc
 by_cases h2 : (Zg ts b).kind = 2
 ·have hlt : b < ts.length := by
   by_cases hb : b < ts.length
   ·exact hb
   ·exfalso
    unfold Zg at h2
    rw [List.getD_eq_getElem?_getD, List.getElem?_eq_none (by omega)] at h2
    simp at h2
  have := ok.wrd b hlt h2
  rw [h2]
  simp [this]
 ·have e : ((Zg ts b).kind == 2) = false := by simpa using h2
  rw [e, Bool.false_or]
theorem Ew (ok : Z0 ts) (h : Zc ts a [123] = true) : Wm ts K E f a = (Bc ts E f (a + 1)).go fun x b => .inl (Lf (Zg ts a) x, b) := by
 rw [M2 h, Pi, if_neg (Vk h rfl), if_neg (Vk h rfl), if_neg (Vk h rfl), if_neg (Vk h rfl), if_neg (Vk h rfl), if_neg (Vk h rfl), if_pos h]
 unfold Q1 Bc
 by_cases h1 : Zc ts (a + 1) [125] = true
 ·rw [if_pos h1, if_pos h1, J0 h1]
  rfl
 ·rw [if_neg h1, if_neg h1, Co ok]
  by_cases h2 : ((Zg ts (a + 1)).kind == 1 && ((Zg ts (a + 1 + 1)).kind == 5 && (Zg ts (a + 1 + 1)).text == [58])) = true
  ·rw [if_pos h2, if_pos h2, Vp, if_neg h1, Wh, Wh]
   refine Uk fun l b => ?_
   rw [Wh]
   rfl
  ·rw [if_neg h2, if_neg h2, Wh]
   refine Uk fun x b => ?_
   rw [Wh]
   refine Uk fun _ b => ?_
   rw [Wh]
   refine Uk fun s b => ?_
   rw [Wh]
   refine Uk fun _ b => ?_
   rw [Wh]
   refine Uk fun y b => ?_
   rw [Wh]
   rfl
theorem zfj (h3 : (V0.any fun s => Zc ts a s) = false) (hp : Zc ts a [112, 114, 105, 110, 116] = false) (hr : Zc ts a [114, 101, 97, 100] = false) (hb : Zc ts a [40] = false) (hc : Zc ts a [123] = false) : Wm ts K E f a = (N7 ts K f a).go fun x b => .inl (x, b) := by
 rw [Bl]
 have hn : ∀ s ∈ V0, ¬ Zc ts a s = true := fun s hs => by
  have := List.any_eq_false.1 h3 s hs
  exact this
 unfold Wm N7
 by_cases k3 : (Zg ts a).kind = 3
 ·rw [if_pos (by simpa using k3), if_pos k3]
  rfl
 ·rw [if_neg (by simpa using k3), if_neg k3]
  by_cases k4 : (Zg ts a).kind = 4
  ·rw [if_pos (by simpa using k4), if_pos k4]
   rfl
  ·rw [if_neg (by simpa using k4), if_neg k4, if_neg (hn _ (by simp [V0])), if_neg (hn _ (by simp [V0])), if_neg (hn _ (by simp [V0])), if_neg (by simp [hr]), if_neg (by simp [hp]), if_neg (by simp [hb]), if_neg (by simp [hc])]
   unfold Zm Mn
   by_cases k1 : (Zg ts a).kind = 1
   ·rw [if_pos (by simpa using k1), if_pos k1]
    rfl
   ·rw [if_neg (by simpa using k1), if_neg k1]
    rfl
theorem Da {L : List (List UInt8)} (hs : ∀ a x b, sub a = .inl (x, b) → a ≤ b) : ∀ (f : Nat) (x : Ty) {a c : Nat}, a ≤ c → Xv a (Y9 ts L sub f x c)
 | 0, _, _, _, _ => Pl _ _
 | f + 1, x, a, c, h => by
  rw [Y9]
  cases L.find? (Zc ts c) with
  | none => exact Yh h _
  | some s => exact Z4 (Xz hs (by omega)) fun y b hb => Da hs f _ hb
theorem Tg {L : List (List UInt8)} (hs : ∀ a x b, sub a = .inl (x, b) → a ≤ b) (f : Nat) : ∀ a x b, ((sub a).go fun x a => Y9 ts L sub f x a) = .inl (x, b) → a ≤ b := fun a x b h =>
 Z4 (Xz hs (Nat.le_refl a)) (fun y _ hc => Da hs f y hc) x b h
theorem Hw (hK : ∀ a x b, K a = .inl (x, b) → a ≤ b) (hs : ∀ a x b, sub a = .inl (x, b) → a ≤ b) : ∀ a x b, Tm ts K sub a = .inl (x, b) → a ≤ b := fun a x b h => by
 rw [Rl] at h
 refine Z4 (a := a) (Xz hs (Nat.le_refl a)) (fun y c hc => ?_) x b h
 unfold Mt
 refine Yz (Z4 (Xz hs (by omega)) fun _ _ h1 => Yh h1 _) (Yz ?_ (Yz (Z4 (Xz hK (by omega)) fun _ _ h1 => Yh h1 _) (Yh hc _)))
 refine Z4 (r := Pm ts (c + 1)) ?_ fun _ _ h1 => Yh h1 _
 unfold Pm
 exact Yz (Yh (by omega) _) (Pl _ _)
theorem Je (hE : ∀ a x b, E a = .inl (x, b) → a ≤ b) : ∀ (f : Nat) (x : Ty) {a c : Nat}, a ≤ c → Xv a (Xe ts E f x c)
 | 0, _, _, _, _ => Pl _ _
 | f + 1, x, a, c, h => by
  rw [Xe]
  exact Yz (Z4 (Xz hE (by omega)) fun _ _ h1 => Z4 (Xt h1 _) fun _ _ h2 => Je hE f _ h2) (Yz (Z4 (Qo (by omega)) fun _ _ h1 => Je hE f _ h1) (Yh h _))
theorem Sg (hK : ∀ a x b, K a = .inl (x, b) → a ≤ b) (hE : ∀ a x b, E a = .inl (x, b) → a ≤ b) (f : Nat) : ∀ a x b, Wm ts K E f a = .inl (x, b) → a ≤ b := fun a x b h => by
 have hu : Xv a (Wm ts K E f a) := by
  unfold Wm
  refine Yz (Yh (by omega) _) (Yz (Yh (by omega) _) (Yz (Yh (by omega) _) (Yz (Yh (by omega) _) (Yz (Yh (by omega) _) (Yz ?_ (Yz ?_ (Yz ?_ (Yz ?_ ?_))))))))
  ·exact Z4 (Xt (by omega) _) fun _ _ h1 => Z4 (Xt h1 _) fun _ _ h2 => Yh h2 _
  ·exact Z4 (Xt (by omega) _) fun _ _ h1 => Z4 (Xz hE h1) fun _ _ h2 => Z4 (Xt h2 _) fun _ _ h3 => Yh h3 _
  ·exact Z4 (Xz hE (by omega)) fun _ _ h2 => Z4 (Xt h2 _) fun _ _ h3 => Yh h3 _
  ·unfold Q1
   refine Yz (Yh (by omega) _) (Yz ?_ ?_)
   ·exact Z4 (Nm (fun a x b e => Rs hE (xR) x b e) f (by omega)) fun _ _ h1 => Z4 (Xt h1 _) fun _ _ h2 => Yh h2 _
   ·exact Z4 (Xz hE (by omega)) fun _ _ h1 => Z4 (Xt h1 _) fun _ _ h2 => Z4 (Qo h2) fun _ _ h3 => Z4 (Xt h3 _) fun _ _ h4 => Z4 (Xz hE h4) fun _ _ h5 => Z4 (Xt h5 _) fun _ _ h6 => Yh h6 _
  ·exact Z4 (Qo (xR)) fun _ _ h1 => Yz (Z4 (Nm hK f (by omega)) fun _ _ h2 => Z4 (Xt h2 _) fun _ _ h3 => Yh h3 _) (Yh h1 _)
 exact hu x b h
theorem Jw (hK : ∀ a x b, K a = .inl (x, b) → a ≤ b) {c : Nat} (h : a ≤ c) : Xv a (Yx ts K c) := Yz (Z4 (Xz hK (by omega)) fun _ _ h1 => Yh h1 _) (Yh h _)
theorem zed (hK : ∀ a x b, K a = .inl (x, b) → a ≤ b) (hE : ∀ a x b, E a = .inl (x, b) → a ≤ b) (hU : ∀ a x b, U a = .inl (x, b) → a ≤ b) (f : Nat) : ∀ a x b, Vc ts K E U f a = .inl (x, b) → a ≤ b := fun a x b h => by
 have hor : Xv a (Mc ts K U f a) := fun x b h => Tg (sub := Ms ts K U f) (fun a x b h => Tg (sub := Tm ts K (T2 ts U f)) (Hw hK (fun a x b h => Tg (sub := P6 ts U f) (fun a x b h => Tg (sub := M7 ts U f) (fun a x b h => Tg hU f a x b h) f a x b h) f a x b h)) f a x b h) f a x b h
 have hu : Xv a (Vc ts K E U f a) := by
  unfold Vc
  refine Yz ?_ (Yz ?_ (Yz ?_ hor))
  ·exact Z4 (Qo (by omega)) fun _ _ h1 => Z4 (Jw hK h1) fun _ _ h2 => Z4 (Xt h2 _) fun _ _ h3 => Z4 (Xz hE h3) fun _ _ h4 => Z4 (Xt h4 _) fun _ _ h5 => Z4 (Xz hE h5) fun _ _ h6 => Yh h6 _
  ·exact Z4 (Xz hE (by omega)) fun _ _ h1 => Z4 (Xt h1 _) fun _ _ h2 => Z4 (Xz hE h2) fun _ _ h3 => Z4 (Xt h3 _) fun _ _ h4 => Z4 (Xz hE h4) fun _ _ h5 => Yh h5 _
  ·refine Z4 (r := U6 ts K (a + 1)) ?_ fun _ _ h1 => Z4 (Xt h1 _) fun _ _ h2 => Z4 (Xz hE h2) fun _ _ h3 => Yh h3 _
   exact Z4 (Xt (by omega) _) fun _ _ h1 => Z4 (Qo h1) fun _ _ h2 => Z4 (Jw hK h2) fun _ _ h3 => Z4 (Xt h3 _) fun _ _ h4 => Z4 (Jw hK h4) fun _ _ h5 => Yh h5 _
 exact hu x b h
theorem Nj (ts : List Tok) (f : Nat) : ∀ (n : Nat) (u : Bool) (d a : Nat) (x : Ty) (b : Nat), Yw ts f n u d a = .inl (x, b) → a ≤ b
 | 0, _, _, _, _, _, h => by cases h
 | n + 1, u, d, a, x, b, h => by
  have hK : ∀ a x b, Yk ts f 101 (d + 1) a = .inl (x, b) → a ≤ b := fun a x b h => Nq h
  have hE := Nj ts f n false (d + 1)
  have hU := Nj ts f n true (d + 1)
  unfold Yw at h
  by_cases hd : 100 ≤ d
  ·rw [if_pos hd] at h
   cases h
  ·rw [if_neg hd] at h
   cases u with
   | false => exact zed hK hE hU f a x b h
   | true =>
    have hu : Xv a (if Zc ts a [45] then (Yw ts f n true (d + 1) (a + 1)).go fun x b => .inl (Zi 16 [] 0 (Zx ts a) (Zz ts a) [] [] [x], b)
      else if Zc ts a [110, 111, 116] then (Yw ts f n true (d + 1) (a + 1)).go fun x b => .inl (Zi 15 [] 0 (Zx ts a) (Zz ts a) [] [] [x], b)
      else (Wm ts (Yk ts f 101 (d + 1)) (Yw ts f n false (d + 1)) f a).go fun x b => Xe ts (Yw ts f n false (d + 1)) f x b : Pr Ty) :=
     Yz (Z4 (Xz hU (by omega)) fun _ _ h1 => Yh h1 _) (Yz (Z4 (Xz hU (by omega)) fun _ _ h1 => Yh h1 _) (Z4 (fun x b h => Sg hK hE f a x b h) fun y c hc => Je hE f y hc))
    exact hu x b h
end
theorem atom_c (pb tb cap d : Nat) (ts : List Tok) (K E : Nat → Pr Ty) (hK : Yg pb tb cap d ts Zt 30 K) (hE : Yg pb tb cap d ts Zo 23 E) (ok : Z0 ts) (a : Nat) (w : World) (h : Ps w pb tb cap ts a d) :
  Calls prog 227 #[.pointer (some ⟨pb, 0, none⟩)] w (Zs pb tb cap ts d w Zo (Wm ts K E ts.length a)) := by
 cases h3 : V0.any fun s => Zc ts a s with
 | true =>
  obtain ⟨s, hs, h2⟩ := List.any_eq_true.1 h3
  have hs' : s = [116, 114, 117, 101] ∨ s = [102, 97, 108, 115, 101] ∨ s = [110, 117, 108, 108] := by simpa [V0] using hs
  rcases hs' with rfl | rfl | rfl
  ·rw [Ec h2]
   exact Hd pb tb cap d a ts _ (fun w h => zeu pb tb cap d ts ok a h2 w h) ok h3 w h
  ·rw [zbk h2]
   exact Hd pb tb cap d a ts _ (fun w h => Oo pb tb cap d ts ok a h2 w h) ok h3 w h
  ·rw [zdv h2]
   exact Hd pb tb cap d a ts _ (fun w h => Cp pb tb cap d ts ok a h2 w h) ok h3 w h
 | false =>
  cases hp : Zc ts a [112, 114, 105, 110, 116] with
  | true =>
   rw [zch hp]
   exact zco pb tb cap d ts E hE ok a h3 hp w h
  | false =>
   cases hr : Zc ts a [114, 101, 97, 100] with
   | true =>
    rw [zag hr]
    exact zhd pb tb cap d ts ok a h3 hp hr w h
   | false =>
    cases hb : Zc ts a [40] with
    | true =>
     rw [zdm hb]
     exact zdg pb tb cap d ts E hE ok a h3 hp hr hb w h
    | false =>
     cases hc : Zc ts a [123] with
     | true =>
      rw [Ew ok hc]
      exact zeh pb tb cap d ts E hE ok a h3 hp hr hb hc w h
     | false =>
      rw [zfj h3 hp hr hb hc]
      exact Ef pb tb cap d ts K hK ok a h3 hp hr hb hc w h
theorem Ib (pb : Nat) : V1 227 pb := fun w => V8 func227 (by kernel_rfl) (by kernel_rfl) _ w
theorem zci (pb : Nat) : V1 226 pb := fun w => V8 func226 (by kernel_rfl) (by kernel_rfl) _ w
theorem Cy (pb : Nat) : V1 224 pb := fun w => V8 func224 (by kernel_rfl) (by kernel_rfl) _ w
theorem Gq (pb : Nat) : V1 23 pb := fun w => V8 func23 (by kernel_rfl) (by kernel_rfl) _ w
theorem I5 (pb : Nat) : V1 196 pb := fun w => V8 func196 (by kernel_rfl) (by kernel_rfl) _ w
theorem Ci (pb : Nat) : V1 225 pb := fun w => V8 func225 (by kernel_rfl) (by kernel_rfl) _ w
theorem Ex (pb : Nat) : V1 57 pb := fun w => V8 func57 (by kernel_rfl) (by kernel_rfl) _ w
theorem Gz (pb tb cap d : Nat) (ts : List Tok) (ok : Z0 ts) (hd : d ≤ 100) : Yg pb tb cap d ts Zt 30 (Yk ts ts.length 101 d) where
 calls := fun a w h => by
  rw [Jl ts ts.length 101 (101 - d) d a (by omega) (by omega)]
  exact Hx pb tb cap ts ok (101 - d) d a w (by omega) hd h
 enters := Jq pb
 up := fun _ _ _ h => Nq h
theorem O3 (pb tb cap d : Nat) (ts : List Tok) (K U : Nat → Pr Ty) (hK : Yg pb tb cap d ts Zt 30 K) (hU : Yg pb tb cap d ts Zo 224 U) (ok : Z0 ts) :
  Yg pb tb cap d ts Zo 112 (Mc ts K U ts.length) := by
 have h1 : Yg pb tb cap d ts Zo 221 (M7 ts U ts.length) := ⟨fun a w h => I3 pb tb cap d ts U hU ok a w h, Ow pb, fun a x b h => Tg hU.up ts.length a x b h⟩
 have h2 : Yg pb tb cap d ts Zo 213 (P6 ts U ts.length) := ⟨fun a w h => psum_c pb tb cap d ts _ h1 ok a w h, zar pb, fun a x b h => Tg h1.up ts.length a x b h⟩
 have h3 : Yg pb tb cap d ts Zo 205 (T2 ts U ts.length) := ⟨fun a w h => pcat_c pb tb cap d ts _ h2 ok a w h, zcq pb, fun a x b h => Tg h2.up ts.length a x b h⟩
 have h4 : Yg pb tb cap d ts Zo 196 (Tm ts K (T2 ts U ts.length)) := ⟨fun a w h => by rw [Rl]; exact cmp_c pb tb cap d ts K hK _ h3 ok a w h, I5 pb, Hw hK.up h3.up⟩
 have h5 : Yg pb tb cap d ts Zo 173 (Ms ts K U ts.length) := ⟨fun a w h => pand_c pb tb cap d ts _ h4 ok a w h, zdr pb, fun a x b h => Tg h4.up ts.length a x b h⟩
 exact ⟨fun a w h => por_c pb tb cap d ts _ h5 ok a w h, Cf pb, fun a x b h => Tg h5.up ts.length a x b h⟩
theorem zbv (pb tb cap d : Nat) (ts : List Tok) (K E U : Nat → Pr Ty) (hK : Yg pb tb cap d ts Zt 30 K) (hE : Yg pb tb cap d ts Zo 23 E) (hU : Yg pb tb cap d ts Zo 224 U) (ok : Z0 ts) (a : Nat) (w : World) (h : Ps w pb tb cap ts a d) :
  Calls prog 57 #[.pointer (some ⟨pb, 0, none⟩)] w (Zs pb tb cap ts d w Zo (Vc ts K E U ts.length a)) := by
 cases h0 : Zc ts a [108, 101, 116] with
 | true =>
  have := zdo pb tb cap d a ts _ (fun w h => let_c pb tb cap d ts K E hK hE ok a w h) h0 ok w h
  rwa [Bl, let_eq (U := U) (f := ts.length) h0] at this
 | false =>
  cases h1 : Zc ts a [105, 102] with
  | true =>
   have := zda pb tb cap d a ts _ (fun w h => zfu pb tb cap d ts E hE ok a w h) h0 h1 ok w h
   rwa [Bl, if_eq (K := K) (U := U) (f := ts.length) h0 h1] at this
  | false =>
   cases h2 : Zc ts a [102, 110] with
   | true =>
    have := Il pb tb cap d a ts _ (fun w h => zbl pb tb cap d ts K E hK hE ok a w h) h0 h1 h2 ok w h
    rwa [Bl, fn_eq (U := U) (f := ts.length) h0 h1 h2] at this
   | false =>
    have := Cz pb tb cap d a ts _ (fun w h => (O3 pb tb cap d ts K U hK hU ok).calls a w h) h0 h1 h2 ok w h
    rwa [Bl, or_eq (E := E) h0 h1 h2] at this
theorem Bz (pb tb cap : Nat) (ts : List Tok) (ok : Z0 ts) : ∀ (n d : Nat), d + n = 101 → d ≤ 100 → ∀ (a : Nat) (w : World), Ps w pb tb cap ts a d →
  Calls prog 23 #[.pointer (some ⟨pb, 0, none⟩)] w (Zs pb tb cap ts d w Zo (Yw ts ts.length n false d a)) ∧
  Calls prog 224 #[.pointer (some ⟨pb, 0, none⟩)] w (Zs pb tb cap ts d w Zo (Yw ts ts.length n true d a))
 | 0, d, h1, h2, _, _, _ => absurd h1 (by omega)
 | n + 1, d, h1, h2, a, w, h => by
  unfold Yw
  by_cases hd : 100 ≤ d
  ·obtain rfl : d = 100 := by omega
   rw [if_pos hd, if_pos hd]
   exact ⟨F8 pb tb cap 100 ts _ w (fun w1 hb => Ap pb tb cap a _ ts w1 (h.below hb)) h.ltp, Ai pb tb cap 100 ts _ w (fun w1 hb => Ap pb tb cap a _ ts w1 (h.below hb)) h.ltp⟩
  ·rw [if_neg hd, if_neg hd]
   have hK := Gz pb tb cap (d + 1) ts ok (by omega)
   have hE : Yg pb tb cap (d + 1) ts Zo 23 (Yw ts ts.length n false (d + 1)) := ⟨fun a w h => (Bz pb tb cap ts ok n (d + 1) (by omega) (by omega) a w h).1, Gq pb, fun a x b h => Nj ts ts.length n false (d + 1) a x b h⟩
   have hU : Yg pb tb cap (d + 1) ts Zo 224 (Yw ts ts.length n true (d + 1)) := ⟨fun a w h => (Bz pb tb cap ts ok n (d + 1) (by omega) (by omega) a w h).2, Cy pb, fun a x b h => Nj ts ts.length n true (d + 1) a x b h⟩
   have hA : Yg pb tb cap (d + 1) ts Zo 227 (Wm ts (Yk ts ts.length 101 (d + 1)) (Yw ts ts.length n false (d + 1)) ts.length) := ⟨fun a w h => atom_c pb tb cap (d + 1) ts _ _ hK hE ok a w h, Ib pb, Sg hK.up hE.up ts.length⟩
   have hP : Yg pb tb cap (d + 1) ts Zo 226 (fun a => (Wm ts (Yk ts ts.length 101 (d + 1)) (Yw ts ts.length n false (d + 1)) ts.length a).go fun x b => Xe ts (Yw ts ts.length n false (d + 1)) ts.length x b) := ⟨fun a w h => post_c pb tb cap (d + 1) ts _ hA _ hE ok a w h, zci pb, fun a x b h => Z4 (a := a) (Xz hA.up (Nat.le_refl a)) (fun y c hc => Je hE.up ts.length y hc) x b h⟩
   exact ⟨F8 pb tb cap d ts _ w (fun w1 hb => Ar pb tb cap a d _ ts _ (by omega) (fun w2 h2 => zbv pb tb cap (d + 1) ts _ _ _ hK hE hU ok a w2 h2) (Ex pb) w1 (h.below hb)) h.ltp,
    Ai pb tb cap d ts _ w (fun w1 hb => Ar pb tb cap a d _ ts _ (by omega) (fun w2 h2 => zbg pb tb cap (d + 1) ts _ _ hU hP ok a w2 h2) (Ci pb) w1 (h.below hb)) h.ltp⟩
theorem T4 (W : World) : W.drew.heap = W.heap := rfl
theorem Jv (v : Value) (w : World) : (binOp .neq 20 (.iface 30 v) .nilIface).run prog w = .ok (.bool true) w := by
 kernel_rfl
theorem Ht (v : Value) (w : World) : (Instr.typeAssert (.iface 30 v) 20 30 false).run prog w = .ok v w := by kernel_rfl
theorem He (w : World) : (binOp .neq 20 .nilIface .nilIface).run prog w = .ok (.bool false) w := by kernel_rfl
theorem Ct (p q : Addr) (w : World) :
  CallsD prog 63 #[.pointer (some p), .pointer (some q)] .returning w fun e u' w' => e = .returned (.tuple #[]) ∧ u' = .returning ∧ w' = w := by
 have hn := He
 refine callsD_of_wpS func63 rfl fun c₀ cs hu => ?_
 apply wpS_seq
 apply wpS_region
 simp [wpOpsS, go_sem, recoverD, hu, ntmps63, Exit.thenS]
 refine wpS_of_wp ?_
 simp only [Array.replicate, List.replicate, List.setIfInBounds_toArray, List.set_cons_zero, List.set_cons_succ, List.append_toArray, List.cons_append, List.nil_append]
 go_wp2
 cases c₀
 simp_all [bodyPostS, results, results63]
theorem Rg (ab db : Nat) (li co x : Int) (older : List PanicEntry) (w : World) (y0 y1 y2 y3 x0 x1 x2 x3 : Value) (ha : w.heap[ab]? = some (.cells #[y0, y1, y2, y3] 36)) (hd : w.heap[db]? = some (.cells #[x0, x1, x2, x3] 30)) (hab : ab ≠ db) :
  CallsD prog 63 #[.pointer (some ⟨ab, 0, none⟩), .pointer (some ⟨db, 0, none⟩)] (.panicking ({ v := .iface 30 (Vx li co x), recovered := false } :: older)) w fun e u' w' => e = .returned (.tuple #[]) ∧ u' = .panicking ({ v := .iface 30 (Vx li co x), recovered := true } :: older) ∧
   (w'.heap[ab]? = some Yl ∧ w'.heap[db]? = some (.cells #[.int .i64 0, .int .i64 li, .int .i64 co, .int .i64 x] 30)) ∧ xQ (∀ B, B ≤ ab → B ≤ db → Below B w w') := by
 have hn := Jv
 have hta := Ht
 obtain ⟨⟨a0, a1, a2, a3⟩, ⟨z0, z1, z2, z3⟩, hla⟩ := Zr ha
 obtain ⟨⟨d0, d1, d2, d3⟩, ⟨g0, g1, g2, g3⟩, hld⟩ := Zr hd
 have HA := Za ha
 have HD := Za hd
 clear ha hd
 have hab' : ¬ db = ab := fun e => hab e.symm
 refine callsD_of_wpS func63 rfl fun c₀ cs hu => ?_
 apply wpS_seq
 apply wpS_region
 simp [wpOpsS, go_sem, recoverD, hu, ntmps63, Exit.thenS]
 refine wpS_of_wp ?_
 simp only [Array.replicate, List.replicate, List.setIfInBounds_toArray, List.set_cons_zero, List.set_cons_succ, List.append_toArray, List.cons_append, List.nil_append]
 go_wp2
 go_region
 all_goals
  go_wp2
  refine ⟨rfl, _, rfl, .tuple #[], results_none rfl _ _ _, rfl, rfl, ⟨?_, ?_⟩, fun B h1 h2 => ?_⟩
  ·rw [T4]
   refine (xA (by rw [Vj, Vj]; exact hla)).trans ?_
   exact (Yn hab _ _ _ _).trans (set4 HA.o _ _ _ _)
  ·rw [T4]
   refine (xA (by rw [Vj, Vj]; exact hld)).trans ?_
   exact set4 ((Yn hab' _ _ _ _).trans HD.o) _ _ _ _
  ·exact ((Xd (Xd (Below.refl _ w) h1 _ _ _ _) h2 _ _ _ _).alloc (by rw [Vj, Vj]; omega) _).drew
end Go.Proofs.YtbnjllkkhhkkaaaGreatDoor
namespace Go.Proofs.YtbnjllkkhhkkaaaGreatDoor.Lx
open Tryz
theorem lexGo_end {f n li co li' co' : Nat} {l : List UInt8} (h : Yy false l li co = ([], li', co')) : Uu (f + 1) l li co n = .toks [⟨0, [], li', co'⟩] := by
 rw [Uu, h]
theorem lexGo_bad {f n li co li' co' : Nat} {l r : List UInt8} {e : Int} (h : Yy false l li co = (r, li', co')) (hr : r ≠ []) (he : Xc r = .bad e) : Uu (f + 1) l li co n = .bad e li' co' := by
 cases r with
 | nil => exact absurd rfl hr
 | cons b r => rw [Uu, h]; simp only; rw [he]
theorem lexGo_many {f li co li' co' : Nat} {l r t rest : List UInt8} {k : Int} (h : Yy false l li co = (r, li', co')) (hr : r ≠ []) (he : Xc r = .tok k t rest) : Uu (f + 1) l li co 8192 = .bad 19 li' co' := by
 cases r with
 | nil => exact absurd rfl hr
 | cons b r => rw [Uu, h]; simp only; rw [he]; simp
theorem lexGo_tok {f n li co li' co' : Nat} {l r t rest : List UInt8} {k : Int} (h : Yy false l li co = (r, li', co')) (hr : r ≠ []) (he : Xc r = .tok k t rest) (hn : n ≠ 8192) :
  Uu (f + 1) l li co n = (Uu f rest li' (co' + (r.length - rest.length)) (n + 1)).pre [⟨k, t, li', co'⟩] := by
 cases r with
 | nil => exact absurd rfl hr
 | cons b r => rw [Uu, h]; simp only; rw [he]; simp [hn]
end Go.Proofs.YtbnjllkkhhkkaaaGreatDoor.Lx
namespace Go.Proofs.YtbnjllkkhhkkaaaGreatDoor
open Tryz
def TsOk : List Tok → Prop
 | [] => False
 | [t] => t.kind = 0 ∧ t.text.length ≤ 70000
 | t :: u :: r => (t.kind ≠ 0 ∧ t.text.length ≤ 70000 ∧ (t.kind = 2 → t.text ≠ [58])) ∧ TsOk (u :: r)
theorem O6 {l t rest : List UInt8} {k : Int} (hl : l.length ≤ 65536) (h : Xc l = .tok k t rest) : k ≠ 0 ∧ t.length ≤ 70000 ∧ (k = 2 → t ≠ [58]) := by
 match l, h, hl with
 | [], h, _ => cases h
 | b :: r, h, hl =>
  have htl : ∀ p : UInt8 → Bool, ((b :: r).takeWhile p).length ≤ 70000 := fun p => by
   have := (List.takeWhile_sublist p (l := b :: r)).length_le
   omega
  unfold Xc at h
  by_cases h1 : Y8 b = true
  ·simp only [h1, if_true] at h
   by_cases h2 : 32 < ((b :: r).takeWhile Yc).length
   ·rw [if_pos h2] at h; cases h
   ·rw [if_neg h2] at h
    obtain ⟨rfl, rfl, _⟩ := Mk h
    by_cases hw : Wa.contains ((b :: r).takeWhile Yc) = true
    ·rw [if_pos hw]
     refine ⟨by decide, htl _, fun _ e => ?_⟩
     rw [e] at hw
     exact absurd hw (by decide)
    ·rw [if_neg hw]
     exact ⟨by decide, htl _, fun e => absurd e (by decide)⟩
  ·simp only [h1] at h
   by_cases h2 : Ye b = true
   ·simp only [h2, if_true] at h
    cases hp : Ww ((b :: r).takeWhile Ye) with
    | none => simp [hp] at h
    | some N =>
     simp only [hp] at h
     have h' : Rd.tok 3 ((b :: r).takeWhile Ye) ((b :: r).dropWhile Ye) = Rd.tok k t rest := by simpa using h
     obtain ⟨rfl, rfl, _⟩ := Mk h'
     exact ⟨by decide, htl _, fun e => absurd e (by decide)⟩
   ·simp only [h2] at h
    by_cases h3 : b = 34
    ·simp only [h3, if_true] at h
     cases hs : Wv r [] with
     | none => simp [hs] at h
     | some p =>
      obtain ⟨said, rs⟩ := p
      simp only [hs] at h
      by_cases h4 : 256 < said.length
      ·simp [h4] at h
      ·have h' : Rd.tok 4 said rs = Rd.tok k t rest := by simpa [h4] using h
       obtain ⟨rfl, rfl, _⟩ := Mk h'
       exact ⟨by decide, by omega, fun e => absurd e (by decide)⟩
    ·simp only [h3] at h
     by_cases h4 : Y7 (b :: r) = 0
     ·simp [h4] at h
     ·have h' : Rd.tok 5 ((b :: r).take (Y7 (b :: r))) ((b :: r).drop (Y7 (b :: r))) = Rd.tok k t rest := by simpa [h4] using h
      obtain ⟨rfl, rfl, _⟩ := Mk h'
      refine ⟨by decide, ?_, fun e => absurd e (by decide)⟩
      have := List.length_take_le (Y7 (b :: r)) (b :: r)
      have h5 := List.length_take_le' (Y7 (b :: r)) (b :: r)
      omega
theorem Rc : ∀ (f : Nat) (l : List UInt8) (li co n : Nat) (ts : List Tok), l.length ≤ 65536 → n ≤ 8192 → Uu f l li co n = .inl ts → TsOk ts ∧ ts.length + n ≤ 8193
 | 0, _, _, _, _, _, _, _, h => by cases h
 | f + 1, l, li, co, n, ts, hl, hn, h => by
  obtain ⟨r, li', co', hs⟩ : ∃ r li' co', Yy false l li co = (r, li', co') := ⟨_, _, _, rfl⟩
  have hsuf := Ko false l li co
  rw [hs] at hsuf
  have hrl : r.length ≤ 65536 := Nat.le_trans hsuf.length_le hl
  by_cases hr : r = []
  ·subst hr
   rw [Lx.lexGo_end hs] at h
   injection h with h
   rw [← h]
   exact ⟨⟨rfl, xZ _⟩, by simp; omega⟩
  ·cases he : Xc r with
   | inl e => rw [Lx.lexGo_bad hs hr he] at h; cases h
   | inr p =>
    obtain ⟨k, t, rest⟩ := p
    by_cases hn2 : n = 8192
    ·subst hn2
     rw [Lx.lexGo_many hs hr he] at h
     cases h
    ·rw [Lx.lexGo_tok hs hr he hn2] at h
     have zht : rest.length ≤ 65536 := by
      obtain ⟨c, hc, _⟩ := Hn he
      have := congrArg List.length hc
      rw [List.length_append] at this
      omega
     cases hg : Uu f rest li' (co' + (r.length - rest.length)) (n + 1) with
     | inr e => rw [hg] at h; cases h
     | inl ts' =>
      obtain ⟨h1, h2⟩ := Rc f rest li' _ (n + 1) ts' zht (by omega) hg
      rw [hg] at h
      injection h with h
      rw [← h]
      refine ⟨?_, by simp; omega⟩
      match ts', h1 with
      | u :: r', h1 => exact ⟨O6 hrl he, h1⟩
theorem zgk {l : List UInt8} {e : Int} (h : Xc l = .bad e) : e ≠ 0 := by
 match l, h with
 | [], h => injection h with h; rw [← h]; decide
 | b :: r, h =>
  unfold Xc at h
  by_cases h1 : Y8 b = true
  ·simp only [h1, if_true] at h
   by_cases h2 : 32 < ((b :: r).takeWhile Yc).length
   ·rw [if_pos h2] at h; injection h with h; rw [← h]; decide
   ·rw [if_neg h2] at h; cases h
  ·simp only [h1] at h
   by_cases h2 : Ye b = true
   ·simp only [h2, if_true] at h
    cases hp : Ww ((b :: r).takeWhile Ye) with
    | none =>
     have h' : Rd.bad 3 = Rd.bad e := by simpa [hp] using h
     injection h' with h'; rw [← h']; decide
    | some N => simp [hp] at h
   ·simp only [h2] at h
    by_cases h3 : b = 34
    ·simp only [h3, if_true] at h
     cases hs : Wv r [] with
     | none =>
      have h' : Rd.bad 4 = Rd.bad e := by simpa [hs] using h
      injection h' with h'; rw [← h']; decide
     | some p =>
      obtain ⟨said, rs⟩ := p
      simp only [hs] at h
      by_cases h4 : 256 < said.length
      ·have h' : Rd.bad 2 = Rd.bad e := by simpa [h4] using h
       injection h' with h'; rw [← h']; decide
      ·simp [h4] at h
    ·simp only [h3] at h
     by_cases h4 : Y7 (b :: r) = 0
     ·have h' : Rd.bad 5 = Rd.bad e := by simpa [h4] using h
      injection h' with h'; rw [← h']; decide
     ·simp [h4] at h
theorem Rv : ∀ (f : Nat) (l : List UInt8) (li co n : Nat) (x : Int) (a b : Nat), l.length < f → Uu f l li co n = .inr (x, a, b) → x ≠ 0
 | 0, _, _, _, _, _, _, _, hf, _ => absurd hf (Nat.not_lt_zero _)
 | f + 1, l, li, co, n, x, a, b, hf, h => by
  obtain ⟨r, li', co', hs⟩ : ∃ r li' co', Yy false l li co = (r, li', co') := ⟨_, _, _, rfl⟩
  have hsuf := Ko false l li co
  rw [hs] at hsuf
  have hrl := hsuf.length_le
  simp only at hrl
  by_cases hr : r = []
  ·subst hr
   rw [Lx.lexGo_end hs] at h
   cases h
  ·cases he : Xc r with
   | inl e =>
    rw [Lx.lexGo_bad hs hr he] at h
    injection h with h
    injection h with h
    rw [← h]
    exact zgk he
   | inr p =>
    obtain ⟨k, t, rest⟩ := p
    by_cases hn2 : n = 8192
    ·subst hn2
     rw [Lx.lexGo_many hs hr he] at h
     injection h with h
     injection h with h
     rw [← h]
     decide
    ·rw [Lx.lexGo_tok hs hr he hn2] at h
     cases hg : Uu f rest li' (co' + (r.length - rest.length)) (n + 1) with
     | inl ts => rw [hg] at h; cases h
     | inr e =>
      obtain ⟨x', a', b'⟩ := e
      rw [hg] at h
      injection h with h
      injection h with h
      rw [← h]
      have hlt : rest.length < r.length := by
       obtain ⟨c, hc, hne⟩ := Hn he
       have := congrArg List.length hc
       rw [List.length_append] at this
       have := List.length_pos_iff.2 hne
       omega
      exact Rv f rest _ _ _ x' a' b' (by omega) hg
theorem K2 {l : List UInt8} {x : Int} {a b : Nat} (h : Wb l = .inr (x, a, b)) : x ≠ 0 := by
 unfold Wb at h
 by_cases hl : 65536 < l.length
 ·rw [if_pos hl] at h
  injection h with h
  injection h with h
  rw [← h]
  decide
 ·rw [if_neg hl] at h
  exact Rv _ l 1 1 0 x a b (xU _) h
theorem Sw : ∀ {ts : List Tok}, TsOk ts → ∀ a (h : a < ts.length), (ts[a].kind ≠ 0 → a + 1 < ts.length) ∧ ts[a].text.length ≤ 70000 ∧ (ts[a].kind = 2 → ts[a].text ≠ [58])
 | [], h, _, _ => h.elim
 | [t], h, 0, _ => ⟨fun e => absurd h.1 e, h.2, fun e => by have := h.1; have e' : t.kind = 2 := e; rw [e'] at this; cases this⟩
 | t :: u :: r, h, 0, _ => ⟨fun _ => by simp, h.1.2.1, h.1.2.2⟩
 | t :: u :: r, h, a + 1, ha => by
  have := Sw h.2 a (by simpa using ha)
  exact ⟨fun e => by have := this.1 e; simpa using this, this.2⟩
theorem Lk {l : List UInt8} {ts : List Tok} (h : Wb l = .inl ts) : Z0 ts := by
 unfold Wb at h
 by_cases hl : 65536 < l.length
 ·rw [if_pos hl] at h; cases h
 ·rw [if_neg hl] at h
  obtain ⟨h1, h2⟩ := Rc _ l 1 1 0 ts (by omega) (by omega) h
  have hat := fun a ha => Sw h1 a ha
  have htk : ∀ a (ha : a < ts.length), Zg ts a = ts[a] := fun a ha => by
   unfold Zg
   rw [List.getD_eq_getElem?_getD, List.getElem?_eq_getElem ha]
   rfl
  refine ⟨fun a ha hk => ?_, ?_, by omega, fun a => ?_, fun a ha hk => ?_⟩
  ·rw [htk a ha] at hk
   exact (hat a ha).1 hk
  ·cases ts with
   | nil => exact h1.elim
   | cons t r => simp
  ·by_cases ha : a < ts.length
   ·rw [htk a ha]
    exact (hat a ha).2.1
   ·unfold Zg
    rw [List.getD_eq_getElem?_getD, List.getElem?_eq_none (by omega)]
    simp
  ·rw [htk a ha] at hk ⊢
   exact (hat a ha).2.2 hk
end Go.Proofs.YtbnjllkkhhkkaaaGreatDoor
namespace Go.Proofs.YtbnjllkkhhkkaaaGreatDoor.Lx
open Tryz
open Go.RowKit
def Ya (s : ByteArray) (k : Nat) (p : UInt8 → Bool) : Nat := k + ((s.data.toList.drop k).takeWhile p).length
theorem Qz (s : ByteArray) (k : Nat) (p : UInt8 → Bool) (hk : k ≤ s.size) : Ya s k p ≤ s.size := by
 unfold Ya
 have h : ((s.data.toList.drop k).takeWhile p).length ≤ (s.data.toList.drop k).length := (List.takeWhile_sublist p).length_le
 rw [List.length_drop, Yp] at h
 omega
theorem Pk {s : ByteArray} {k : Nat} {p : UInt8 → Bool} (hk : k < s.size) (h : p s[k] = true) : Ya s k p = Ya s (k + 1) p := by
 unfold Ya
 rw [Y0 s k hk, List.takeWhile_cons_of_pos h, List.length_cons]
 omega
theorem M5 {s : ByteArray} {k : Nat} {p : UInt8 → Bool} (hk : k < s.size) (h : p s[k] = false) : Ya s k p = k := by
 unfold Ya
 rw [Y0 s k hk, List.takeWhile_cons_of_neg (by rw [h]; decide)]
 rfl
theorem Mw {s : ByteArray} {k : Nat} {p : UInt8 → Bool} (hk : ¬ k < s.size) : Ya s k p = k := by
 unfold Ya
 rw [List.drop_eq_nil_of_le (by rw [Yp]; omega)]
 rfl
theorem K7 (s : ByteArray) (hs : s.size ≤ 140737488351232) (k : Nat) (hk : k ≤ s.size) (w : World) :
  Calls prog 161 #[.string s, .int .i64 k, .func (.func 165) #[] #[]] w fun e w' => e = .returned (.int .i64 (Ya s k Yc)) ∧ w' = w := by
 go_enter func161, ntmps161
 go_wp2
 go_loop [7] (fun i => ∃ m : Nat, m ≤ s.size ∧ i = .int .i64 m ∧ Ya s k Yc = Ya s m Yc) (fun i => s.size - (intOf i).toNat)
 case atStart => exact ⟨k, hk, rfl, rfl⟩
 case round =>
  obtain ⟨m, hm, rfl, hrow⟩ := hrel
  have HR := Za hrow
  clear hrow
  by_cases hlt : m < s.size
  ·have hc := Hf s[m]
   have hyes := Pk (p := Yc) hlt
   have hno := M5 (p := Yc) hlt
   cases hp : Yc s[m]
   ·rw [hp] at hc
    have E := Za (hno hp)
    have HC := Za hc
    clear hyes hno hp hc
    go_wp2_with fail
    refine (HC.o _).mono ?_
    rintro e w' ⟨rfl, rfl⟩
    go_wp2
    go_ret
    rw [HR.o, E.o]
    exact ⟨rfl, rfl⟩
   ·rw [hp] at hc
    have E := Za (hyes hp)
    have HC := Za hc
    clear hyes hno hp hc
    go_wp2_with fail
    refine (HC.o _).mono ?_
    rintro e w' ⟨rfl, rfl⟩
    go_wp2
    go_round
    case rel => exact ⟨m + 1, by omega, by go_num, HR.o.trans E.o⟩
    case measure => simp [intOf]; omega
  ·go_wp2
   go_ret
   rw [HR.o, Mw hlt]
   exact ⟨rfl, rfl⟩
theorem E8 (s : ByteArray) (hs : s.size ≤ 140737488351232) (k : Nat) (hk : k ≤ s.size) (w : World) :
  Calls prog 161 #[.string s, .int .i64 k, .func (.func 167) #[] #[]] w fun e w' => e = .returned (.int .i64 (Ya s k Ye)) ∧ w' = w := by
 go_enter func161, ntmps161
 go_wp2
 go_loop [7] (fun i => ∃ m : Nat, m ≤ s.size ∧ i = .int .i64 m ∧ Ya s k Ye = Ya s m Ye) (fun i => s.size - (intOf i).toNat)
 case atStart => exact ⟨k, hk, rfl, rfl⟩
 case round =>
  obtain ⟨m, hm, rfl, hrow⟩ := hrel
  have HR := Za hrow
  clear hrow
  by_cases hlt : m < s.size
  ·have hc := M3 s[m]
   have hyes := Pk (p := Ye) hlt
   have hno := M5 (p := Ye) hlt
   cases hp : Ye s[m]
   ·rw [hp] at hc
    have E := Za (hno hp)
    have HC := Za hc
    clear hyes hno hp hc
    go_wp2_with fail
    refine (HC.o _).mono ?_
    rintro e w' ⟨rfl, rfl⟩
    go_wp2
    go_ret
    rw [HR.o, E.o]
    exact ⟨rfl, rfl⟩
   ·rw [hp] at hc
    have E := Za (hyes hp)
    have HC := Za hc
    clear hyes hno hp hc
    go_wp2_with fail
    refine (HC.o _).mono ?_
    rintro e w' ⟨rfl, rfl⟩
    go_wp2
    go_round
    case rel => exact ⟨m + 1, by omega, by go_num, HR.o.trans E.o⟩
    case measure => simp [intOf]; omega
  ·go_wp2
   go_ret
   rw [HR.o, Mw hlt]
   exact ⟨rfl, rfl⟩
theorem Ic (s : ByteArray) (hs : s.size ≤ 140737488351232) (k : Nat) (hk : k ≤ s.size) (w : World) :
  Calls prog 161 #[.string s, .int .i64 k, .func (.func 162) #[] #[]] w fun e w' => e = .returned (.int .i64 (Ya s k Vi)) ∧ w' = w := by
 go_enter func161, ntmps161
 go_wp2
 go_loop [7] (fun i => ∃ m : Nat, m ≤ s.size ∧ i = .int .i64 m ∧ Ya s k Vi = Ya s m Vi) (fun i => s.size - (intOf i).toNat)
 case atStart => exact ⟨k, hk, rfl, rfl⟩
 case round =>
  obtain ⟨m, hm, rfl, hrow⟩ := hrel
  have HR := Za hrow
  clear hrow
  by_cases hlt : m < s.size
  ·have hc := Ii s[m]
   have hyes := Pk (p := Vi) hlt
   have hno := M5 (p := Vi) hlt
   cases hp : Vi s[m]
   ·rw [hp] at hc
    have E := Za (hno hp)
    have HC := Za hc
    clear hyes hno hp hc
    go_wp2_with fail
    refine (HC.o _).mono ?_
    rintro e w' ⟨rfl, rfl⟩
    go_wp2
    go_ret
    rw [HR.o, E.o]
    exact ⟨rfl, rfl⟩
   ·rw [hp] at hc
    have E := Za (hyes hp)
    have HC := Za hc
    clear hyes hno hp hc
    go_wp2_with fail
    refine (HC.o _).mono ?_
    rintro e w' ⟨rfl, rfl⟩
    go_wp2
    go_round
    case rel => exact ⟨m + 1, by omega, by go_num, HR.o.trans E.o⟩
    case measure => simp [intOf]; omega
  ·go_wp2
   go_ret
   rw [HR.o, Mw hlt]
   exact ⟨rfl, rfl⟩
end Go.Proofs.YtbnjllkkhhkkaaaGreatDoor.Lx
namespace Go.Proofs.YtbnjllkkhhkkaaaGreatDoor.Lx
open Tryz
open Go.RowKit Go.Maps
def Left (Xu : Nat) (todo : List Nat) (listed : Array Bool) : Prop := ∀ j, listed.getD j true = false ↔ (j ∈ todo ∨ j = Xu ∨ j = Xu + 1)
theorem zgg {Xu : Nat} {todo : List Nat} {listed : Array Bool} (h : Left Xu todo listed) {j : Nat} (hj : j ∈ todo) : j < listed.size := by
 have := (h j).2 (.inl hj)
 rcases Nat.lt_or_ge j listed.size with h' | h'
 ·exact h'
 ·simp [h'] at this
theorem Ac {listed : Array Bool} {j : Nat} (hj : listed.getD j true = false) : listed.getD j false = false := by
 rcases Nat.lt_or_ge j listed.size with h' | h'
 ·simp [h'] at hj ⊢; exact hj
 ·simp [h']
theorem zhj {Xu : Nat} {todo : List Nat} {listed : Array Bool} (h : Left Xu todo listed) (hn : todo.Nodup) {i : Nat} (hi : i ∈ todo) (ht : ∀ j ∈ todo, j < Xu) : Left Xu (todo.erase i) (listed.setIfInBounds i true) := by
 intro j
 by_cases hij : i = j
 ·subst hij
  have hlt := zgg h hi
  constructor
  ·intro h2
   simp [hlt] at h2
  ·rintro (h2 | h2 | h2)
   ·exact absurd h2 hn.not_mem_erase
   ·have := ht i hi; omega
   ·have := ht i hi; omega
 ·rw [getD_set_ne true hij, h j, List.mem_erase_of_ne (Ne.symm hij)]
section
variable {P : Program} {ops : Array Oper} {Q : Exit → Act → World → Prop} {a : Act}
theorem zae (B t k e Xu fuel : Nat) (K : Keyed P k) (ht : P.underlying t = some (.map k e)) (I : List Nat) (X : Nat → Value) (kl : Nat → Lit)
  (hop : ∀ i ∈ I, i < Xu ∧ ∃ o m x u, ops[i]? = some o ∧ o.guard = none ∧ o.dst = none ∧ o.op = .insert t m x u ∧ a.eval m = .map (some B) ∧ a.eval x = X i ∧ a.eval u = .agg #[] ∧ keyOf P k (X i) = some (kl i) ∧ ∀ y ∈ o.after, y.on < Xu ∧ y.on ∉ I)
  (htop : ∃ o, ops[Xu]? = some o ∧ ∀ j ∈ I, ∃ y ∈ o.after, y.on = j ∧ Region.binds .any y = true)
  (zhs : ∃ o, ops[Xu + 1]? = some o ∧ ∃ y ∈ o.after, y.on = Xu ∧ Region.binds .any y = true)
  (w0 : World) (hB : w0.heap.size ≤ B)
  (sz : Nat) (hfin : ∀ listed w D, listed.size = sz → Left Xu [] listed → w.ownsMap (H := Unit) P k unitElem B (I.length + 0) D → Below w0.heap.size w0 w → (∀ key, Maps.has D key = true ↔ ∃ i ∈ I, kl i = key) → wpAny P .any ops Q fuel listed a w) :
  ∀ (n m : Nat) (todo : List Nat) (listed : Array Bool) (w : World) (D : DataW Unit), todo.length = n → listed.size = sz → Left Xu todo listed → todo.Nodup → (∀ i ∈ todo, i ∈ I) →
   w.ownsMap P k unitElem B m D → m + n = I.length → I.length < 100 → Below w0.heap.size w0 w → (∀ i ∈ I, i ∉ todo → Maps.has D (kl i) = true) → (∀ key, Maps.has D key = true → ∃ i ∈ I, kl i = key) →
   wpAny P .any ops Q (n + fuel) listed a w := by
 intro n
 induction n with
 | zero =>
  intro m todo listed w D hl hsz hL hn hI hown hm hlen hb h1 h2
  have : todo = [] := List.eq_nil_of_length_eq_zero hl
  subst this
  rw [Nat.zero_add]
  refine hfin listed w D hsz hL (hown.mono (by omega)) hb fun key => ⟨h2 key, ?_⟩
  rintro ⟨i, hi, rfl⟩
  exact h1 i hi (by simp)
 | succ n ih =>
  intro m todo listed w D hl hsz hL hn hI hown hm hlen hb h1 h2
  rw [show n + 1 + fuel = (n + fuel) + 1 from by omega]
  have hmem : ∀ i ∈ Region.ready .any ops listed, i ∈ todo := by
   intro i hi
   obtain ⟨hf, o, ho, hall⟩ := mem_ready.1 hi
   rcases (hL i).1 hf with h | rfl | rfl
   ·exact h
   ·exfalso
    obtain ⟨o', ho', hj⟩ := htop
    rw [ho] at ho'
    cases ho'
    cases todo with
    | nil => simp at hl
    | cons j r =>
     obtain ⟨y, hy, hon, hbi⟩ := hj j (hI j (by simp))
     have h3 := hall y hy hbi
     rw [hon, Ac ((hL j).2 (.inl (by simp)))] at h3
     cases h3
   ·exfalso
    obtain ⟨o', ho', y, hy, hon, hbi⟩ := zhs
    rw [ho] at ho'
    cases ho'
    have h3 := hall y hy hbi
    rw [hon, Ac ((hL Xu).2 (.inr (.inl rfl)))] at h3
    cases h3
  refine ⟨?_, ?_⟩
  ·intro h0
   exfalso
   cases todo with
   | nil => simp at hl
   | cons j r =>
    obtain ⟨hjt, o, m', x, u, ho, _, _, _, _, _, _, _, haft⟩ := hop j (hI j (by simp))
    have hr : j ∈ Region.ready .any ops listed := by
     refine mem_ready.2 ⟨(hL j).2 (.inl (by simp)), o, ho, fun y hy _ => ?_⟩
     obtain ⟨hy1, hy2⟩ := haft y hy
     have hts : Xu < listed.size := by
      have := (hL Xu).2 (.inr (.inl rfl))
      rcases Nat.lt_or_ge Xu listed.size with h' | h'
      ·exact h'
      ·simp [h'] at this
     have hne : ¬ listed.getD y.on true = false := by
      rw [hL y.on]
      rintro (h | h | h)
      ·exact hy2 (hI _ h)
      ·omega
      ·omega
     have hys : y.on < listed.size := by omega
     simp [hys] at hne ⊢
     exact hne
    rw [h0] at hr
    cases hr
  ·intro i hi
   have hit := hmem i hi
   obtain ⟨hjt, o, m', x, u, ho, hg, hd, hop', hem, hex, heu, hkey, _⟩ := hop i (hI i hit)
   obtain ⟨w', hrun, zho, zhn⟩ := hown.update K ht (by unfold maxLen; omega) hkey unitElem_mk
   unfold wpOp
   rw [ho]
   have hw : Region.wanted o (yielded ops a.tmps) = true := by simp [Region.wanted, hg]
   simp only [hw, if_true]
   refine .inl ?_
   unfold Oper.wp
   simp [execOp, hop', hem, hex, heu, hrun, Result.andThen, Oper.upon]
   have ea : a.put o.dst undef = a := by rw [hd]; rfl
   rw [ea]
   have hl2 : (todo.erase i).length = n := by rw [List.length_erase_of_mem hit]; omega
   refine ih (m + 1) (todo.erase i) (listed.setIfInBounds i true) w' _ hl2 (by rw [Array.size_setIfInBounds]; exact hsz) (zhj hL hn hit fun j hj => (hop j (hI j hj)).1) (hn.erase i) (fun j hj => hI j (List.mem_of_mem_erase hj)) zho (by omega) hlen
    (hb.grown zhn (by exact hb.size) (fun j hj => by cases hj; exact hB)) ?_ ?_
   ·intro j hj hjn
    by_cases hk : kl j = kl i
    ·rw [hk]; exact has_put_same hown.isMap (K.key hkey) _
    ·rw [has_put_other hk]
     refine h1 j hj fun hjt => hjn ?_
     rw [List.mem_erase_of_ne]
     ·exact hjt
     ·rintro rfl; exact hk rfl
   ·intro key hkey2
    by_cases hk : key = kl i
    ·exact ⟨i, hI i hit, hk.symm⟩
    ·rw [has_put_other hk] at hkey2
     exact h2 key hkey2
end
theorem F9 : laidOutB prog = true := by kernel_rfl
theorem Hh : Keyed prog 199 := Keyed.of_law (deep_law_laid F9 (m := 2) (by omega) (of_decide_eq_true (by kernel_rfl)) (by kernel_rfl) (by rw [underlying199]))
def U2 (a b : UInt8) : Value := .agg #[.int .u8 a.toNat, .int .u8 b.toNat]
theorem zdu (a b : UInt8) : ∃ kl, keyOf prog 199 (U2 a b) = some kl := by
 have hk : prog.keyType 199 = true := by kernel_rfl
 have hc : prog.cellsOf 199 = 2 := by kernel_rfl
 have hu : prog.cellsOf 5 = 1 := by kernel_rfl
 have hf : (U2 a b).formed prog 199 = true := by simp [U2, Value.formed, underlying199, hc]
 have hsz : 1 ≤ prog.types.size := of_decide_eq_true (by kernel_rfl)
 obtain ⟨d, hd⟩ : ∃ d, prog.types.size + 1 = d + 2 := ⟨prog.types.size - 1, by omega⟩
 have wa : (Lit.int .u8 (a.toNat : Int)).wf = true := WalkArith.wf_u8 ⟨by omega, by have := a.toNat_lt; omega⟩
 have wb : (Lit.int .u8 (b.toNat : Int)).wf = true := WalkArith.wf_u8 ⟨by omega, by have := b.toNat_lt; omega⟩
 unfold keyOf
 rw [underlying199]
 simp only [hk, hf, Bool.and_self, if_true]
 rw [hd]
 have hl : prog.keyLits (d + 2) 199 (U2 a b).cells.toList = some [.int .u8 a.toNat, .int .u8 b.toNat] := by
  simp [Program.keyLits, underlying199, underlying5, U2, Value.cells, hc, hu, wa, wb, List.range_succ]
 exact ⟨.string (keyBytes [.int .u8 a.toNat, .int .u8 b.toNat]), by rw [hl]; rfl⟩
theorem B0 (a b : UInt8) : keyOf prog 199 (U2 a b) = some ((keyOf prog 199 (U2 a b)).getD .nil) := by
 obtain ⟨kl, h⟩ := zdu a b
 rw [h]
 rfl
theorem Ce {a b c d : UInt8} (h : U2 a b = U2 c d) : a = c ∧ b = d := by
 simp [U2] at h
 exact ⟨UInt8.toNat_inj.1 (by omega), UInt8.toNat_inj.1 (by omega)⟩
def Qg : Nat → UInt8 × UInt8
 | 3 => (45, 62) | 6 => (61, 62) | 9 => (60, 58) | 12 => (60, 60) | 15 => (60, 61) | 18 => (62, 62) | 21 => (61, 61) | 24 => (43, 43) | _ => (0, 0)
def Me : List Nat := [3, 6, 9, 12, 15, 18, 21, 24]
theorem zah (a b : UInt8) (D : DataW Unit) (h : ∀ key, Maps.has D key = true ↔ ∃ i ∈ Me, (keyOf prog 199 (U2 (Qg i).1 (Qg i).2)).getD .nil = key) {kl : Lit} (hk : keyOf prog 199 (U2 a b) = some kl) : Maps.has D kl = U0.contains (a, b) := by
 rw [Bool.eq_iff_iff, h kl]
 constructor
 ·rintro ⟨i, hi, e⟩
  have h1 := B0 (Qg i).1 (Qg i).2
  rw [e] at h1
  obtain ⟨rfl, rfl⟩ := Ce (Hh.inj hk h1)
  revert hi
  exact (show ∀ i ∈ Me, U0.contains ((Qg i).1, (Qg i).2) = true by decide) i
 ·intro hc
  have hm : (a, b) ∈ U0 := by simpa using hc
  obtain ⟨i, hi, e⟩ := (show ∀ x ∈ U0, ∃ i ∈ Me, Qg i = x by decide) (a, b) hm
  refine ⟨i, hi, ?_⟩
  rw [e]
  exact Option.some.inj ((B0 a b).symm.trans hk)
def Nd (D : DataW Unit) : Prop := ∀ a b kl, keyOf prog 199 (U2 a b) = some kl → Maps.has D kl = U0.contains (a, b)
theorem I1 (w : World) : Calls prog 103 #[] w fun e w' => e = .returned (.map (some w.heap.size)) ∧
  ∃ D, w'.ownsMap prog 199 unitElem w.heap.size 8 D ∧ Nd D ∧ Below w.heap.size w w' := by
 have hmm := @run_makeMap prog
 go_enter func103, ntmps103
 go_wp2
 refine wp_region_any (by kernel_rfl) ?_
 change wpAny _ _ _ _ _ _ _ (World.drew _)
 refine wpAny_take (i := 1) (v := .agg #[.int .u8 45, .int .u8 62]) rfl (by kernel_rfl) (by kernel_rfl) (by kernel_rfl) (fun _ _ _ h => h) (Or.inl ⟨by rfl, by intro w; go_simp⟩) ?_
 refine wpAny_take (i := 2) (v := .agg #[]) rfl (by kernel_rfl) (by kernel_rfl) (by kernel_rfl) (fun _ _ _ h => h) (Or.inl ⟨by rfl, by intro w; go_simp⟩) ?_
 refine wpAny_take (i := 4) (v := .agg #[.int .u8 61, .int .u8 62]) rfl (by kernel_rfl) (by kernel_rfl) (by kernel_rfl) (fun _ _ _ h => h) (Or.inl ⟨by rfl, by intro w; go_simp⟩) ?_
 refine wpAny_take (i := 5) (v := .agg #[]) rfl (by kernel_rfl) (by kernel_rfl) (by kernel_rfl) (fun _ _ _ h => h) (Or.inl ⟨by rfl, by intro w; go_simp⟩) ?_
 refine wpAny_take (i := 7) (v := .agg #[.int .u8 60, .int .u8 58]) rfl (by kernel_rfl) (by kernel_rfl) (by kernel_rfl) (fun _ _ _ h => h) (Or.inl ⟨by rfl, by intro w; go_simp⟩) ?_
 refine wpAny_take (i := 8) (v := .agg #[]) rfl (by kernel_rfl) (by kernel_rfl) (by kernel_rfl) (fun _ _ _ h => h) (Or.inl ⟨by rfl, by intro w; go_simp⟩) ?_
 refine wpAny_take (i := 10) (v := .agg #[.int .u8 60, .int .u8 60]) rfl (by kernel_rfl) (by kernel_rfl) (by kernel_rfl) (fun _ _ _ h => h) (Or.inl ⟨by rfl, by intro w; go_simp⟩) ?_
 refine wpAny_take (i := 11) (v := .agg #[]) rfl (by kernel_rfl) (by kernel_rfl) (by kernel_rfl) (fun _ _ _ h => h) (Or.inl ⟨by rfl, by intro w; go_simp⟩) ?_
 refine wpAny_take (i := 13) (v := .agg #[.int .u8 60, .int .u8 61]) rfl (by kernel_rfl) (by kernel_rfl) (by kernel_rfl) (fun _ _ _ h => h) (Or.inl ⟨by rfl, by intro w; go_simp⟩) ?_
 refine wpAny_take (i := 14) (v := .agg #[]) rfl (by kernel_rfl) (by kernel_rfl) (by kernel_rfl) (fun _ _ _ h => h) (Or.inl ⟨by rfl, by intro w; go_simp⟩) ?_
 refine wpAny_take (i := 16) (v := .agg #[.int .u8 62, .int .u8 62]) rfl (by kernel_rfl) (by kernel_rfl) (by kernel_rfl) (fun _ _ _ h => h) (Or.inl ⟨by rfl, by intro w; go_simp⟩) ?_
 refine wpAny_take (i := 17) (v := .agg #[]) rfl (by kernel_rfl) (by kernel_rfl) (by kernel_rfl) (fun _ _ _ h => h) (Or.inl ⟨by rfl, by intro w; go_simp⟩) ?_
 refine wpAny_take (i := 19) (v := .agg #[.int .u8 61, .int .u8 61]) rfl (by kernel_rfl) (by kernel_rfl) (by kernel_rfl) (fun _ _ _ h => h) (Or.inl ⟨by rfl, by intro w; go_simp⟩) ?_
 refine wpAny_take (i := 20) (v := .agg #[]) rfl (by kernel_rfl) (by kernel_rfl) (by kernel_rfl) (fun _ _ _ h => h) (Or.inl ⟨by rfl, by intro w; go_simp⟩) ?_
 refine wpAny_take (i := 22) (v := .agg #[.int .u8 43, .int .u8 43]) rfl (by kernel_rfl) (by kernel_rfl) (by kernel_rfl) (fun _ _ _ h => h) (Or.inl ⟨by rfl, by intro w; go_simp⟩) ?_
 refine wpAny_take (i := 23) (v := .agg #[]) rfl (by kernel_rfl) (by kernel_rfl) (by kernel_rfl) (fun _ _ _ h => h) (Or.inl ⟨by rfl, by intro w; go_simp⟩) ?_
 refine wpAny_ready (rs := [0]) (by kernel_rfl) (by simp) ?_
 refine AllReady.cons rfl (fun K hK => ?_) AllReady.nil
 go_simp
 refine hK _ _ ?_
 clear hK K
 refine zae w.heap.size 143 199 200 25 2 Hh underlying143 Me (fun i => U2 (Qg i).1 (Qg i).2) (fun i => (keyOf prog 199 (U2 (Qg i).1 (Qg i).2)).getD .nil)
  ?hop ⟨_, rfl, ?ht⟩ ⟨_, rfl, ?hn⟩ w (xR) 27 ?fin 8 0 Me _ _ (.map []) rfl rfl ?left (by decide) (fun _ h => h) (World.ownsMap_made w.drew _ _ _) rfl (by decide) ?below (fun i hi hn => absurd hi hn) (fun key h => by cases h)
 case hop =>
  intro i hi
  simp only [Me, List.mem_cons, List.not_mem_nil, or_false] at hi
  rcases hi with rfl | rfl | rfl | rfl | rfl | rfl | rfl | rfl
  all_goals exact ⟨by omega, _, _, _, _, rfl, rfl, rfl, rfl, rfl, rfl, rfl, B0 _ _, by decide⟩
 case ht => decide
 case hn => exact ⟨{ on := 25, ground := .data }, by simp, rfl, rfl⟩
 case left =>
  intro j
  by_cases hj : j < 27
  ·revert j
   decide
  ·have h1 : j ≠ 25 ∧ j ≠ 26 := by omega
   have h2 : j ∉ Me := by
    intro h
    have := (show ∀ i ∈ Me, i < 27 by decide) j h
    omega
   constructor
   ·intro h
    simp [hj] at h
   ·rintro (h | h | h)
    ·exact absurd h h2
    ·exact absurd h h1.1
    ·exact absurd h h1.2
 case below => exact (Below.refl _ w).drew.alloc (xR) _
 case fin =>
  intro listed w1 D hsz hL hown hb hD
  have hlit : listed = #[true, true, true, true, true, true, true, true, true, true, true, true, true, true, true, true, true, true, true, true, true, true, true, true, true, false, false] := by
   apply Array.ext
   ·rw [hsz]; rfl
   ·intro j h1 h2
    have hj : j < 27 := by omega
    have e1 : listed.getD j true = listed[j] := by simp [h1]
    have e2 := hL j
    rw [e1] at e2
    have e3 : ∀ j (h : j < 27), (#[true, true, true, true, true, true, true, true, true, true, true, true, true, true, true, true, true, true, true, true, true, true, true, true, true, false, false] : Array Bool)[j] = false ↔ (j = 25 ∨ j = 26) := by decide
    rw [Bool.eq_iff_iff, ← Bool.not_eq_false, ← Bool.not_eq_false, e2, e3 j hj]
    simp
  subst hlit
  have hP : Nd D := fun a b kl hk => zah a b D hD hk
  refine wpAny_ready (rs := [25]) (by kernel_rfl) (by simp) ?_
  refine AllReady.cons rfl (fun K hK => ?_) AllReady.nil
  go_simp
  refine hK _ _ ?_
  clear hK K
  refine wpAny_ready (rs := [26]) (by kernel_rfl) (by simp) ?_
  refine AllReady.cons rfl (fun K hK => ?_) AllReady.nil
  go_simp
  refine hK _ _ ?_
  clear hK K
  refine wpAny_done (by kernel_rfl) ?_ _
  go_wp2
  go_ret
  exact ⟨rfl, D, hown, hP, hb⟩
end Go.Proofs.YtbnjllkkhhkkaaaGreatDoor.Lx
