/- Part of the proof of ParseTypes: the texts that follow, in build order. -/
import Derived.Test.YtfjlkkohccihnabGreatDoorPart14
import Derived.Defers
import Derived.Recover
import Derived.Test.YtfjlkkohccihnabGreatDoorPart1
import Derived.KernelRfl
import Derived.Test.YtfjlkkohccihnabGreatDoorPart4
import Derived.Test.YtfjlkkohccihnabGreatDoorPart10
import Derived.Maps.OwnSet
import Derived.RegionTactic
import Derived.WalkKit
import Derived.DeepKeys4
import Derived.Test.YtfjlkkohccihnabGreatDoorProg

/- Atoms as they were said; where it goes on. -/
namespace Go.Proofs.YtfjlkkohccihnabGreatDoor
open Go.RowKit

section
variable {ts : List Tok} {K E U sub : Nat → Pr Ty} {f a : Nat} {x : Ty}

theorem sees_kind {s : List UInt8} (h : seesA ts a s = true) : (tkA ts a).kind ≠ 3 ∧ (tkA ts a).kind ≠ 4 ∧ (tkA ts a).kind ≠ 1 := by
  unfold seesA at h
  simp only [Bool.and_eq_true, Bool.or_eq_true, beq_iff_eq] at h
  rcases h.1 with h | h <;> (rw [h]; decide)

theorem sees_not {s s' : List UInt8} (h : seesA ts a s = true) (hn : (s == s') = false) : ¬ seesA ts a s' = true := by
  rw [sees_two h (by simpa using hn)]
  simp

/-- The atom's rule, once it is no number and no string. -/
def atomW (ts : List Tok) (K E : Nat → Pr Ty) (f a : Nat) : Pr Ty :=
  if seesA ts a [116, 114, 117, 101] then .inl (mkE 2 [] 1 (lineA ts a) (colA ts a) [] [] [], a + 1)
  else if seesA ts a [102, 97, 108, 115, 101] then .inl (mkE 2 [] 0 (lineA ts a) (colA ts a) [] [] [], a + 1)
  else if seesA ts a [110, 117, 108, 108] then .inl (mkE 3 [] 0 (lineA ts a) (colA ts a) [] [] [], a + 1)
  else if seesA ts a [114, 101, 97, 100] then (wantA ts (a + 1) [40]).go fun _ b => (wantA ts b [41]).go fun _ b => .inl (mkE 18 [] 0 (lineA ts a) (colA ts a) [] [] [], b)
  else if seesA ts a [112, 114, 105, 110, 116] then (wantA ts (a + 1) [40]).go fun _ b => (E b).go fun x b => (wantA ts b [41]).go fun _ b => .inl (mkE 17 [] 0 (lineA ts a) (colA ts a) [] [] [x], b)
  else if seesA ts a [40] then (E (a + 1)).go fun x b => (wantA ts b [41]).go fun _ b => .inl (x, b)
  else if seesA ts a [123] then recA ts E f a
  else (nameA ts a).go fun s b => if seesA ts b [91] then (manyA ts K [44] f (b + 1)).go fun l b => (wantA ts b [93]).go fun _ b => .inl (mkE 19 s 0 (lineA ts a) (colA ts a) l [] [], b) else .inl (mkE 4 s 0 (lineA ts a) (colA ts a) [] [] [], b)

theorem atom_word {s : List UInt8} (h : seesA ts a s = true) : atomA ts K E f a = atomW ts K E f a := by
  obtain ⟨h3, h4, _⟩ := sees_kind h
  unfold atomA atomW
  rw [if_neg (by simpa using h3), if_neg (by simpa using h4)]

theorem atom_true (h : seesA ts a [116, 114, 117, 101] = true) : atomA ts K E f a = .inl (mkE 2 [] 1 (tkA ts a).line (tkA ts a).col [] [] [], a + 1) := by
  rw [atom_word h, atomW, if_pos h]
  rfl
theorem atom_false (h : seesA ts a [102, 97, 108, 115, 101] = true) : atomA ts K E f a = .inl (mkE 2 [] 0 (tkA ts a).line (tkA ts a).col [] [] [], a + 1) := by
  rw [atom_word h, atomW, if_neg (sees_not h rfl), if_pos h]
  rfl
theorem atom_null (h : seesA ts a [110, 117, 108, 108] = true) : atomA ts K E f a = .inl (mkE 3 [] 0 (tkA ts a).line (tkA ts a).col [] [] [], a + 1) := by
  rw [atom_word h, atomW, if_neg (sees_not h rfl), if_neg (sees_not h rfl), if_pos h]
  rfl
theorem atom_readE (h : seesA ts a [114, 101, 97, 100] = true) : atomA ts K E f a = (wantA ts (a + 1) [40]).go fun _ b => (wantA ts b [41]).go fun _ b => .inl (mkE 18 [] 0 (tkA ts a).line (tkA ts a).col [] [] [], b) := by
  rw [atom_word h, atomW, if_neg (sees_not h rfl), if_neg (sees_not h rfl), if_neg (sees_not h rfl), if_pos h]
  rfl
theorem atom_printE (h : seesA ts a [112, 114, 105, 110, 116] = true) : atomA ts K E f a = ((wantA ts (a + 1) [40]).go fun _ b => (E b).go fun x b => (wantA ts b [41]).go fun _ b => .inl (x, b)).go fun x b => .inl (mkE 17 [] 0 (tkA ts a).line (tkA ts a).col [] [] [x], b) := by
  rw [atom_word h, atomW, if_neg (sees_not h rfl), if_neg (sees_not h rfl), if_neg (sees_not h rfl), if_neg (sees_not h rfl), if_pos h, go_go]
  refine go_ext fun _ b => ?_
  rw [go_go]
  refine go_ext fun x b => ?_
  rw [go_go]
  rfl
theorem atom_brE (h : seesA ts a [40] = true) : atomA ts K E f a = ((wantA ts a [40]).go fun _ b => (E b).go fun x b => (wantA ts b [41]).go fun _ b => .inl (x, b)).go fun x b => .inl (x, b) := by
  rw [atom_word h, atomW, if_neg (sees_not h rfl), if_neg (sees_not h rfl), if_neg (sees_not h rfl), if_neg (sees_not h rfl), if_neg (sees_not h rfl), if_pos h, go_same, want_sees h, pr_inl]

theorem sign_colon (ok : ToksOk ts) (b : Nat) : seesA ts b [58] = ((tkA ts b).kind == 5 && (tkA ts b).text == [58]) := by
  unfold seesA
  by_cases h2 : (tkA ts b).kind = 2
  · have hlt : b < ts.length := by
      by_cases hb : b < ts.length
      · exact hb
      · exfalso
        unfold tkA at h2
        rw [List.getD_eq_getElem?_getD, List.getElem?_eq_none (by omega)] at h2
        simp at h2
    have := ok.wrd b hlt h2
    rw [h2]
    simp [this]
  · have e : ((tkA ts b).kind == 2) = false := by simpa using h2
    rw [e, Bool.false_or]

theorem atom_recE (ok : ToksOk ts) (h : seesA ts a [123] = true) : atomA ts K E f a = (bracesA ts E f (a + 1)).go fun x b => .inl (placeT (tkA ts a) x, b) := by
  rw [atom_word h, atomW, if_neg (sees_not h rfl), if_neg (sees_not h rfl), if_neg (sees_not h rfl), if_neg (sees_not h rfl), if_neg (sees_not h rfl), if_neg (sees_not h rfl), if_pos h]
  unfold recA bracesA
  by_cases h1 : seesA ts (a + 1) [125] = true
  · rw [if_pos h1, if_pos h1, fields_none h1]
    rfl
  · rw [if_neg h1, if_neg h1, sign_colon ok]
    by_cases h2 : ((tkA ts (a + 1)).kind == 1 && ((tkA ts (a + 1 + 1)).kind == 5 && (tkA ts (a + 1 + 1)).text == [58])) = true
    · rw [if_pos h2, if_pos h2, fieldsA, if_neg h1, go_go, go_go]
      refine go_ext fun l b => ?_
      rw [go_go]
      rfl
    · rw [if_neg h2, if_neg h2, go_go]
      refine go_ext fun x b => ?_
      rw [go_go]
      refine go_ext fun _ b => ?_
      rw [go_go]
      refine go_ext fun s b => ?_
      rw [go_go]
      refine go_ext fun _ b => ?_
      rw [go_go]
      refine go_ext fun y b => ?_
      rw [go_go]
      rfl

theorem atom_speltE (h3 : (constL.any fun s => seesA ts a s) = false) (hp : seesA ts a [112, 114, 105, 110, 116] = false) (hr : seesA ts a [114, 101, 97, 100] = false) (hb : seesA ts a [40] = false) (hc : seesA ts a [123] = false) : atomA ts K E f a = (speltA ts K f a).go fun x b => .inl (x, b) := by
  rw [go_same]
  have hn : ∀ s ∈ constL, ¬ seesA ts a s = true := fun s hs => by
    have := List.any_eq_false.1 h3 s hs
    exact this
  unfold atomA speltA
  by_cases k3 : (tkA ts a).kind = 3
  · rw [if_pos (by simpa using k3), if_pos k3]
    rfl
  · rw [if_neg (by simpa using k3), if_neg k3]
    by_cases k4 : (tkA ts a).kind = 4
    · rw [if_pos (by simpa using k4), if_pos k4]
      rfl
    · rw [if_neg (by simpa using k4), if_neg k4, if_neg (hn _ (by simp [constL])), if_neg (hn _ (by simp [constL])), if_neg (hn _ (by simp [constL])), if_neg (by simp [hr]), if_neg (by simp [hp]), if_neg (by simp [hb]), if_neg (by simp [hc])]
      unfold nameA namedA
      by_cases k1 : (tkA ts a).kind = 1
      · rw [if_pos (by simpa using k1), if_pos k1]
        rfl
      · rw [if_neg (by simpa using k1), if_neg k1]
        rfl

theorem up_left {L : List (List UInt8)} (hs : ∀ a x b, sub a = .inl (x, b) → a ≤ b) : ∀ (f : Nat) (x : Ty) {a c : Nat}, a ≤ c → UpP a (leftA ts L sub f x c)
  | 0, _, _, _, _ => up_bad _ _
  | f + 1, x, a, c, h => by
    rw [leftA]
    cases L.find? (seesA ts c) with
    | none => exact up_now h _
    | some s => exact up_go (up_at hs (by omega)) fun y b hb => up_left hs f _ hb
theorem up_rank {L : List (List UInt8)} (hs : ∀ a x b, sub a = .inl (x, b) → a ≤ b) (f : Nat) : ∀ a x b, ((sub a).go fun x a => leftA ts L sub f x a) = .inl (x, b) → a ≤ b := fun a x b h =>
  up_go (up_at hs (Nat.le_refl a)) (fun y _ hc => up_left hs f y hc) x b h
theorem up_cmp (hK : ∀ a x b, K a = .inl (x, b) → a ≤ b) (hs : ∀ a x b, sub a = .inl (x, b) → a ≤ b) : ∀ a x b, cmpA ts K sub a = .inl (x, b) → a ≤ b := fun a x b h => by
  rw [cmp_eq] at h
  refine up_go (a := a) (up_at hs (Nat.le_refl a)) (fun y c hc => ?_) x b h
  unfold cmpB
  refine up_ite (up_go (up_at hs (by omega)) fun _ _ h1 => up_now h1 _) (up_ite ?_ (up_ite (up_go (up_at hK (by omega)) fun _ _ h1 => up_now h1 _) (up_now hc _)))
  refine up_go (r := tagA ts (c + 1)) ?_ fun _ _ h1 => up_now h1 _
  unfold tagA
  exact up_ite (up_now (by omega) _) (up_bad _ _)
theorem up_post (hE : ∀ a x b, E a = .inl (x, b) → a ≤ b) : ∀ (f : Nat) (x : Ty) {a c : Nat}, a ≤ c → UpP a (postA ts E f x c)
  | 0, _, _, _, _ => up_bad _ _
  | f + 1, x, a, c, h => by
    rw [postA]
    exact up_ite (up_go (up_at hE (by omega)) fun _ _ h1 => up_go (up_want h1 _) fun _ _ h2 => up_post hE f _ h2) (up_ite (up_go (up_name (by omega)) fun _ _ h1 => up_post hE f _ h1) (up_now h _))
theorem up_atom (hK : ∀ a x b, K a = .inl (x, b) → a ≤ b) (hE : ∀ a x b, E a = .inl (x, b) → a ≤ b) (f : Nat) : ∀ a x b, atomA ts K E f a = .inl (x, b) → a ≤ b := fun a x b h => by
  have hu : UpP a (atomA ts K E f a) := by
    unfold atomA
    refine up_ite (up_now (by omega) _) (up_ite (up_now (by omega) _) (up_ite (up_now (by omega) _) (up_ite (up_now (by omega) _) (up_ite (up_now (by omega) _) (up_ite ?_ (up_ite ?_ (up_ite ?_ (up_ite ?_ ?_))))))))
    · exact up_go (up_want (by omega) _) fun _ _ h1 => up_go (up_want h1 _) fun _ _ h2 => up_now h2 _
    · exact up_go (up_want (by omega) _) fun _ _ h1 => up_go (up_at hE h1) fun _ _ h2 => up_go (up_want h2 _) fun _ _ h3 => up_now h3 _
    · exact up_go (up_at hE (by omega)) fun _ _ h2 => up_go (up_want h2 _) fun _ _ h3 => up_now h3 _
    · unfold recA
      refine up_ite (up_now (by omega) _) (up_ite ?_ ?_)
      · exact up_go (up_many (fun a x b e => up_field hE (Nat.le_refl _) x b e) f (by omega)) fun _ _ h1 => up_go (up_want h1 _) fun _ _ h2 => up_now h2 _
      · exact up_go (up_at hE (by omega)) fun _ _ h1 => up_go (up_want h1 _) fun _ _ h2 => up_go (up_name h2) fun _ _ h3 => up_go (up_want h3 _) fun _ _ h4 => up_go (up_at hE h4) fun _ _ h5 => up_go (up_want h5 _) fun _ _ h6 => up_now h6 _
    · exact up_go (up_name (Nat.le_refl _)) fun _ _ h1 => up_ite (up_go (up_many hK f (by omega)) fun _ _ h2 => up_go (up_want h2 _) fun _ _ h3 => up_now h3 _) (up_now h1 _)
  exact hu x b h
theorem up_note (hK : ∀ a x b, K a = .inl (x, b) → a ≤ b) {c : Nat} (h : a ≤ c) : UpP a (noteA ts K c) := up_ite (up_go (up_at hK (by omega)) fun _ _ h1 => up_now h1 _) (up_now h _)
theorem up_expr (hK : ∀ a x b, K a = .inl (x, b) → a ≤ b) (hE : ∀ a x b, E a = .inl (x, b) → a ≤ b) (hU : ∀ a x b, U a = .inl (x, b) → a ≤ b) (f : Nat) : ∀ a x b, exprA ts K E U f a = .inl (x, b) → a ≤ b := fun a x b h => by
  have hor : UpP a (orA ts K U f a) := fun x b h => up_rank (sub := andA ts K U f) (fun a x b h => up_rank (sub := cmpA ts K (catA ts U f)) (up_cmp hK (fun a x b h => up_rank (sub := sumA ts U f) (fun a x b h => up_rank (sub := termA ts U f) (fun a x b h => up_rank hU f a x b h) f a x b h) f a x b h)) f a x b h) f a x b h
  have hu : UpP a (exprA ts K E U f a) := by
    unfold exprA
    refine up_ite ?_ (up_ite ?_ (up_ite ?_ hor))
    · exact up_go (up_name (by omega)) fun _ _ h1 => up_go (up_note hK h1) fun _ _ h2 => up_go (up_want h2 _) fun _ _ h3 => up_go (up_at hE h3) fun _ _ h4 => up_go (up_want h4 _) fun _ _ h5 => up_go (up_at hE h5) fun _ _ h6 => up_now h6 _
    · exact up_go (up_at hE (by omega)) fun _ _ h1 => up_go (up_want h1 _) fun _ _ h2 => up_go (up_at hE h2) fun _ _ h3 => up_go (up_want h3 _) fun _ _ h4 => up_go (up_at hE h4) fun _ _ h5 => up_now h5 _
    · refine up_go (r := headA ts K (a + 1)) ?_ fun _ _ h1 => up_go (up_want h1 _) fun _ _ h2 => up_go (up_at hE h2) fun _ _ h3 => up_now h3 _
      exact up_go (up_want (by omega) _) fun _ _ h1 => up_go (up_name h1) fun _ _ h2 => up_go (up_note hK h2) fun _ _ h3 => up_go (up_want h3 _) fun _ _ h4 => up_go (up_note hK h4) fun _ _ h5 => up_now h5 _
  exact hu x b h
theorem deep_up (ts : List Tok) (f : Nat) : ∀ (n : Nat) (u : Bool) (d a : Nat) (x : Ty) (b : Nat), deepA ts f n u d a = .inl (x, b) → a ≤ b
  | 0, _, _, _, _, _, h => by cases h
  | n + 1, u, d, a, x, b, h => by
    have hK : ∀ a x b, kindA ts f 101 (d + 1) a = .inl (x, b) → a ≤ b := fun a x b h => kind_up h
    have hE := deep_up ts f n false (d + 1)
    have hU := deep_up ts f n true (d + 1)
    unfold deepA at h
    by_cases hd : 100 ≤ d
    · rw [if_pos hd] at h
      cases h
    · rw [if_neg hd] at h
      cases u with
      | false => exact up_expr hK hE hU f a x b h
      | true =>
        have hu : UpP a (if seesA ts a [45] then (deepA ts f n true (d + 1) (a + 1)).go fun x b => .inl (mkE 16 [] 0 (lineA ts a) (colA ts a) [] [] [x], b)
            else if seesA ts a [110, 111, 116] then (deepA ts f n true (d + 1) (a + 1)).go fun x b => .inl (mkE 15 [] 0 (lineA ts a) (colA ts a) [] [] [x], b)
            else (atomA ts (kindA ts f 101 (d + 1)) (deepA ts f n false (d + 1)) f a).go fun x b => postA ts (deepA ts f n false (d + 1)) f x b : Pr Ty) :=
          up_ite (up_go (up_at hU (by omega)) fun _ _ h1 => up_now h1 _) (up_ite (up_go (up_at hU (by omega)) fun _ _ h1 => up_now h1 _) (up_go (fun x b h => up_atom hK hE f a x b h) fun y c hc => up_post hE f y hc))
        exact hu x b h
end
end Go.Proofs.YtfjlkkohccihnabGreatDoor

/- The parser of expressions by its contract. -/
namespace Go.Proofs.YtfjlkkohccihnabGreatDoor
open Go.RowKit

theorem atom_c (pb tb cap d : Nat) (ts : List Tok) (K E : Nat → Pr Ty) (hK : Reads pb tb cap d ts TyE 30 K) (hE : Reads pb tb cap d ts NdE 23 E) (ok : ToksOk ts) (a : Nat) (w : World) (h : Ps w pb tb cap ts a d) :
    Calls Tryz.prog 227 #[.pointer (some ⟨pb, 0, none⟩)] w (PPost pb tb cap ts d w NdE (atomA ts K E ts.length a)) := by
  cases h3 : constL.any fun s => seesA ts a s with
  | true =>
    obtain ⟨s, hs, h2⟩ := List.any_eq_true.1 h3
    have hs' : s = [116, 114, 117, 101] ∨ s = [102, 97, 108, 115, 101] ∨ s = [110, 117, 108, 108] := by simpa [constL] using hs
    rcases hs' with rfl | rfl | rfl
    · rw [atom_true h2]
      exact atom_const pb tb cap d a ts _ (fun w h => const_true pb tb cap d ts ok a h2 w h) ok h3 w h
    · rw [atom_false h2]
      exact atom_const pb tb cap d a ts _ (fun w h => const_false pb tb cap d ts ok a h2 w h) ok h3 w h
    · rw [atom_null h2]
      exact atom_const pb tb cap d a ts _ (fun w h => const_null pb tb cap d ts ok a h2 w h) ok h3 w h
  | false =>
    cases hp : seesA ts a [112, 114, 105, 110, 116] with
    | true =>
      rw [atom_printE hp]
      exact atom_print pb tb cap d ts E hE ok a h3 hp w h
    | false =>
      cases hr : seesA ts a [114, 101, 97, 100] with
      | true =>
        rw [atom_readE hr]
        exact atom_read pb tb cap d ts ok a h3 hp hr w h
      | false =>
        cases hb : seesA ts a [40] with
        | true =>
          rw [atom_brE hb]
          exact atom_brackets pb tb cap d ts E hE ok a h3 hp hr hb w h
        | false =>
          cases hc : seesA ts a [123] with
          | true =>
            rw [atom_recE ok hc]
            exact atom_braces pb tb cap d ts E hE ok a h3 hp hr hb hc w h
          | false =>
            rw [atom_speltE h3 hp hr hb hc]
            exact atom_spelt pb tb cap d ts K hK ok a h3 hp hr hb hc w h

theorem atom_enters (pb : Nat) : Enters 227 pb := fun w => enters_of Tryz.func227 (by kernel_rfl) (by kernel_rfl) _ w
theorem post_enters (pb : Nat) : Enters 226 pb := fun w => enters_of Tryz.func226 (by kernel_rfl) (by kernel_rfl) _ w
theorem unary_enters (pb : Nat) : Enters 224 pb := fun w => enters_of Tryz.func224 (by kernel_rfl) (by kernel_rfl) _ w
theorem expr_enters (pb : Nat) : Enters 23 pb := fun w => enters_of Tryz.func23 (by kernel_rfl) (by kernel_rfl) _ w
theorem cmp_enters (pb : Nat) : Enters 196 pb := fun w => enters_of Tryz.func196 (by kernel_rfl) (by kernel_rfl) _ w
theorem unaryHere_enters (pb : Nat) : Enters 225 pb := fun w => enters_of Tryz.func225 (by kernel_rfl) (by kernel_rfl) _ w
theorem exprHere_enters (pb : Nat) : Enters 57 pb := fun w => enters_of Tryz.func57 (by kernel_rfl) (by kernel_rfl) _ w

/-- fullType at any depth. -/
theorem kind_reads (pb tb cap d : Nat) (ts : List Tok) (ok : ToksOk ts) (hd : d ≤ 100) : Reads pb tb cap d ts TyE 30 (kindA ts ts.length 101 d) where
  calls := fun a w h => by
    rw [kind_more ts ts.length 101 (101 - d) d a (by omega) (by omega)]
    exact kind_c pb tb cap ts ok (101 - d) d a w (by omega) hd h
  enters := kind_enters pb
  up := fun _ _ _ h => kind_up h

/-- or, and what stands within it. -/
theorem or_reads (pb tb cap d : Nat) (ts : List Tok) (K U : Nat → Pr Ty) (hK : Reads pb tb cap d ts TyE 30 K) (hU : Reads pb tb cap d ts NdE 224 U) (ok : ToksOk ts) :
    Reads pb tb cap d ts NdE 112 (orA ts K U ts.length) := by
  have h1 : Reads pb tb cap d ts NdE 221 (termA ts U ts.length) := ⟨fun a w h => pterm_c pb tb cap d ts U hU ok a w h, term_enters pb, fun a x b h => up_rank hU.up ts.length a x b h⟩
  have h2 : Reads pb tb cap d ts NdE 213 (sumA ts U ts.length) := ⟨fun a w h => psum_c pb tb cap d ts _ h1 ok a w h, sum_enters pb, fun a x b h => up_rank h1.up ts.length a x b h⟩
  have h3 : Reads pb tb cap d ts NdE 205 (catA ts U ts.length) := ⟨fun a w h => pcat_c pb tb cap d ts _ h2 ok a w h, cat_enters pb, fun a x b h => up_rank h2.up ts.length a x b h⟩
  have h4 : Reads pb tb cap d ts NdE 196 (cmpA ts K (catA ts U ts.length)) := ⟨fun a w h => by rw [cmp_eq]; exact cmp_c pb tb cap d ts K hK _ h3 ok a w h, cmp_enters pb, up_cmp hK.up h3.up⟩
  have h5 : Reads pb tb cap d ts NdE 173 (andA ts K U ts.length) := ⟨fun a w h => pand_c pb tb cap d ts _ h4 ok a w h, and_enters pb, fun a x b h => up_rank h4.up ts.length a x b h⟩
  exact ⟨fun a w h => por_c pb tb cap d ts _ h5 ok a w h, or_enters pb, fun a x b h => up_rank h5.up ts.length a x b h⟩

theorem exprHere_c (pb tb cap d : Nat) (ts : List Tok) (K E U : Nat → Pr Ty) (hK : Reads pb tb cap d ts TyE 30 K) (hE : Reads pb tb cap d ts NdE 23 E) (hU : Reads pb tb cap d ts NdE 224 U) (ok : ToksOk ts) (a : Nat) (w : World) (h : Ps w pb tb cap ts a d) :
    Calls Tryz.prog 57 #[.pointer (some ⟨pb, 0, none⟩)] w (PPost pb tb cap ts d w NdE (exprA ts K E U ts.length a)) := by
  cases h0 : seesA ts a [108, 101, 116] with
  | true =>
    have := here_let pb tb cap d a ts _ (fun w h => let_c pb tb cap d ts K E hK hE ok a w h) h0 ok w h
    rwa [go_same, let_eq (U := U) (f := ts.length) h0] at this
  | false =>
    cases h1 : seesA ts a [105, 102] with
    | true =>
      have := here_if pb tb cap d a ts _ (fun w h => choice_c pb tb cap d ts E hE ok a w h) h0 h1 ok w h
      rwa [go_same, if_eq (K := K) (U := U) (f := ts.length) h0 h1] at this
    | false =>
      cases h2 : seesA ts a [102, 110] with
      | true =>
        have := here_fn pb tb cap d a ts _ (fun w h => function_c pb tb cap d ts K E hK hE ok a w h) h0 h1 h2 ok w h
        rwa [go_same, fn_eq (U := U) (f := ts.length) h0 h1 h2] at this
      | false =>
        have := here_or pb tb cap d a ts _ (fun w h => (or_reads pb tb cap d ts K U hK hU ok).calls a w h) h0 h1 h2 ok w h
        rwa [go_same, or_eq (E := E) h0 h1 h2] at this

/-- expr (false) and unary (true), within d others. -/
theorem deep_c (pb tb cap : Nat) (ts : List Tok) (ok : ToksOk ts) : ∀ (n d : Nat), d + n = 101 → d ≤ 100 → ∀ (a : Nat) (w : World), Ps w pb tb cap ts a d →
    Calls Tryz.prog 23 #[.pointer (some ⟨pb, 0, none⟩)] w (PPost pb tb cap ts d w NdE (deepA ts ts.length n false d a)) ∧
    Calls Tryz.prog 224 #[.pointer (some ⟨pb, 0, none⟩)] w (PPost pb tb cap ts d w NdE (deepA ts ts.length n true d a))
  | 0, d, h1, h2, _, _, _ => absurd h1 (by omega)
  | n + 1, d, h1, h2, a, w, h => by
    unfold deepA
    by_cases hd : 100 ≤ d
    · obtain rfl : d = 100 := by omega
      rw [if_pos hd, if_pos hd]
      exact ⟨expr_of pb tb cap 100 ts _ w (fun w1 hb => withinN_deep pb tb cap a _ ts w1 (h.below hb)) h.ltp, unary_of pb tb cap 100 ts _ w (fun w1 hb => withinN_deep pb tb cap a _ ts w1 (h.below hb)) h.ltp⟩
    · rw [if_neg hd, if_neg hd]
      have hK := kind_reads pb tb cap (d + 1) ts ok (by omega)
      have hE : Reads pb tb cap (d + 1) ts NdE 23 (deepA ts ts.length n false (d + 1)) := ⟨fun a w h => (deep_c pb tb cap ts ok n (d + 1) (by omega) (by omega) a w h).1, expr_enters pb, fun a x b h => deep_up ts ts.length n false (d + 1) a x b h⟩
      have hU : Reads pb tb cap (d + 1) ts NdE 224 (deepA ts ts.length n true (d + 1)) := ⟨fun a w h => (deep_c pb tb cap ts ok n (d + 1) (by omega) (by omega) a w h).2, unary_enters pb, fun a x b h => deep_up ts ts.length n true (d + 1) a x b h⟩
      have hA : Reads pb tb cap (d + 1) ts NdE 227 (atomA ts (kindA ts ts.length 101 (d + 1)) (deepA ts ts.length n false (d + 1)) ts.length) := ⟨fun a w h => atom_c pb tb cap (d + 1) ts _ _ hK hE ok a w h, atom_enters pb, up_atom hK.up hE.up ts.length⟩
      have hP : Reads pb tb cap (d + 1) ts NdE 226 (fun a => (atomA ts (kindA ts ts.length 101 (d + 1)) (deepA ts ts.length n false (d + 1)) ts.length a).go fun x b => postA ts (deepA ts ts.length n false (d + 1)) ts.length x b) := ⟨fun a w h => post_c pb tb cap (d + 1) ts _ hA _ hE ok a w h, post_enters pb, fun a x b h => up_go (a := a) (up_at hA.up (Nat.le_refl a)) (fun y c hc => up_post hE.up ts.length y hc) x b h⟩
      exact ⟨expr_of pb tb cap d ts _ w (fun w1 hb => withinN_c pb tb cap a d _ ts _ (by omega) (fun w2 h2 => exprHere_c pb tb cap (d + 1) ts _ _ _ hK hE hU ok a w2 h2) (exprHere_enters pb) w1 (h.below hb)) h.ltp,
        unary_of pb tb cap d ts _ w (fun w1 hb => withinN_c pb tb cap a d _ ts _ (by omega) (fun w2 h2 => unaryHere_c pb tb cap (d + 1) ts _ _ hU hP ok a w2 h2) (unaryHere_enters pb) w1 (h.below hb)) h.ltp⟩
end Go.Proofs.YtfjlkkohccihnabGreatDoor

/- What is deferred: a Diag that was given up with is the answer. -/
namespace Go.Proofs.YtfjlkkohccihnabGreatDoor
open Go.RowKit

theorem heap_drew (W : World) : W.drew.heap = W.heap := rfl
theorem nil_neq (v : Value) (w : World) : (binOp .neq 20 (.iface 30 v) .nilIface).run Tryz.prog w = .ok (.bool true) w := by
  kernel_rfl
theorem assert_diag (v : Value) (w : World) : (Instr.typeAssert (.iface 30 v) 20 30 false).run Tryz.prog w = .ok v w := by kernel_rfl
theorem nil_nil (w : World) : (binOp .neq 20 .nilIface .nilIface).run Tryz.prog w = .ok (.bool false) w := by kernel_rfl

set_option maxRecDepth 100000 in
set_option maxHeartbeats 4000000 in
theorem catchT_idle (p q : Addr) (w : World) :
    CallsD Tryz.prog 63 #[.pointer (some p), .pointer (some q)] .returning w fun e u' w' => e = .returned (.tuple #[]) ∧ u' = .returning ∧ w' = w := by
  have hn := nil_nil
  refine callsD_of_wpS Tryz.func63 rfl fun c₀ cs hu => ?_
  apply wpS_seq
  apply wpS_region
  simp [wpOpsS, go_sem, recoverD, hu, Tryz.ntmps63, Exit.thenS]
  refine wpS_of_wp ?_
  simp only [Array.replicate, List.replicate, List.setIfInBounds_toArray, List.set_cons_zero, List.set_cons_succ, List.append_toArray, List.cons_append, List.nil_append]
  go_wp2
  cases c₀
  simp_all [bodyPostS, results, Tryz.results63]

set_option maxRecDepth 100000 in
set_option maxHeartbeats 4000000 in
theorem catchT_panic (ab db : Nat) (li co x : Int) (older : List PanicEntry) (w : World) (y0 y1 y2 y3 x0 x1 x2 x3 : Value) (ha : w.heap[ab]? = some (.cells #[y0, y1, y2, y3] 36)) (hd : w.heap[db]? = some (.cells #[x0, x1, x2, x3] 30)) (hab : ab ≠ db) :
    CallsD Tryz.prog 63 #[.pointer (some ⟨ab, 0, none⟩), .pointer (some ⟨db, 0, none⟩)] (.panicking ({ v := .iface 30 (diagV li co x), recovered := false } :: older)) w fun e u' w' => e = .returned (.tuple #[]) ∧ u' = .panicking ({ v := .iface 30 (diagV li co x), recovered := true } :: older) ∧
      (w'.heap[ab]? = some zTyO ∧ w'.heap[db]? = some (.cells #[.int .i64 0, .int .i64 li, .int .i64 co, .int .i64 x] 30)) ∧ Hid (∀ B, B ≤ ab → B ≤ db → Below B w w') := by
  have hn := nil_neq
  have hta := assert_diag
  obtain ⟨⟨a0, a1, a2, a3⟩, ⟨z0, z1, z2, z3⟩, hla⟩ := res_facts ha
  obtain ⟨⟨d0, d1, d2, d3⟩, ⟨g0, g1, g2, g3⟩, hld⟩ := res_facts hd
  have HA := hideP ha
  have HD := hideP hd
  clear ha hd
  have hab' : ¬ db = ab := fun e => hab e.symm
  refine callsD_of_wpS Tryz.func63 rfl fun c₀ cs hu => ?_
  apply wpS_seq
  apply wpS_region
  simp [wpOpsS, go_sem, recoverD, hu, Tryz.ntmps63, Exit.thenS]
  refine wpS_of_wp ?_
  simp only [Array.replicate, List.replicate, List.setIfInBounds_toArray, List.set_cons_zero, List.set_cons_succ, List.append_toArray, List.cons_append, List.nil_append]
  go_wp2
  go_region
  all_goals
    go_wp2
    refine ⟨rfl, _, rfl, .tuple #[], results_none rfl _ _ _, rfl, rfl, ⟨?_, ?_⟩, fun B h1 h2 => ?_⟩
    · rw [heap_drew]
      refine (Below.heap_alloc _ _ _ (by rw [size_set4, size_set4]; exact hla)).trans ?_
      exact (other_set4 hab _ _ _ _).trans (set4 HA.out _ _ _ _)
    · rw [heap_drew]
      refine (Below.heap_alloc _ _ _ (by rw [size_set4, size_set4]; exact hld)).trans ?_
      exact set4 ((other_set4 hab' _ _ _ _).trans HD.out) _ _ _ _
    · exact ((below_set4 (below_set4 (Below.refl _ w) h1 _ _ _ _) h2 _ _ _ _).alloc (by rw [size_set4, size_set4]; omega) _).drew
end Go.Proofs.YtfjlkkohccihnabGreatDoor

/- The steps of the tokens' function, and the chapter's examples; without a program in sight. -/
namespace Go.Proofs.YtfjlkkohccihnabGreatDoor.Lx

theorem lexGo_end {f n li co li' co' : Nat} {l : List UInt8} (h : skipV false l li co = ([], li', co')) : lexGo (f + 1) l li co n = .toks [⟨0, [], li', co'⟩] := by
  rw [lexGo, h]

theorem lexGo_bad {f n li co li' co' : Nat} {l r : List UInt8} {e : Int} (h : skipV false l li co = (r, li', co')) (hr : r ≠ []) (he : readV r = .bad e) : lexGo (f + 1) l li co n = .bad e li' co' := by
  cases r with
  | nil => exact absurd rfl hr
  | cons b r => rw [lexGo, h]; simp only; rw [he]

theorem lexGo_many {f li co li' co' : Nat} {l r t rest : List UInt8} {k : Int} (h : skipV false l li co = (r, li', co')) (hr : r ≠ []) (he : readV r = .tok k t rest) : lexGo (f + 1) l li co 8192 = .bad 19 li' co' := by
  cases r with
  | nil => exact absurd rfl hr
  | cons b r => rw [lexGo, h]; simp only; rw [he]; simp

theorem lexGo_tok {f n li co li' co' : Nat} {l r t rest : List UInt8} {k : Int} (h : skipV false l li co = (r, li', co')) (hr : r ≠ []) (he : readV r = .tok k t rest) (hn : n ≠ 8192) :
    lexGo (f + 1) l li co n = (lexGo f rest li' (co' + (r.length - rest.length)) (n + 1)).pre [⟨k, t, li', co'⟩] := by
  cases r with
  | nil => exact absurd rfl hr
  | cons b r => rw [lexGo, h]; simp only; rw [he]; simp [hn]

end Go.Proofs.YtfjlkkohccihnabGreatDoor.Lx

/- What of a text's tokens the parser leans on; without a program in sight. -/
namespace Go.Proofs.YtfjlkkohccihnabGreatDoor

/-- The last token alone is the end; no word is a colon. -/
def TsOk : List Tok → Prop
  | [] => False
  | [t] => t.kind = 0 ∧ t.text.length ≤ 70000
  | t :: u :: r => (t.kind ≠ 0 ∧ t.text.length ≤ 70000 ∧ (t.kind = 2 → t.text ≠ [58])) ∧ TsOk (u :: r)

theorem read_ok {l t rest : List UInt8} {k : Int} (hl : l.length ≤ 65536) (h : readV l = .tok k t rest) : k ≠ 0 ∧ t.length ≤ 70000 ∧ (k = 2 → t ≠ [58]) := by
  match l, h, hl with
  | [], h, _ => cases h
  | b :: r, h, hl =>
    have htl : ∀ p : UInt8 → Bool, ((b :: r).takeWhile p).length ≤ 70000 := fun p => by
      have := (List.takeWhile_sublist p (l := b :: r)).length_le
      omega
    unfold readV at h
    by_cases h1 : isLet b = true
    · simp only [h1, if_true] at h
      by_cases h2 : 32 < ((b :: r).takeWhile inNm).length
      · rw [if_pos h2] at h; cases h
      · rw [if_neg h2] at h
        obtain ⟨rfl, rfl, _⟩ := rd_inj h
        by_cases hw : wordsV.contains ((b :: r).takeWhile inNm) = true
        · rw [if_pos hw]
          refine ⟨by decide, htl _, fun _ e => ?_⟩
          rw [e] at hw
          exact absurd hw (by decide)
        · rw [if_neg hw]
          exact ⟨by decide, htl _, fun e => absurd e (by decide)⟩
    · simp only [h1] at h
      by_cases h2 : isDig b = true
      · simp only [h2, if_true] at h
        cases hp : parseV ((b :: r).takeWhile isDig) with
        | none => simp [hp] at h
        | some N =>
          simp only [hp] at h
          have h' : Rd.tok 3 ((b :: r).takeWhile isDig) ((b :: r).dropWhile isDig) = Rd.tok k t rest := by simpa using h
          obtain ⟨rfl, rfl, _⟩ := rd_inj h'
          exact ⟨by decide, htl _, fun e => absurd e (by decide)⟩
      · simp only [h2] at h
        by_cases h3 : b = 34
        · simp only [h3, if_true] at h
          cases hs : strV r [] with
          | none => simp [hs] at h
          | some p =>
            obtain ⟨said, rs⟩ := p
            simp only [hs] at h
            by_cases h4 : 256 < said.length
            · simp [h4] at h
            · have h' : Rd.tok 4 said rs = Rd.tok k t rest := by simpa [h4] using h
              obtain ⟨rfl, rfl, _⟩ := rd_inj h'
              exact ⟨by decide, by omega, fun e => absurd e (by decide)⟩
        · simp only [h3] at h
          by_cases h4 : signV (b :: r) = 0
          · simp [h4] at h
          · have h' : Rd.tok 5 ((b :: r).take (signV (b :: r))) ((b :: r).drop (signV (b :: r))) = Rd.tok k t rest := by simpa [h4] using h
            obtain ⟨rfl, rfl, _⟩ := rd_inj h'
            refine ⟨by decide, ?_, fun e => absurd e (by decide)⟩
            have := List.length_take_le (signV (b :: r)) (b :: r)
            have h5 := List.length_take_le' (signV (b :: r)) (b :: r)
            omega

theorem lexGo_ok : ∀ (f : Nat) (l : List UInt8) (li co n : Nat) (ts : List Tok), l.length ≤ 65536 → n ≤ 8192 → lexGo f l li co n = .inl ts → TsOk ts ∧ ts.length + n ≤ 8193
  | 0, _, _, _, _, _, _, _, h => by cases h
  | f + 1, l, li, co, n, ts, hl, hn, h => by
    obtain ⟨r, li', co', hs⟩ : ∃ r li' co', skipV false l li co = (r, li', co') := ⟨_, _, _, rfl⟩
    have hsuf := skip_suffix false l li co
    rw [hs] at hsuf
    have hrl : r.length ≤ 65536 := Nat.le_trans hsuf.length_le hl
    by_cases hr : r = []
    · subst hr
      rw [Lx.lexGo_end hs] at h
      injection h with h
      rw [← h]
      exact ⟨⟨rfl, Nat.zero_le _⟩, by simp; omega⟩
    · cases he : readV r with
      | inl e => rw [Lx.lexGo_bad hs hr he] at h; cases h
      | inr p =>
        obtain ⟨k, t, rest⟩ := p
        by_cases hn2 : n = 8192
        · subst hn2
          rw [Lx.lexGo_many hs hr he] at h
          cases h
        · rw [Lx.lexGo_tok hs hr he hn2] at h
          have hrest : rest.length ≤ 65536 := by
            obtain ⟨c, hc, _⟩ := readV_rest he
            have := congrArg List.length hc
            rw [List.length_append] at this
            omega
          cases hg : lexGo f rest li' (co' + (r.length - rest.length)) (n + 1) with
          | inr e => rw [hg] at h; cases h
          | inl ts' =>
            obtain ⟨h1, h2⟩ := lexGo_ok f rest li' _ (n + 1) ts' hrest (by omega) hg
            rw [hg] at h
            injection h with h
            rw [← h]
            refine ⟨?_, by simp; omega⟩
            match ts', h1 with
            | u :: r', h1 => exact ⟨read_ok hrl he, h1⟩

theorem read_bad {l : List UInt8} {e : Int} (h : readV l = .bad e) : e ≠ 0 := by
  match l, h with
  | [], h => injection h with h; rw [← h]; decide
  | b :: r, h =>
    unfold readV at h
    by_cases h1 : isLet b = true
    · simp only [h1, if_true] at h
      by_cases h2 : 32 < ((b :: r).takeWhile inNm).length
      · rw [if_pos h2] at h; injection h with h; rw [← h]; decide
      · rw [if_neg h2] at h; cases h
    · simp only [h1] at h
      by_cases h2 : isDig b = true
      · simp only [h2, if_true] at h
        cases hp : parseV ((b :: r).takeWhile isDig) with
        | none =>
          have h' : Rd.bad 3 = Rd.bad e := by simpa [hp] using h
          injection h' with h'; rw [← h']; decide
        | some N => simp [hp] at h
      · simp only [h2] at h
        by_cases h3 : b = 34
        · simp only [h3, if_true] at h
          cases hs : strV r [] with
          | none =>
            have h' : Rd.bad 4 = Rd.bad e := by simpa [hs] using h
            injection h' with h'; rw [← h']; decide
          | some p =>
            obtain ⟨said, rs⟩ := p
            simp only [hs] at h
            by_cases h4 : 256 < said.length
            · have h' : Rd.bad 2 = Rd.bad e := by simpa [h4] using h
              injection h' with h'; rw [← h']; decide
            · simp [h4] at h
        · simp only [h3] at h
          by_cases h4 : signV (b :: r) = 0
          · have h' : Rd.bad 5 = Rd.bad e := by simpa [h4] using h
            injection h' with h'; rw [← h']; decide
          · simp [h4] at h

theorem lexGo_err : ∀ (f : Nat) (l : List UInt8) (li co n : Nat) (x : Int) (a b : Nat), l.length < f → lexGo f l li co n = .inr (x, a, b) → x ≠ 0
  | 0, _, _, _, _, _, _, _, hf, _ => absurd hf (Nat.not_lt_zero _)
  | f + 1, l, li, co, n, x, a, b, hf, h => by
    obtain ⟨r, li', co', hs⟩ : ∃ r li' co', skipV false l li co = (r, li', co') := ⟨_, _, _, rfl⟩
    have hsuf := skip_suffix false l li co
    rw [hs] at hsuf
    have hrl := hsuf.length_le
    simp only at hrl
    by_cases hr : r = []
    · subst hr
      rw [Lx.lexGo_end hs] at h
      cases h
    · cases he : readV r with
      | inl e =>
        rw [Lx.lexGo_bad hs hr he] at h
        injection h with h
        injection h with h
        rw [← h]
        exact read_bad he
      | inr p =>
        obtain ⟨k, t, rest⟩ := p
        by_cases hn2 : n = 8192
        · subst hn2
          rw [Lx.lexGo_many hs hr he] at h
          injection h with h
          injection h with h
          rw [← h]
          decide
        · rw [Lx.lexGo_tok hs hr he hn2] at h
          cases hg : lexGo f rest li' (co' + (r.length - rest.length)) (n + 1) with
          | inl ts => rw [hg] at h; cases h
          | inr e =>
            obtain ⟨x', a', b'⟩ := e
            rw [hg] at h
            injection h with h
            injection h with h
            rw [← h]
            have hlt : rest.length < r.length := by
              obtain ⟨c, hc, hne⟩ := readV_rest he
              have := congrArg List.length hc
              rw [List.length_append] at this
              have := List.length_pos_iff.2 hne
              omega
            exact lexGo_err f rest _ _ _ x' a' b' (by omega) hg

theorem lex_err {l : List UInt8} {x : Int} {a b : Nat} (h : lexV l = .inr (x, a, b)) : x ≠ 0 := by
  unfold lexV at h
  by_cases hl : 65536 < l.length
  · rw [if_pos hl] at h
    injection h with h
    injection h with h
    rw [← h]
    decide
  · rw [if_neg hl] at h
    exact lexGo_err _ l 1 1 0 x a b (Nat.lt_succ_self _) h

theorem tsOk_at : ∀ {ts : List Tok}, TsOk ts → ∀ a (h : a < ts.length), (ts[a].kind ≠ 0 → a + 1 < ts.length) ∧ ts[a].text.length ≤ 70000 ∧ (ts[a].kind = 2 → ts[a].text ≠ [58])
  | [], h, _, _ => h.elim
  | [t], h, 0, _ => ⟨fun e => absurd h.1 e, h.2, fun e => by have := h.1; have e' : t.kind = 2 := e; rw [e'] at this; cases this⟩
  | t :: u :: r, h, 0, _ => ⟨fun _ => by simp, h.1.2.1, h.1.2.2⟩
  | t :: u :: r, h, a + 1, ha => by
    have := tsOk_at h.2 a (by simpa using ha)
    exact ⟨fun e => by have := this.1 e; simpa using this, this.2⟩

theorem lex_toks {l : List UInt8} {ts : List Tok} (h : lexV l = .inl ts) : ToksOk ts := by
  unfold lexV at h
  by_cases hl : 65536 < l.length
  · rw [if_pos hl] at h; cases h
  · rw [if_neg hl] at h
    obtain ⟨h1, h2⟩ := lexGo_ok _ l 1 1 0 ts (by omega) (by omega) h
    have hat := fun a ha => tsOk_at h1 a ha
    have htk : ∀ a (ha : a < ts.length), tkA ts a = ts[a] := fun a ha => by
      unfold tkA
      rw [List.getD_eq_getElem?_getD, List.getElem?_eq_getElem ha]
      rfl
    refine ⟨fun a ha hk => ?_, ?_, by omega, fun a => ?_, fun a ha hk => ?_⟩
    · rw [htk a ha] at hk
      exact (hat a ha).1 hk
    · cases ts with
      | nil => exact h1.elim
      | cons t r => simp
    · by_cases ha : a < ts.length
      · rw [htk a ha]
        exact (hat a ha).2.1
      · unfold tkA
        rw [List.getD_eq_getElem?_getD, List.getElem?_eq_none (by omega)]
        simp
    · rw [htk a ha] at hk ⊢
      exact (hat a ha).2.2 hk
end Go.Proofs.YtfjlkkohccihnabGreatDoor

/- lex.rowEnd by a contract: the end of the longest row of bytes that belong. -/
namespace Go.Proofs.YtfjlkkohccihnabGreatDoor.Lx
open Go.RowKit

/-- The end of the longest row of bytes that belong, from k on. -/
def rowV (s : ByteArray) (k : Nat) (p : UInt8 → Bool) : Nat := k + ((s.data.toList.drop k).takeWhile p).length

theorem rowV_le (s : ByteArray) (k : Nat) (p : UInt8 → Bool) (hk : k ≤ s.size) : rowV s k p ≤ s.size := by
  unfold rowV
  have h : ((s.data.toList.drop k).takeWhile p).length ≤ (s.data.toList.drop k).length := (List.takeWhile_sublist p).length_le
  rw [List.length_drop, byteArray_len] at h
  omega

theorem rowV_on {s : ByteArray} {k : Nat} {p : UInt8 → Bool} (hk : k < s.size) (h : p s[k] = true) : rowV s k p = rowV s (k + 1) p := by
  unfold rowV
  rw [byteArray_drop s k hk, List.takeWhile_cons_of_pos h, List.length_cons]
  omega

theorem rowV_off {s : ByteArray} {k : Nat} {p : UInt8 → Bool} (hk : k < s.size) (h : p s[k] = false) : rowV s k p = k := by
  unfold rowV
  rw [byteArray_drop s k hk, List.takeWhile_cons_of_neg (by rw [h]; decide)]
  rfl

theorem rowV_end {s : ByteArray} {k : Nat} {p : UInt8 → Bool} (hk : ¬ k < s.size) : rowV s k p = k := by
  unfold rowV
  rw [List.drop_eq_nil_of_le (by rw [byteArray_len]; omega)]
  rfl

set_option maxRecDepth 100000 in
theorem rowEnd_name (s : ByteArray) (hs : s.size ≤ 140737488351232) (k : Nat) (hk : k ≤ s.size) (w : World) :
    Calls Tryz.prog 161 #[.string s, .int .i64 k, .func (.func 165) #[] #[]] w fun e w' => e = .returned (.int .i64 (rowV s k inNm)) ∧ w' = w := by
  go_enter Tryz.func161, Tryz.ntmps161
  go_wp2
  go_loop [7] (fun i => ∃ m : Nat, m ≤ s.size ∧ i = .int .i64 m ∧ rowV s k inNm = rowV s m inNm) (fun i => s.size - (intOf i).toNat)
  case atStart => exact ⟨k, hk, rfl, rfl⟩
  case round =>
    obtain ⟨m, hm, rfl, hrow⟩ := hrel
    have HR := hideP hrow
    clear hrow
    by_cases hlt : m < s.size
    · have hc := inName_c s[m]
      have hyes := rowV_on (p := inNm) hlt
      have hno := rowV_off (p := inNm) hlt
      cases hp : inNm s[m]
      · rw [hp] at hc
        have E := hideP (hno hp)
        have HC := hideP hc
        clear hyes hno hp hc
        go_wp2_with fail
        refine (HC.out _).mono ?_
        rintro e w' ⟨rfl, rfl⟩
        go_wp2
        go_ret
        rw [HR.out, E.out]
        exact ⟨rfl, rfl⟩
      · rw [hp] at hc
        have E := hideP (hyes hp)
        have HC := hideP hc
        clear hyes hno hp hc
        go_wp2_with fail
        refine (HC.out _).mono ?_
        rintro e w' ⟨rfl, rfl⟩
        go_wp2
        go_round
        case rel => exact ⟨m + 1, by omega, by go_num, HR.out.trans E.out⟩
        case measure => simp [intOf]; omega
    · go_wp2
      go_ret
      rw [HR.out, rowV_end hlt]
      exact ⟨rfl, rfl⟩
set_option maxRecDepth 100000 in
theorem rowEnd_digit (s : ByteArray) (hs : s.size ≤ 140737488351232) (k : Nat) (hk : k ≤ s.size) (w : World) :
    Calls Tryz.prog 161 #[.string s, .int .i64 k, .func (.func 167) #[] #[]] w fun e w' => e = .returned (.int .i64 (rowV s k isDig)) ∧ w' = w := by
  go_enter Tryz.func161, Tryz.ntmps161
  go_wp2
  go_loop [7] (fun i => ∃ m : Nat, m ≤ s.size ∧ i = .int .i64 m ∧ rowV s k isDig = rowV s m isDig) (fun i => s.size - (intOf i).toNat)
  case atStart => exact ⟨k, hk, rfl, rfl⟩
  case round =>
    obtain ⟨m, hm, rfl, hrow⟩ := hrel
    have HR := hideP hrow
    clear hrow
    by_cases hlt : m < s.size
    · have hc := isDigit_c s[m]
      have hyes := rowV_on (p := isDig) hlt
      have hno := rowV_off (p := isDig) hlt
      cases hp : isDig s[m]
      · rw [hp] at hc
        have E := hideP (hno hp)
        have HC := hideP hc
        clear hyes hno hp hc
        go_wp2_with fail
        refine (HC.out _).mono ?_
        rintro e w' ⟨rfl, rfl⟩
        go_wp2
        go_ret
        rw [HR.out, E.out]
        exact ⟨rfl, rfl⟩
      · rw [hp] at hc
        have E := hideP (hyes hp)
        have HC := hideP hc
        clear hyes hno hp hc
        go_wp2_with fail
        refine (HC.out _).mono ?_
        rintro e w' ⟨rfl, rfl⟩
        go_wp2
        go_round
        case rel => exact ⟨m + 1, by omega, by go_num, HR.out.trans E.out⟩
        case measure => simp [intOf]; omega
    · go_wp2
      go_ret
      rw [HR.out, rowV_end hlt]
      exact ⟨rfl, rfl⟩
set_option maxRecDepth 100000 in
theorem rowEnd_lf (s : ByteArray) (hs : s.size ≤ 140737488351232) (k : Nat) (hk : k ≤ s.size) (w : World) :
    Calls Tryz.prog 161 #[.string s, .int .i64 k, .func (.func 162) #[] #[]] w fun e w' => e = .returned (.int .i64 (rowV s k notLf)) ∧ w' = w := by
  go_enter Tryz.func161, Tryz.ntmps161
  go_wp2
  go_loop [7] (fun i => ∃ m : Nat, m ≤ s.size ∧ i = .int .i64 m ∧ rowV s k notLf = rowV s m notLf) (fun i => s.size - (intOf i).toNat)
  case atStart => exact ⟨k, hk, rfl, rfl⟩
  case round =>
    obtain ⟨m, hm, rfl, hrow⟩ := hrel
    have HR := hideP hrow
    clear hrow
    by_cases hlt : m < s.size
    · have hc := notLf_c s[m]
      have hyes := rowV_on (p := notLf) hlt
      have hno := rowV_off (p := notLf) hlt
      cases hp : notLf s[m]
      · rw [hp] at hc
        have E := hideP (hno hp)
        have HC := hideP hc
        clear hyes hno hp hc
        go_wp2_with fail
        refine (HC.out _).mono ?_
        rintro e w' ⟨rfl, rfl⟩
        go_wp2
        go_ret
        rw [HR.out, E.out]
        exact ⟨rfl, rfl⟩
      · rw [hp] at hc
        have E := hideP (hyes hp)
        have HC := hideP hc
        clear hyes hno hp hc
        go_wp2_with fail
        refine (HC.out _).mono ?_
        rintro e w' ⟨rfl, rfl⟩
        go_wp2
        go_round
        case rel => exact ⟨m + 1, by omega, by go_num, HR.out.trans E.out⟩
        case measure => simp [intOf]; omega
    · go_wp2
      go_ret
      rw [HR.out, rowV_end hlt]
      exact ⟨rfl, rfl⟩
end Go.Proofs.YtfjlkkohccihnabGreatDoor.Lx

/- Inserts into a map in whatever order: a law for a region that draws. -/
namespace Go.Proofs.YtfjlkkohccihnabGreatDoor.Lx
open Go.RowKit Go.Maps

/-- The inserts that are left, beside the two last operations. -/
def Left (top : Nat) (todo : List Nat) (listed : Array Bool) : Prop := ∀ j, listed.getD j true = false ↔ (j ∈ todo ∨ j = top ∨ j = top + 1)

theorem left_size {top : Nat} {todo : List Nat} {listed : Array Bool} (h : Left top todo listed) {j : Nat} (hj : j ∈ todo) : j < listed.size := by
  have := (h j).2 (.inl hj)
  rcases Nat.lt_or_ge j listed.size with h' | h'
  · exact h'
  · simp [h'] at this

theorem left_getD {listed : Array Bool} {j : Nat} (hj : listed.getD j true = false) : listed.getD j false = false := by
  rcases Nat.lt_or_ge j listed.size with h' | h'
  · simp [h'] at hj ⊢; exact hj
  · simp [h']

theorem left_set {top : Nat} {todo : List Nat} {listed : Array Bool} (h : Left top todo listed) (hn : todo.Nodup) {i : Nat} (hi : i ∈ todo) (ht : ∀ j ∈ todo, j < top) : Left top (todo.erase i) (listed.setIfInBounds i true) := by
  intro j
  by_cases hij : i = j
  · subst hij
    have hlt := left_size h hi
    constructor
    · intro h2
      simp [hlt] at h2
    · rintro (h2 | h2 | h2)
      · exact absurd h2 hn.not_mem_erase
      · have := ht i hi; omega
      · have := ht i hi; omega
  · rw [getD_set_ne true hij, h j, List.mem_erase_of_ne (Ne.symm hij)]

section
variable {P : Program} {ops : Array Oper} {Q : Exit → Act → World → Prop} {a : Act}

theorem wpAny_inserts (B t k e top fuel : Nat) (K : Keyed P k) (ht : P.underlying t = some (.map k e)) (I : List Nat) (X : Nat → Value) (kl : Nat → Lit)
    (hop : ∀ i ∈ I, i < top ∧ ∃ o m x u, ops[i]? = some o ∧ o.guard = none ∧ o.dst = none ∧ o.op = .insert t m x u ∧ a.eval m = .map (some B) ∧ a.eval x = X i ∧ a.eval u = .agg #[] ∧ keyOf P k (X i) = some (kl i) ∧ ∀ y ∈ o.after, y.on < top ∧ y.on ∉ I)
    (htop : ∃ o, ops[top]? = some o ∧ ∀ j ∈ I, ∃ y ∈ o.after, y.on = j ∧ Region.binds .any y = true)
    (hnext : ∃ o, ops[top + 1]? = some o ∧ ∃ y ∈ o.after, y.on = top ∧ Region.binds .any y = true)
    (w0 : World) (hB : w0.heap.size ≤ B)
    (sz : Nat) (hfin : ∀ listed w D, listed.size = sz → Left top [] listed → w.ownsMap (H := Unit) P k unitElem B (I.length + 0) D → Below w0.heap.size w0 w → (∀ key, Maps.has D key = true ↔ ∃ i ∈ I, kl i = key) → wpAny P .any ops Q fuel listed a w) :
    ∀ (n m : Nat) (todo : List Nat) (listed : Array Bool) (w : World) (D : DataW Unit), todo.length = n → listed.size = sz → Left top todo listed → todo.Nodup → (∀ i ∈ todo, i ∈ I) →
      w.ownsMap P k unitElem B m D → m + n = I.length → I.length < 100 → Below w0.heap.size w0 w → (∀ i ∈ I, i ∉ todo → Maps.has D (kl i) = true) → (∀ key, Maps.has D key = true → ∃ i ∈ I, kl i = key) →
      wpAny P .any ops Q (n + fuel) listed a w := by
  intro n
  induction n with
  | zero =>
    intro m todo listed w D hl hsz hL hn hI hown hm hlen hb h1 h2
    have : todo = [] := List.eq_nil_of_length_eq_zero hl
    subst this
    rw [Nat.zero_add]
    refine hfin listed w D hsz hL (hown.mono (by omega)) hb fun key => ⟨h2 key, ?_⟩
    rintro ⟨i, hi, rfl⟩
    exact h1 i hi (by simp)
  | succ n ih =>
    intro m todo listed w D hl hsz hL hn hI hown hm hlen hb h1 h2
    rw [show n + 1 + fuel = (n + fuel) + 1 from by omega]
    have hmem : ∀ i ∈ Region.ready .any ops listed, i ∈ todo := by
      intro i hi
      obtain ⟨hf, o, ho, hall⟩ := mem_ready.1 hi
      rcases (hL i).1 hf with h | rfl | rfl
      · exact h
      · exfalso
        obtain ⟨o', ho', hj⟩ := htop
        rw [ho] at ho'
        cases ho'
        cases todo with
        | nil => simp at hl
        | cons j r =>
          obtain ⟨y, hy, hon, hbi⟩ := hj j (hI j (by simp))
          have h3 := hall y hy hbi
          rw [hon, left_getD ((hL j).2 (.inl (by simp)))] at h3
          cases h3
      · exfalso
        obtain ⟨o', ho', y, hy, hon, hbi⟩ := hnext
        rw [ho] at ho'
        cases ho'
        have h3 := hall y hy hbi
        rw [hon, left_getD ((hL top).2 (.inr (.inl rfl)))] at h3
        cases h3
    refine ⟨?_, ?_⟩
    · intro h0
      exfalso
      cases todo with
      | nil => simp at hl
      | cons j r =>
        obtain ⟨hjt, o, m', x, u, ho, _, _, _, _, _, _, _, haft⟩ := hop j (hI j (by simp))
        have hr : j ∈ Region.ready .any ops listed := by
          refine mem_ready.2 ⟨(hL j).2 (.inl (by simp)), o, ho, fun y hy _ => ?_⟩
          obtain ⟨hy1, hy2⟩ := haft y hy
          have hts : top < listed.size := by
            have := (hL top).2 (.inr (.inl rfl))
            rcases Nat.lt_or_ge top listed.size with h' | h'
            · exact h'
            · simp [h'] at this
          have hne : ¬ listed.getD y.on true = false := by
            rw [hL y.on]
            rintro (h | h | h)
            · exact hy2 (hI _ h)
            · omega
            · omega
          have hys : y.on < listed.size := by omega
          simp [hys] at hne ⊢
          exact hne
        rw [h0] at hr
        cases hr
    · intro i hi
      have hit := hmem i hi
      obtain ⟨hjt, o, m', x, u, ho, hg, hd, hop', hem, hex, heu, hkey, _⟩ := hop i (hI i hit)
      obtain ⟨w', hrun, hown', hgrow⟩ := hown.update K ht (by unfold maxLen; omega) hkey unitElem_mk
      unfold wpOp
      rw [ho]
      have hw : Region.wanted o (yielded ops a.tmps) = true := by simp [Region.wanted, hg]
      simp only [hw, if_true]
      refine .inl ?_
      unfold Oper.wp
      simp [execOp, hop', hem, hex, heu, hrun, Result.andThen, Oper.upon]
      have ea : a.put o.dst undef = a := by rw [hd]; rfl
      rw [ea]
      have hl2 : (todo.erase i).length = n := by rw [List.length_erase_of_mem hit]; omega
      refine ih (m + 1) (todo.erase i) (listed.setIfInBounds i true) w' _ hl2 (by rw [Array.size_setIfInBounds]; exact hsz) (left_set hL hn hit fun j hj => (hop j (hI j hj)).1) (hn.erase i) (fun j hj => hI j (List.mem_of_mem_erase hj)) hown' (by omega) hlen
        (hb.grown hgrow (by exact hb.size) (fun j hj => by cases hj; exact hB)) ?_ ?_
      · intro j hj hjn
        by_cases hk : kl j = kl i
        · rw [hk]; exact has_put_same hown.isMap (K.key hkey) _
        · rw [has_put_other hk]
          refine h1 j hj fun hjt => hjn ?_
          rw [List.mem_erase_of_ne]
          · exact hjt
          · rintro rfl; exact hk rfl
      · intro key hkey2
        by_cases hk : key = kl i
        · exact ⟨i, hI i hit, hk.symm⟩
        · rw [has_put_other hk] at hkey2
          exact h2 key hkey2
end
end Go.Proofs.YtfjlkkohccihnabGreatDoor.Lx

/- lex.twoByteSigns by a contract: a new map, whose keys are the signs of two bytes; in whatever order they are laid. -/
namespace Go.Proofs.YtfjlkkohccihnabGreatDoor.Lx
open Go.RowKit Go.Maps

theorem laidOut : laidOutB Tryz.prog = true := by kernel_rfl
theorem pairLaw : Keyed Tryz.prog 199 := Keyed.of_law (deep_law_laid laidOut (m := 2) (by omega) (of_decide_eq_true (by kernel_rfl)) (by kernel_rfl) (by rw [Tryz.underlying199]))

def pairA (a b : UInt8) : Value := .agg #[.int .u8 a.toNat, .int .u8 b.toNat]

theorem pairKey (a b : UInt8) : ∃ kl, keyOf Tryz.prog 199 (pairA a b) = some kl := by
  have hk : Tryz.prog.keyType 199 = true := by kernel_rfl
  have hc : Tryz.prog.cellsOf 199 = 2 := by kernel_rfl
  have hu : Tryz.prog.cellsOf 5 = 1 := by kernel_rfl
  have hf : (pairA a b).formed Tryz.prog 199 = true := by simp [pairA, Value.formed, Tryz.underlying199, hc]
  have hsz : 1 ≤ Tryz.prog.types.size := of_decide_eq_true (by kernel_rfl)
  obtain ⟨d, hd⟩ : ∃ d, Tryz.prog.types.size + 1 = d + 2 := ⟨Tryz.prog.types.size - 1, by omega⟩
  have wa : (Lit.int .u8 (a.toNat : Int)).wf = true := WalkArith.wf_u8 ⟨by omega, by have := a.toNat_lt; omega⟩
  have wb : (Lit.int .u8 (b.toNat : Int)).wf = true := WalkArith.wf_u8 ⟨by omega, by have := b.toNat_lt; omega⟩
  unfold keyOf
  rw [Tryz.underlying199]
  simp only [hk, hf, Bool.and_self, if_true]
  rw [hd]
  have hl : Tryz.prog.keyLits (d + 2) 199 (pairA a b).cells.toList = some [.int .u8 a.toNat, .int .u8 b.toNat] := by
    simp [Program.keyLits, Tryz.underlying199, Tryz.underlying5, pairA, Value.cells, hc, hu, wa, wb, List.range_succ]
  exact ⟨.string (keyBytes [.int .u8 a.toNat, .int .u8 b.toNat]), by rw [hl]; rfl⟩

theorem pairL_key (a b : UInt8) : keyOf Tryz.prog 199 (pairA a b) = some ((keyOf Tryz.prog 199 (pairA a b)).getD .nil) := by
  obtain ⟨kl, h⟩ := pairKey a b
  rw [h]
  rfl

theorem pairA_inj {a b c d : UInt8} (h : pairA a b = pairA c d) : a = c ∧ b = d := by
  simp [pairA] at h
  exact ⟨UInt8.toNat_inj.1 (by omega), UInt8.toNat_inj.1 (by omega)⟩

/-- Which pair the insert lays. -/
def pairAt : Nat → UInt8 × UInt8
  | 3 => (45, 62) | 6 => (61, 62) | 9 => (60, 58) | 12 => (60, 60) | 15 => (60, 61) | 18 => (62, 62) | 21 => (61, 61) | 24 => (43, 43) | _ => (0, 0)

def pairIs : List Nat := [3, 6, 9, 12, 15, 18, 21, 24]

theorem pair_iff (a b : UInt8) (D : DataW Unit) (h : ∀ key, Maps.has D key = true ↔ ∃ i ∈ pairIs, (keyOf Tryz.prog 199 (pairA (pairAt i).1 (pairAt i).2)).getD .nil = key) {kl : Lit} (hk : keyOf Tryz.prog 199 (pairA a b) = some kl) : Maps.has D kl = twoV.contains (a, b) := by
  rw [Bool.eq_iff_iff, h kl]
  constructor
  · rintro ⟨i, hi, e⟩
    have h1 := pairL_key (pairAt i).1 (pairAt i).2
    rw [e] at h1
    obtain ⟨rfl, rfl⟩ := pairA_inj (pairLaw.inj hk h1)
    revert hi
    exact (show ∀ i ∈ pairIs, twoV.contains ((pairAt i).1, (pairAt i).2) = true by decide) i
  · intro hc
    have hm : (a, b) ∈ twoV := by simpa using hc
    obtain ⟨i, hi, e⟩ := (show ∀ x ∈ twoV, ∃ i ∈ pairIs, pairAt i = x by decide) (a, b) hm
    refine ⟨i, hi, ?_⟩
    rw [e]
    exact Option.some.inj ((pairL_key a b).symm.trans hk)

/-- The keys of such a map are the signs of two bytes. -/
def PairsD (D : DataW Unit) : Prop := ∀ a b kl, keyOf Tryz.prog 199 (pairA a b) = some kl → Maps.has D kl = twoV.contains (a, b)

set_option maxRecDepth 100000 in
theorem twoByteSigns_c (w : World) : Calls Tryz.prog 103 #[] w fun e w' => e = .returned (.map (some w.heap.size)) ∧
    ∃ D, w'.ownsMap Tryz.prog 199 unitElem w.heap.size 8 D ∧ PairsD D ∧ Below w.heap.size w w' := by
  have hmm := @run_makeMap Tryz.prog
  go_enter Tryz.func103, Tryz.ntmps103
  go_wp2
  refine wp_region_any (by kernel_rfl) ?_
  change wpAny _ _ _ _ _ _ _ (World.drew _)
  refine wpAny_take (i := 1) (v := .agg #[.int .u8 45, .int .u8 62]) rfl (by kernel_rfl) (by kernel_rfl) (by kernel_rfl) (fun _ _ _ h => h) (Or.inl ⟨by rfl, by intro w; go_simp⟩) ?_
  refine wpAny_take (i := 2) (v := .agg #[]) rfl (by kernel_rfl) (by kernel_rfl) (by kernel_rfl) (fun _ _ _ h => h) (Or.inl ⟨by rfl, by intro w; go_simp⟩) ?_
  refine wpAny_take (i := 4) (v := .agg #[.int .u8 61, .int .u8 62]) rfl (by kernel_rfl) (by kernel_rfl) (by kernel_rfl) (fun _ _ _ h => h) (Or.inl ⟨by rfl, by intro w; go_simp⟩) ?_
  refine wpAny_take (i := 5) (v := .agg #[]) rfl (by kernel_rfl) (by kernel_rfl) (by kernel_rfl) (fun _ _ _ h => h) (Or.inl ⟨by rfl, by intro w; go_simp⟩) ?_
  refine wpAny_take (i := 7) (v := .agg #[.int .u8 60, .int .u8 58]) rfl (by kernel_rfl) (by kernel_rfl) (by kernel_rfl) (fun _ _ _ h => h) (Or.inl ⟨by rfl, by intro w; go_simp⟩) ?_
  refine wpAny_take (i := 8) (v := .agg #[]) rfl (by kernel_rfl) (by kernel_rfl) (by kernel_rfl) (fun _ _ _ h => h) (Or.inl ⟨by rfl, by intro w; go_simp⟩) ?_
  refine wpAny_take (i := 10) (v := .agg #[.int .u8 60, .int .u8 60]) rfl (by kernel_rfl) (by kernel_rfl) (by kernel_rfl) (fun _ _ _ h => h) (Or.inl ⟨by rfl, by intro w; go_simp⟩) ?_
  refine wpAny_take (i := 11) (v := .agg #[]) rfl (by kernel_rfl) (by kernel_rfl) (by kernel_rfl) (fun _ _ _ h => h) (Or.inl ⟨by rfl, by intro w; go_simp⟩) ?_
  refine wpAny_take (i := 13) (v := .agg #[.int .u8 60, .int .u8 61]) rfl (by kernel_rfl) (by kernel_rfl) (by kernel_rfl) (fun _ _ _ h => h) (Or.inl ⟨by rfl, by intro w; go_simp⟩) ?_
  refine wpAny_take (i := 14) (v := .agg #[]) rfl (by kernel_rfl) (by kernel_rfl) (by kernel_rfl) (fun _ _ _ h => h) (Or.inl ⟨by rfl, by intro w; go_simp⟩) ?_
  refine wpAny_take (i := 16) (v := .agg #[.int .u8 62, .int .u8 62]) rfl (by kernel_rfl) (by kernel_rfl) (by kernel_rfl) (fun _ _ _ h => h) (Or.inl ⟨by rfl, by intro w; go_simp⟩) ?_
  refine wpAny_take (i := 17) (v := .agg #[]) rfl (by kernel_rfl) (by kernel_rfl) (by kernel_rfl) (fun _ _ _ h => h) (Or.inl ⟨by rfl, by intro w; go_simp⟩) ?_
  refine wpAny_take (i := 19) (v := .agg #[.int .u8 61, .int .u8 61]) rfl (by kernel_rfl) (by kernel_rfl) (by kernel_rfl) (fun _ _ _ h => h) (Or.inl ⟨by rfl, by intro w; go_simp⟩) ?_
  refine wpAny_take (i := 20) (v := .agg #[]) rfl (by kernel_rfl) (by kernel_rfl) (by kernel_rfl) (fun _ _ _ h => h) (Or.inl ⟨by rfl, by intro w; go_simp⟩) ?_
  refine wpAny_take (i := 22) (v := .agg #[.int .u8 43, .int .u8 43]) rfl (by kernel_rfl) (by kernel_rfl) (by kernel_rfl) (fun _ _ _ h => h) (Or.inl ⟨by rfl, by intro w; go_simp⟩) ?_
  refine wpAny_take (i := 23) (v := .agg #[]) rfl (by kernel_rfl) (by kernel_rfl) (by kernel_rfl) (fun _ _ _ h => h) (Or.inl ⟨by rfl, by intro w; go_simp⟩) ?_
  refine wpAny_ready (rs := [0]) (by kernel_rfl) (by simp) ?_
  refine AllReady.cons rfl (fun K hK => ?_) AllReady.nil
  go_simp
  refine hK _ _ ?_
  clear hK K
  refine wpAny_inserts w.heap.size 143 199 200 25 2 pairLaw Tryz.underlying143 pairIs (fun i => pairA (pairAt i).1 (pairAt i).2) (fun i => (keyOf Tryz.prog 199 (pairA (pairAt i).1 (pairAt i).2)).getD .nil)
    ?hop ⟨_, rfl, ?ht⟩ ⟨_, rfl, ?hn⟩ w (Nat.le_refl _) 27 ?fin 8 0 pairIs _ _ (.map []) rfl rfl ?left (by decide) (fun _ h => h) (World.ownsMap_made w.drew _ _ _) rfl (by decide) ?below (fun i hi hn => absurd hi hn) (fun key h => by cases h)
  case hop =>
    intro i hi
    simp only [pairIs, List.mem_cons, List.not_mem_nil, or_false] at hi
    rcases hi with rfl | rfl | rfl | rfl | rfl | rfl | rfl | rfl
    all_goals exact ⟨by omega, _, _, _, _, rfl, rfl, rfl, rfl, rfl, rfl, rfl, pairL_key _ _, by decide⟩
  case ht => decide
  case hn => exact ⟨{ on := 25, ground := .data }, by simp, rfl, rfl⟩
  case left =>
    intro j
    by_cases hj : j < 27
    · revert j
      decide
    · have h1 : j ≠ 25 ∧ j ≠ 26 := by omega
      have h2 : j ∉ pairIs := by
        intro h
        have := (show ∀ i ∈ pairIs, i < 27 by decide) j h
        omega
      constructor
      · intro h
        simp [hj] at h
      · rintro (h | h | h)
        · exact absurd h h2
        · exact absurd h h1.1
        · exact absurd h h1.2
  case below => exact (Below.refl _ w).drew.alloc (Nat.le_refl _) _
  case fin =>
    intro listed w1 D hsz hL hown hb hD
    have hlit : listed = #[true, true, true, true, true, true, true, true, true, true, true, true, true, true, true, true, true, true, true, true, true, true, true, true, true, false, false] := by
      apply Array.ext
      · rw [hsz]; rfl
      · intro j h1 h2
        have hj : j < 27 := by omega
        have e1 : listed.getD j true = listed[j] := by simp [h1]
        have e2 := hL j
        rw [e1] at e2
        have e3 : ∀ j (h : j < 27), (#[true, true, true, true, true, true, true, true, true, true, true, true, true, true, true, true, true, true, true, true, true, true, true, true, true, false, false] : Array Bool)[j] = false ↔ (j = 25 ∨ j = 26) := by decide
        rw [Bool.eq_iff_iff, ← Bool.not_eq_false, ← Bool.not_eq_false, e2, e3 j hj]
        simp
    subst hlit
    have hP : PairsD D := fun a b kl hk => pair_iff a b D hD hk
    refine wpAny_ready (rs := [25]) (by kernel_rfl) (by simp) ?_
    refine AllReady.cons rfl (fun K hK => ?_) AllReady.nil
    go_simp
    refine hK _ _ ?_
    clear hK K
    refine wpAny_ready (rs := [26]) (by kernel_rfl) (by simp) ?_
    refine AllReady.cons rfl (fun K hK => ?_) AllReady.nil
    go_simp
    refine hK _ _ ?_
    clear hK K
    refine wpAny_done (by kernel_rfl) ?_ _
    go_wp2
    go_ret
    exact ⟨rfl, D, hown, hP, hb⟩
end Go.Proofs.YtfjlkkohccihnabGreatDoor.Lx
