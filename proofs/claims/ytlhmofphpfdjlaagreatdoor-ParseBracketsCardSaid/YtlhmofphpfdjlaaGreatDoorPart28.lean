/- Part. -/
import Derived.Defers
import Derived.Recover
import Derived.Test.YtlhmofphpfdjlaaGreatDoorPart27
set_option maxRecDepth 100000
set_option maxHeartbeats 4000000
/- The grammar as the program goes through it, and as it was said; without a program in sight. -/
namespace Go.Proofs.YtlhmofphpfdjlaaGreatDoor
open Go.Proofs.Tryz
section
variable {ts : List Tok} {K E U sub : Nat -> Pr Ty} {f a : Nat} {x : Ty}
theorem want_sees {s : List UInt8} (h : seesA ts a s = true) : wantA ts a s = .inl ((), a + 1) := by unfold wantA; rw [if_pos h]
/-- How deep a type may go is told by its depth alone. -/
theorem kind_more (ts : List Tok) (f : Nat) : ∀ (n m d a : Nat), 101 <= d + n -> 101 <= d + m -> kindA ts f n d a = kindA ts f m d a
  | 0, 0, _, _, _, _ => rfl
  | 0, m + 1, d, a, h1, h2 => by rw [kindA, kindA, if_pos (by omega)]
  | n + 1, 0, d, a, h1, h2 => by rw [kindA, kindA, if_pos (by omega)]
  | n + 1, m + 1, d, a, h1, h2 => by
    rw [kindA, kindA]
    by_cases hd : 100 <= d
    · rw [if_pos hd, if_pos hd]
    · rw [if_neg hd, if_neg hd]
      have e : kindA ts f n (d + 1) = kindA ts f m (d + 1) := funext fun a => kind_more ts f n m (d + 1) a (by omega) (by omega)
      rw [e]
theorem go_go {α β γ : Type} (r : Pr α) (p : α -> Nat -> Pr β) (q : β -> Nat -> Pr γ) : (r.go p).go q = r.go fun x a => (p x a).go q := by
  rcases r with ⟨x, a⟩ | e <;> rfl
theorem go_same (r : Pr Ty) : (r.go fun x b => .inl (x, b)) = r := by
  rcases r with ⟨x, a⟩ | e <;> rfl
theorem go_ext {α β : Type} {r : Pr α} {p q : α -> Nat -> Pr β} (h : ∀ x a, p x a = q x a) : r.go p = r.go q := by
  rw [show p = q from funext fun x => funext fun a => h x a]
theorem note_behind {β : Type} (G : List Ty -> Nat -> Pr β) : ((behindA ts K [58] a).go fun y b => G (if y.2 then [y.1] else []) b) = (noteA ts K a).go G := by
  unfold behindA noteA
  by_cases h : seesA ts a [58] = true
  · rw [if_pos h, if_pos h, go_go, go_go]
    exact go_ext fun _ _ => rfl
  · rw [if_neg h, if_neg h]
    rfl
theorem let_eq (h : seesA ts a [108, 101, 116] = true) : ((wantA ts a [108, 101, 116]).go fun _ b => (nameA ts b).go fun s b => (behindA ts K [58] b).go fun y b => (wantA ts b [61]).go fun _ b => (E b).go fun v b => (wantA ts b [59]).go fun _ b => (E b).go fun r b => .inl (mkE 5 s 0 (tkA ts a).line (tkA ts a).col (if y.2 then [y.1] else []) [] [v, r], b)) = exprA ts K E U f a := by
  unfold exprA
  rw [if_pos h, want_sees h, pr_inl]
  refine go_ext fun s b => ?_
  exact note_behind (fun t b => (wantA ts b [61]).go fun _ b => (E b).go fun v b => (wantA ts b [59]).go fun _ b => (E b).go fun r b => .inl (mkE 5 s 0 (tkA ts a).line (tkA ts a).col t [] [v, r], b))
theorem if_eq (h0 : seesA ts a [108, 101, 116] = false) (h : seesA ts a [105, 102] = true) : ((wantA ts a [105, 102]).go fun _ b => (E b).go fun c b => (wantA ts b [116, 104, 101, 110]).go fun _ b => (E b).go fun x b => (wantA ts b [101, 108, 115, 101]).go fun _ b => (E b).go fun y b => .inl (mkE 11 [] 0 (tkA ts a).line (tkA ts a).col [] [] [c, x, y], b)) = exprA ts K E U f a := by
  unfold exprA
  rw [if_neg (by simp [h0]), if_pos h, want_sees h, pr_inl]
  rfl
theorem head_eq {β : Type} (G : List UInt8 × List Ty -> Nat -> Pr β) : ((paramA ts K a).go fun h b => (behindA ts K [58] b).go fun y b => G (h.1, h.2 :: if y.2 then [y.1] else []) b) = (headA ts K a).go G := by
  unfold paramA headA
  rw [go_go, go_go]
  refine go_ext fun _ b => ?_
  rw [go_go, go_go]
  refine go_ext fun s b => ?_
  rw [go_go, go_go]
  have h1 : ((behindA ts K [58] b).go fun x a => Pr.go (Pr.go (wantA ts a [41]) fun _ b => .inl ((s, x.1), b)) fun h b => (behindA ts K [58] b).go fun y b => G (h.1, h.2 :: if y.2 then [y.1] else []) b) =
      (noteA ts K b).go fun x a => (wantA ts a [41]).go fun _ a => (behindA ts K [58] a).go fun y b => G (s, (if x.isEmpty then [mkT 0 [] [] []] else x) ++ (if y.2 then [y.1] else [])) b := by
    unfold behindA noteA
    by_cases h : seesA ts b [58] = true
    · rw [if_pos h, if_pos h, go_go, go_go]
      refine go_ext fun t c => ?_
      rw [pr_inl, pr_inl, go_go]
      rfl
    · rw [if_neg h, if_neg h, pr_inl, pr_inl, go_go]
      rfl
  rw [h1]
  refine go_ext fun x c => ?_
  rw [go_go]
  refine go_ext fun _ c => ?_
  rw [go_go]
  exact note_behind (fun y b => G (s, (if x.isEmpty then [mkT 0 [] [] []] else x) ++ y) b)
theorem fn_eq (h0 : seesA ts a [108, 101, 116] = false) (h1 : seesA ts a [105, 102] = false) (h : seesA ts a [102, 110] = true) : ((wantA ts a [102, 110]).go fun _ b => (paramA ts K b).go fun h b => (behindA ts K [58] b).go fun y b => (wantA ts b [61, 62]).go fun _ b => (E b).go fun x b => .inl (mkE 6 h.1 0 (tkA ts a).line (tkA ts a).col (h.2 :: if y.2 then [y.1] else []) [] [x], b)) = exprA ts K E U f a := by
  unfold exprA
  rw [if_neg (by simp [h0]), if_neg (by simp [h1]), if_pos h, want_sees h, pr_inl]
  exact head_eq (fun h b => (wantA ts b [61, 62]).go fun _ b => (E b).go fun x b => .inl (mkE 6 h.1 0 (tkA ts a).line (tkA ts a).col h.2 [] [x], b))
theorem or_eq (h0 : seesA ts a [108, 101, 116] = false) (h1 : seesA ts a [105, 102] = false) (h : seesA ts a [102, 110] = false) : orA ts K U f a = exprA ts K E U f a := by
  unfold exprA
  rw [if_neg (by simp [h0]), if_neg (by simp [h1]), if_neg (by simp [h])]
theorem find_some {L : List (List UInt8)} (h : (L.any fun s => seesA ts a s) = true) : L.find? (seesA ts a) = some (tkA ts a).text := by
  obtain ⟨s, hs, h2⟩ := List.any_eq_true.1 h
  obtain ⟨q, hq⟩ := Option.isSome_iff_exists.1 (List.find?_isSome.2 ⟨s, hs, h2⟩)
  rw [hq, sees_text (List.find?_some hq)]
theorem find_none {L : List (List UInt8)} (h : (L.any fun s => seesA ts a s) = false) : L.find? (seesA ts a) = none := List.find?_eq_none.2 fun s hs => by
  have := List.any_eq_false.1 h s hs
  simpa using this
theorem tag_eq {β : Type} (G : Int -> Nat -> Pr β) : ((tagA ts a).go G) = match tagsA.findIdx? (seesA ts a) with
    | some i => G i (a + 1)
    | none => badA ts 7 a := by
  unfold tagA whichV
  by_cases hk : (tkA ts a).kind = 2 ∨ (tkA ts a).kind = 5
  · have hk' : ((tkA ts a).kind == 2 || (tkA ts a).kind == 5) = true := by rcases hk with h | h <;> simp [h]
    have e : tagsA.findIdx? (seesA ts a) = tagsA.findIdx? (· == (tkA ts a).text) := by
      congr 1
      funext s
      unfold seesA
      rw [hk', Bool.true_and, Bool.eq_iff_iff, beq_iff_eq, beq_iff_eq]
      exact eq_comm
    rw [if_pos hk, e, idxV]
    cases tagsA.findIdx? (· == (tkA ts a).text) with
    | none => rfl
    | some i =>
      simp only
      rw [if_pos (Int.natCast_nonneg i)]
      rfl
  · have hk' : ((tkA ts a).kind == 2 || (tkA ts a).kind == 5) = false := by simpa using hk
    have e : tagsA.findIdx? (seesA ts a) = none := List.findIdx?_eq_none_iff.2 fun s _ => by unfold seesA; rw [hk', Bool.false_and]
    rw [if_neg hk, e, if_neg (by decide)]
    rfl
theorem cmp_eq : cmpA ts K sub a = (sub a).go fun x b => cmpB ts K sub x b := by
  unfold cmpA
  refine go_ext fun x b => ?_
  unfold cmpB
  cases h3 : ([[60], [60, 61], [61, 61]] : List (List UInt8)).any fun s => seesA ts b s with
  | true =>
    rw [find_some h3, if_pos rfl]
    rfl
  | false =>
    rw [find_none h3]
    simp only [Bool.false_eq_true, if_false]
    by_cases h4 : seesA ts b [105, 115] = true
    · have h5 := sees_two h4 (show ([105, 115] : List UInt8) ≠ [97, 115] by decide)
      simp only [h5, h4, Bool.false_eq_true, if_false, if_true]
      rw [tag_eq]
      cases tagsA.findIdx? (seesA ts (b + 1)) <;> rfl
    · by_cases h5 : seesA ts b [97, 115] = true
      · simp only [h5, h4, if_true]
        simp
        rfl
      · simp only [h5, h4]
        simp
end
end Go.Proofs.YtlhmofphpfdjlaaGreatDoor
/- Atoms as they were said; where it goes on. -/
namespace Go.Proofs.YtlhmofphpfdjlaaGreatDoor
open Go.Proofs.Tryz
open Go.RowKit
section
variable {ts : List Tok} {K E U sub : Nat -> Pr Ty} {f a : Nat} {x : Ty}
theorem sees_kind {s : List UInt8} (h : seesA ts a s = true) : (tkA ts a).kind ≠ 3 /\ (tkA ts a).kind ≠ 4 /\ (tkA ts a).kind ≠ 1 := by
  unfold seesA at h
  simp only [Bool.and_eq_true, Bool.or_eq_true, beq_iff_eq] at h
  rcases h.1 with h | h <;> (rw [h]; decide)
theorem sees_not {s s' : List UInt8} (h : seesA ts a s = true) (hn : (s == s') = false) : ¬ seesA ts a s' = true := by
  rw [sees_two h (by simpa using hn)]
  simp
/-- The atom's rule, once it is no number and no string. -/
def atomW (ts : List Tok) (K E : Nat -> Pr Ty) (f a : Nat) : Pr Ty :=
  if seesA ts a [116, 114, 117, 101] then .inl (mkE 2 [] 1 (lineA ts a) (colA ts a) [] [] [], a + 1)
  else if seesA ts a [102, 97, 108, 115, 101] then .inl (mkE 2 [] 0 (lineA ts a) (colA ts a) [] [] [], a + 1)
  else if seesA ts a [110, 117, 108, 108] then .inl (mkE 3 [] 0 (lineA ts a) (colA ts a) [] [] [], a + 1)
  else if seesA ts a [114, 101, 97, 100] then (wantA ts (a + 1) [40]).go fun _ b => (wantA ts b [41]).go fun _ b => .inl (mkE 18 [] 0 (lineA ts a) (colA ts a) [] [] [], b)
  else if seesA ts a [112, 114, 105, 110, 116] then (wantA ts (a + 1) [40]).go fun _ b => (E b).go fun x b => (wantA ts b [41]).go fun _ b => .inl (mkE 17 [] 0 (lineA ts a) (colA ts a) [] [] [x], b)
  else if seesA ts a [40] then (E (a + 1)).go fun x b => (wantA ts b [41]).go fun _ b => .inl (x, b)
  else if seesA ts a [123] then recA ts E f a
  else (nameA ts a).go fun s b => if seesA ts b [91] then (manyA ts K [44] f (b + 1)).go fun l b => (wantA ts b [93]).go fun _ b => .inl (mkE 19 s 0 (lineA ts a) (colA ts a) l [] [], b) else .inl (mkE 4 s 0 (lineA ts a) (colA ts a) [] [] [], b)
theorem atom_word {s : List UInt8} (h : seesA ts a s = true) : atomA ts K E f a = atomW ts K E f a := by
  obtain ⟨h3, h4, _⟩ := sees_kind h
  unfold atomA atomW
  rw [if_neg (by simpa using h3), if_neg (by simpa using h4)]
theorem atom_true (h : seesA ts a [116, 114, 117, 101] = true) : atomA ts K E f a = .inl (mkE 2 [] 1 (tkA ts a).line (tkA ts a).col [] [] [], a + 1) := by
  rw [atom_word h, atomW, if_pos h]
  rfl
theorem atom_false (h : seesA ts a [102, 97, 108, 115, 101] = true) : atomA ts K E f a = .inl (mkE 2 [] 0 (tkA ts a).line (tkA ts a).col [] [] [], a + 1) := by
  rw [atom_word h, atomW, if_neg (sees_not h rfl), if_pos h]
  rfl
theorem atom_null (h : seesA ts a [110, 117, 108, 108] = true) : atomA ts K E f a = .inl (mkE 3 [] 0 (tkA ts a).line (tkA ts a).col [] [] [], a + 1) := by
  rw [atom_word h, atomW, if_neg (sees_not h rfl), if_neg (sees_not h rfl), if_pos h]
  rfl
theorem atom_readE (h : seesA ts a [114, 101, 97, 100] = true) : atomA ts K E f a = (wantA ts (a + 1) [40]).go fun _ b => (wantA ts b [41]).go fun _ b => .inl (mkE 18 [] 0 (tkA ts a).line (tkA ts a).col [] [] [], b) := by
  rw [atom_word h, atomW, if_neg (sees_not h rfl), if_neg (sees_not h rfl), if_neg (sees_not h rfl), if_pos h]
  rfl
theorem atom_printE (h : seesA ts a [112, 114, 105, 110, 116] = true) : atomA ts K E f a = ((wantA ts (a + 1) [40]).go fun _ b => (E b).go fun x b => (wantA ts b [41]).go fun _ b => .inl (x, b)).go fun x b => .inl (mkE 17 [] 0 (tkA ts a).line (tkA ts a).col [] [] [x], b) := by
  rw [atom_word h, atomW, if_neg (sees_not h rfl), if_neg (sees_not h rfl), if_neg (sees_not h rfl), if_neg (sees_not h rfl), if_pos h, go_go]
  refine go_ext fun _ b => ?_
  rw [go_go]
  refine go_ext fun x b => ?_
  rw [go_go]
  rfl
theorem atom_brE (h : seesA ts a [40] = true) : atomA ts K E f a = ((wantA ts a [40]).go fun _ b => (E b).go fun x b => (wantA ts b [41]).go fun _ b => .inl (x, b)).go fun x b => .inl (x, b) := by
  rw [atom_word h, atomW, if_neg (sees_not h rfl), if_neg (sees_not h rfl), if_neg (sees_not h rfl), if_neg (sees_not h rfl), if_neg (sees_not h rfl), if_pos h, go_same, want_sees h, pr_inl]
theorem sign_colon (ok : ToksOk ts) (b : Nat) : seesA ts b [58] = ((tkA ts b).kind == 5 && (tkA ts b).text == [58]) := by
  unfold seesA
  by_cases h2 : (tkA ts b).kind = 2
  · have hlt : b < ts.length := by
      by_cases hb : b < ts.length
      · exact hb
      · exfalso
        unfold tkA at h2
        rw [List.getD_eq_getElem?_getD, List.getElem?_eq_none (by omega)] at h2
        simp at h2
    have := ok.wrd b hlt h2
    rw [h2]
    simp [this]
  · have e : ((tkA ts b).kind == 2) = false := by simpa using h2
    rw [e, Bool.false_or]
theorem atom_recE (ok : ToksOk ts) (h : seesA ts a [123] = true) : atomA ts K E f a = (bracesA ts E f (a + 1)).go fun x b => .inl (placeT (tkA ts a) x, b) := by
  rw [atom_word h, atomW, if_neg (sees_not h rfl), if_neg (sees_not h rfl), if_neg (sees_not h rfl), if_neg (sees_not h rfl), if_neg (sees_not h rfl), if_neg (sees_not h rfl), if_pos h]
  unfold recA bracesA
  by_cases h1 : seesA ts (a + 1) [125] = true
  · rw [if_pos h1, if_pos h1, fields_none h1]
    rfl
  · rw [if_neg h1, if_neg h1, sign_colon ok]
    by_cases h2 : ((tkA ts (a + 1)).kind == 1 && ((tkA ts (a + 1 + 1)).kind == 5 && (tkA ts (a + 1 + 1)).text == [58])) = true
    · rw [if_pos h2, if_pos h2, fieldsA, if_neg h1, go_go, go_go]
      refine go_ext fun l b => ?_
      rw [go_go]
      rfl
    · rw [if_neg h2, if_neg h2, go_go]
      refine go_ext fun x b => ?_
      rw [go_go]
      refine go_ext fun _ b => ?_
      rw [go_go]
      refine go_ext fun s b => ?_
      rw [go_go]
      refine go_ext fun _ b => ?_
      rw [go_go]
      refine go_ext fun y b => ?_
      rw [go_go]
      rfl
theorem atom_speltE (h3 : (constL.any fun s => seesA ts a s) = false) (hp : seesA ts a [112, 114, 105, 110, 116] = false) (hr : seesA ts a [114, 101, 97, 100] = false) (hb : seesA ts a [40] = false) (hc : seesA ts a [123] = false) : atomA ts K E f a = (speltA ts K f a).go fun x b => .inl (x, b) := by
  rw [go_same]
  have hn : ∀ s ∈ constL, ¬ seesA ts a s = true := fun s hs => by
    have := List.any_eq_false.1 h3 s hs
    exact this
  unfold atomA speltA
  by_cases k3 : (tkA ts a).kind = 3
  · rw [if_pos (by simpa using k3), if_pos k3]
    rfl
  · rw [if_neg (by simpa using k3), if_neg k3]
    by_cases k4 : (tkA ts a).kind = 4
    · rw [if_pos (by simpa using k4), if_pos k4]
      rfl
    · rw [if_neg (by simpa using k4), if_neg k4, if_neg (hn _ (by simp [constL])), if_neg (hn _ (by simp [constL])), if_neg (hn _ (by simp [constL])), if_neg (by simp [hr]), if_neg (by simp [hp]), if_neg (by simp [hb]), if_neg (by simp [hc])]
      unfold nameA namedA
      by_cases k1 : (tkA ts a).kind = 1
      · rw [if_pos (by simpa using k1), if_pos k1]
        rfl
      · rw [if_neg (by simpa using k1), if_neg k1]
        rfl
theorem up_left {L : List (List UInt8)} (hs : ∀ a x b, sub a = .inl (x, b) -> a <= b) : ∀ (f : Nat) (x : Ty) {a c : Nat}, a <= c -> UpP a (leftA ts L sub f x c)
  | 0, _, _, _, _ => up_bad _ _
  | f + 1, x, a, c, h => by
    rw [leftA]
    cases L.find? (seesA ts c) with
    | none => exact up_now h _
    | some s => exact up_go (up_at hs (by omega)) fun y b hb => up_left hs f _ hb
theorem up_rank {L : List (List UInt8)} (hs : ∀ a x b, sub a = .inl (x, b) -> a <= b) (f : Nat) : ∀ a x b, ((sub a).go fun x a => leftA ts L sub f x a) = .inl (x, b) -> a <= b := fun a x b h =>
  up_go (up_at hs (Nat.le_refl a)) (fun y _ hc => up_left hs f y hc) x b h
theorem up_cmp (hK : ∀ a x b, K a = .inl (x, b) -> a <= b) (hs : ∀ a x b, sub a = .inl (x, b) -> a <= b) : ∀ a x b, cmpA ts K sub a = .inl (x, b) -> a <= b := fun a x b h => by
  rw [cmp_eq] at h
  refine up_go (a := a) (up_at hs (Nat.le_refl a)) (fun y c hc => ?_) x b h
  unfold cmpB
  refine up_ite (up_go (up_at hs (by omega)) fun _ _ h1 => up_now h1 _) (up_ite ?_ (up_ite (up_go (up_at hK (by omega)) fun _ _ h1 => up_now h1 _) (up_now hc _)))
  refine up_go (r := tagA ts (c + 1)) ?_ fun _ _ h1 => up_now h1 _
  unfold tagA
  exact up_ite (up_now (by omega) _) (up_bad _ _)
theorem up_post (hE : ∀ a x b, E a = .inl (x, b) -> a <= b) : ∀ (f : Nat) (x : Ty) {a c : Nat}, a <= c -> UpP a (postA ts E f x c)
  | 0, _, _, _, _ => up_bad _ _
  | f + 1, x, a, c, h => by
    rw [postA]
    exact up_ite (up_go (up_at hE (by omega)) fun _ _ h1 => up_go (up_want h1 _) fun _ _ h2 => up_post hE f _ h2) (up_ite (up_go (up_name (by omega)) fun _ _ h1 => up_post hE f _ h1) (up_now h _))
theorem up_atom (hK : ∀ a x b, K a = .inl (x, b) -> a <= b) (hE : ∀ a x b, E a = .inl (x, b) -> a <= b) (f : Nat) : ∀ a x b, atomA ts K E f a = .inl (x, b) -> a <= b := fun a x b h => by
  have hu : UpP a (atomA ts K E f a) := by
    unfold atomA
    refine up_ite (up_now (by omega) _) (up_ite (up_now (by omega) _) (up_ite (up_now (by omega) _) (up_ite (up_now (by omega) _) (up_ite (up_now (by omega) _) (up_ite ?_ (up_ite ?_ (up_ite ?_ (up_ite ?_ ?_))))))))
    · exact up_go (up_want (by omega) _) fun _ _ h1 => up_go (up_want h1 _) fun _ _ h2 => up_now h2 _
    · exact up_go (up_want (by omega) _) fun _ _ h1 => up_go (up_at hE h1) fun _ _ h2 => up_go (up_want h2 _) fun _ _ h3 => up_now h3 _
    · exact up_go (up_at hE (by omega)) fun _ _ h2 => up_go (up_want h2 _) fun _ _ h3 => up_now h3 _
    · unfold recA
      refine up_ite (up_now (by omega) _) (up_ite ?_ ?_)
      · exact up_go (up_many (fun a x b e => up_field hE (Nat.le_refl _) x b e) f (by omega)) fun _ _ h1 => up_go (up_want h1 _) fun _ _ h2 => up_now h2 _
      · exact up_go (up_at hE (by omega)) fun _ _ h1 => up_go (up_want h1 _) fun _ _ h2 => up_go (up_name h2) fun _ _ h3 => up_go (up_want h3 _) fun _ _ h4 => up_go (up_at hE h4) fun _ _ h5 => up_go (up_want h5 _) fun _ _ h6 => up_now h6 _
    · exact up_go (up_name (Nat.le_refl _)) fun _ _ h1 => up_ite (up_go (up_many hK f (by omega)) fun _ _ h2 => up_go (up_want h2 _) fun _ _ h3 => up_now h3 _) (up_now h1 _)
  exact hu x b h
theorem up_note (hK : ∀ a x b, K a = .inl (x, b) -> a <= b) {c : Nat} (h : a <= c) : UpP a (noteA ts K c) := up_ite (up_go (up_at hK (by omega)) fun _ _ h1 => up_now h1 _) (up_now h _)
theorem up_expr (hK : ∀ a x b, K a = .inl (x, b) -> a <= b) (hE : ∀ a x b, E a = .inl (x, b) -> a <= b) (hU : ∀ a x b, U a = .inl (x, b) -> a <= b) (f : Nat) : ∀ a x b, exprA ts K E U f a = .inl (x, b) -> a <= b := fun a x b h => by
  have hor : UpP a (orA ts K U f a) := fun x b h => up_rank (sub := andA ts K U f) (fun a x b h => up_rank (sub := cmpA ts K (catA ts U f)) (up_cmp hK (fun a x b h => up_rank (sub := sumA ts U f) (fun a x b h => up_rank (sub := termA ts U f) (fun a x b h => up_rank hU f a x b h) f a x b h) f a x b h)) f a x b h) f a x b h
  have hu : UpP a (exprA ts K E U f a) := by
    unfold exprA
    refine up_ite ?_ (up_ite ?_ (up_ite ?_ hor))
    · exact up_go (up_name (by omega)) fun _ _ h1 => up_go (up_note hK h1) fun _ _ h2 => up_go (up_want h2 _) fun _ _ h3 => up_go (up_at hE h3) fun _ _ h4 => up_go (up_want h4 _) fun _ _ h5 => up_go (up_at hE h5) fun _ _ h6 => up_now h6 _
    · exact up_go (up_at hE (by omega)) fun _ _ h1 => up_go (up_want h1 _) fun _ _ h2 => up_go (up_at hE h2) fun _ _ h3 => up_go (up_want h3 _) fun _ _ h4 => up_go (up_at hE h4) fun _ _ h5 => up_now h5 _
    · refine up_go (r := headA ts K (a + 1)) ?_ fun _ _ h1 => up_go (up_want h1 _) fun _ _ h2 => up_go (up_at hE h2) fun _ _ h3 => up_now h3 _
      exact up_go (up_want (by omega) _) fun _ _ h1 => up_go (up_name h1) fun _ _ h2 => up_go (up_note hK h2) fun _ _ h3 => up_go (up_want h3 _) fun _ _ h4 => up_go (up_note hK h4) fun _ _ h5 => up_now h5 _
  exact hu x b h
theorem deep_up (ts : List Tok) (f : Nat) : ∀ (n : Nat) (u : Bool) (d a : Nat) (x : Ty) (b : Nat), deepA ts f n u d a = .inl (x, b) -> a <= b
  | 0, _, _, _, _, _, h => by cases h
  | n + 1, u, d, a, x, b, h => by
    have hK : ∀ a x b, kindA ts f 101 (d + 1) a = .inl (x, b) -> a <= b := fun a x b h => kind_up h
    have hE := deep_up ts f n false (d + 1)
    have hU := deep_up ts f n true (d + 1)
    unfold deepA at h
    by_cases hd : 100 <= d
    · rw [if_pos hd] at h
      cases h
    · rw [if_neg hd] at h
      cases u with
      | false => exact up_expr hK hE hU f a x b h
      | true =>
        have hu : UpP a (if seesA ts a [45] then (deepA ts f n true (d + 1) (a + 1)).go fun x b => .inl (mkE 16 [] 0 (lineA ts a) (colA ts a) [] [] [x], b)
            else if seesA ts a [110, 111, 116] then (deepA ts f n true (d + 1) (a + 1)).go fun x b => .inl (mkE 15 [] 0 (lineA ts a) (colA ts a) [] [] [x], b)
            else (atomA ts (kindA ts f 101 (d + 1)) (deepA ts f n false (d + 1)) f a).go fun x b => postA ts (deepA ts f n false (d + 1)) f x b : Pr Ty) :=
          up_ite (up_go (up_at hU (by omega)) fun _ _ h1 => up_now h1 _) (up_ite (up_go (up_at hU (by omega)) fun _ _ h1 => up_now h1 _) (up_go (fun x b h => up_atom hK hE f a x b h) fun y c hc => up_post hE f y hc))
        exact hu x b h
end
end Go.Proofs.YtlhmofphpfdjlaaGreatDoor
/- The parser of expressions by its contract. -/
namespace Go.Proofs.YtlhmofphpfdjlaaGreatDoor
open Go.Proofs.Tryz
open Go.RowKit
theorem atom_c (pb tb cap d : Nat) (ts : List Tok) (K E : Nat -> Pr Ty) (hK : Reads pb tb cap d ts TyE 17 K) (hE : Reads pb tb cap d ts NdE 12 E) (ok : ToksOk ts) (a : Nat) (w : World) (h : Ps w pb tb cap ts a d) :
    Calls prog 146 #[.pointer (some ⟨pb, 0, none⟩)] w (PPost pb tb cap ts d w NdE (atomA ts K E ts.length a)) := by
  cases h3 : constL.any fun s => seesA ts a s with
  | true =>
    obtain ⟨s, hs, h2⟩ := List.any_eq_true.1 h3
    have hs' : s = [116, 114, 117, 101] ∨ s = [102, 97, 108, 115, 101] ∨ s = [110, 117, 108, 108] := by simpa [constL] using hs
    rcases hs' with rfl | rfl | rfl
    · rw [atom_true h2]
      exact atom_const pb tb cap d a ts _ (fun w h => const_true pb tb cap d ts ok a h2 w h) ok h3 w h
    · rw [atom_false h2]
      exact atom_const pb tb cap d a ts _ (fun w h => const_false pb tb cap d ts ok a h2 w h) ok h3 w h
    · rw [atom_null h2]
      exact atom_const pb tb cap d a ts _ (fun w h => const_null pb tb cap d ts ok a h2 w h) ok h3 w h
  | false =>
    cases hp : seesA ts a [112, 114, 105, 110, 116] with
    | true =>
      rw [atom_printE hp]
      exact atom_print pb tb cap d ts E hE ok a h3 hp w h
    | false =>
      cases hr : seesA ts a [114, 101, 97, 100] with
      | true =>
        rw [atom_readE hr]
        exact atom_read pb tb cap d ts ok a h3 hp hr w h
      | false =>
        cases hb : seesA ts a [40] with
        | true =>
          rw [atom_brE hb]
          exact atom_brackets pb tb cap d ts E hE ok a h3 hp hr hb w h
        | false =>
          cases hc : seesA ts a [123] with
          | true =>
            rw [atom_recE ok hc]
            exact atom_braces pb tb cap d ts E hE ok a h3 hp hr hb hc w h
          | false =>
            rw [atom_speltE h3 hp hr hb hc]
            exact atom_spelt pb tb cap d ts K hK ok a h3 hp hr hb hc w h
theorem atom_enters (pb : Nat) : Enters 146 pb := fun w => enters_of func146 (by kernel_rfl) (by kernel_rfl) _ w
theorem post_enters (pb : Nat) : Enters 145 pb := fun w => enters_of func145 (by kernel_rfl) (by kernel_rfl) _ w
theorem unary_enters (pb : Nat) : Enters 143 pb := fun w => enters_of func143 (by kernel_rfl) (by kernel_rfl) _ w
theorem expr_enters (pb : Nat) : Enters 12 pb := fun w => enters_of func12 (by kernel_rfl) (by kernel_rfl) _ w
theorem cmp_enters (pb : Nat) : Enters 116 pb := fun w => enters_of func116 (by kernel_rfl) (by kernel_rfl) _ w
theorem unaryHere_enters (pb : Nat) : Enters 144 pb := fun w => enters_of func144 (by kernel_rfl) (by kernel_rfl) _ w
theorem exprHere_enters (pb : Nat) : Enters 26 pb := fun w => enters_of func26 (by kernel_rfl) (by kernel_rfl) _ w
/-- fullType at any depth. -/
theorem kind_reads (pb tb cap d : Nat) (ts : List Tok) (ok : ToksOk ts) (hd : d <= 100) : Reads pb tb cap d ts TyE 17 (kindA ts ts.length 101 d) where
  calls := fun a w h => by
    rw [kind_more ts ts.length 101 (101 - d) d a (by omega) (by omega)]
    exact kind_c pb tb cap ts ok (101 - d) d a w (by omega) hd h
  enters := kind_enters pb
  up := fun _ _ _ h => kind_up h
/-- or, and what stands within it. -/
theorem or_reads (pb tb cap d : Nat) (ts : List Tok) (K U : Nat -> Pr Ty) (hK : Reads pb tb cap d ts TyE 17 K) (hU : Reads pb tb cap d ts NdE 143 U) (ok : ToksOk ts) :
    Reads pb tb cap d ts NdE 57 (orA ts K U ts.length) := by
  have h1 : Reads pb tb cap d ts NdE 140 (termA ts U ts.length) := ⟨fun a w h => pterm_c pb tb cap d ts U hU ok a w h, term_enters pb, fun a x b h => up_rank hU.up ts.length a x b h⟩
  have h2 : Reads pb tb cap d ts NdE 134 (sumA ts U ts.length) := ⟨fun a w h => psum_c pb tb cap d ts _ h1 ok a w h, sum_enters pb, fun a x b h => up_rank h1.up ts.length a x b h⟩
  have h3 : Reads pb tb cap d ts NdE 125 (catA ts U ts.length) := ⟨fun a w h => pcat_c pb tb cap d ts _ h2 ok a w h, cat_enters pb, fun a x b h => up_rank h2.up ts.length a x b h⟩
  have h4 : Reads pb tb cap d ts NdE 116 (cmpA ts K (catA ts U ts.length)) := ⟨fun a w h => by rw [cmp_eq]; exact cmp_c pb tb cap d ts K hK _ h3 ok a w h, cmp_enters pb, up_cmp hK.up h3.up⟩
  have h5 : Reads pb tb cap d ts NdE 96 (andA ts K U ts.length) := ⟨fun a w h => pand_c pb tb cap d ts _ h4 ok a w h, and_enters pb, fun a x b h => up_rank h4.up ts.length a x b h⟩
  exact ⟨fun a w h => por_c pb tb cap d ts _ h5 ok a w h, or_enters pb, fun a x b h => up_rank h5.up ts.length a x b h⟩
theorem exprHere_c (pb tb cap d : Nat) (ts : List Tok) (K E U : Nat -> Pr Ty) (hK : Reads pb tb cap d ts TyE 17 K) (hE : Reads pb tb cap d ts NdE 12 E) (hU : Reads pb tb cap d ts NdE 143 U) (ok : ToksOk ts) (a : Nat) (w : World) (h : Ps w pb tb cap ts a d) :
    Calls prog 26 #[.pointer (some ⟨pb, 0, none⟩)] w (PPost pb tb cap ts d w NdE (exprA ts K E U ts.length a)) := by
  cases h0 : seesA ts a [108, 101, 116] with
  | true =>
    have := here_let pb tb cap d a ts _ (fun w h => let_c pb tb cap d ts K E hK hE ok a w h) h0 ok w h
    rwa [go_same, let_eq (U := U) (f := ts.length) h0] at this
  | false =>
    cases h1 : seesA ts a [105, 102] with
    | true =>
      have := here_if pb tb cap d a ts _ (fun w h => choice_c pb tb cap d ts E hE ok a w h) h0 h1 ok w h
      rwa [go_same, if_eq (K := K) (U := U) (f := ts.length) h0 h1] at this
    | false =>
      cases h2 : seesA ts a [102, 110] with
      | true =>
        have := here_fn pb tb cap d a ts _ (fun w h => function_c pb tb cap d ts K E hK hE ok a w h) h0 h1 h2 ok w h
        rwa [go_same, fn_eq (U := U) (f := ts.length) h0 h1 h2] at this
      | false =>
        have := here_or pb tb cap d a ts _ (fun w h => (or_reads pb tb cap d ts K U hK hU ok).calls a w h) h0 h1 h2 ok w h
        rwa [go_same, or_eq (E := E) h0 h1 h2] at this
/-- expr (false) and unary (true), within d others. -/
theorem deep_c (pb tb cap : Nat) (ts : List Tok) (ok : ToksOk ts) : ∀ (n d : Nat), d + n = 101 -> d <= 100 -> ∀ (a : Nat) (w : World), Ps w pb tb cap ts a d ->
    Calls prog 12 #[.pointer (some ⟨pb, 0, none⟩)] w (PPost pb tb cap ts d w NdE (deepA ts ts.length n false d a)) /\
    Calls prog 143 #[.pointer (some ⟨pb, 0, none⟩)] w (PPost pb tb cap ts d w NdE (deepA ts ts.length n true d a))
  | 0, d, h1, h2, _, _, _ => absurd h1 (by omega)
  | n + 1, d, h1, h2, a, w, h => by
    unfold deepA
    by_cases hd : 100 <= d
    · obtain rfl : d = 100 := by omega
      rw [if_pos hd, if_pos hd]
      exact ⟨expr_of pb tb cap 100 ts _ w (fun w1 hb => withinN_deep pb tb cap a _ ts w1 (h.below hb)) h.ltp, unary_of pb tb cap 100 ts _ w (fun w1 hb => withinN_deep pb tb cap a _ ts w1 (h.below hb)) h.ltp⟩
    · rw [if_neg hd, if_neg hd]
      have hK := kind_reads pb tb cap (d + 1) ts ok (by omega)
      have hE : Reads pb tb cap (d + 1) ts NdE 12 (deepA ts ts.length n false (d + 1)) := ⟨fun a w h => (deep_c pb tb cap ts ok n (d + 1) (by omega) (by omega) a w h).1, expr_enters pb, fun a x b h => deep_up ts ts.length n false (d + 1) a x b h⟩
      have hU : Reads pb tb cap (d + 1) ts NdE 143 (deepA ts ts.length n true (d + 1)) := ⟨fun a w h => (deep_c pb tb cap ts ok n (d + 1) (by omega) (by omega) a w h).2, unary_enters pb, fun a x b h => deep_up ts ts.length n true (d + 1) a x b h⟩
      have hA : Reads pb tb cap (d + 1) ts NdE 146 (atomA ts (kindA ts ts.length 101 (d + 1)) (deepA ts ts.length n false (d + 1)) ts.length) := ⟨fun a w h => atom_c pb tb cap (d + 1) ts _ _ hK hE ok a w h, atom_enters pb, up_atom hK.up hE.up ts.length⟩
      have hP : Reads pb tb cap (d + 1) ts NdE 145 (fun a => (atomA ts (kindA ts ts.length 101 (d + 1)) (deepA ts ts.length n false (d + 1)) ts.length a).go fun x b => postA ts (deepA ts ts.length n false (d + 1)) ts.length x b) := ⟨fun a w h => post_c pb tb cap (d + 1) ts _ hA _ hE ok a w h, post_enters pb, fun a x b h => up_go (a := a) (up_at hA.up (Nat.le_refl a)) (fun y c hc => up_post hE.up ts.length y hc) x b h⟩
      exact ⟨expr_of pb tb cap d ts _ w (fun w1 hb => withinN_c pb tb cap a d _ ts _ (by omega) (fun w2 h2 => exprHere_c pb tb cap (d + 1) ts _ _ _ hK hE hU ok a w2 h2) (exprHere_enters pb) w1 (h.below hb)) h.ltp,
        unary_of pb tb cap d ts _ w (fun w1 hb => withinN_c pb tb cap a d _ ts _ (by omega) (fun w2 h2 => unaryHere_c pb tb cap (d + 1) ts _ _ hU hP ok a w2 h2) (unaryHere_enters pb) w1 (h.below hb)) h.ltp⟩
end Go.Proofs.YtlhmofphpfdjlaaGreatDoor
/- What is deferred: a Diag that was given up with is the answer. -/
namespace Go.Proofs.YtlhmofphpfdjlaaGreatDoor
open Go.Proofs.Tryz
open Go.RowKit
theorem heap_drew (W : World) : W.drew.heap = W.heap := rfl
theorem nil_neq (v : Value) (w : World) : (binOp .neq 20 (.iface 30 v) .nilIface).run prog w = .ok (.bool true) w := by
  kernel_rfl
theorem assert_diag (v : Value) (w : World) : (Instr.typeAssert (.iface 30 v) 20 30 false).run prog w = .ok v w := by kernel_rfl
theorem nil_nil (w : World) : (binOp .neq 20 .nilIface .nilIface).run prog w = .ok (.bool false) w := by kernel_rfl
theorem catchT_idle (p q : Addr) (w : World) :
    CallsD prog 30 #[.pointer (some p), .pointer (some q)] .returning w fun e u' w' => e = .returned (.tuple #[]) /\ u' = .returning /\ w' = w := by
  have hn := nil_nil
  refine callsD_of_wpS func30 rfl fun c₀ cs hu => ?_
  apply wpS_seq
  apply wpS_region
  simp [wpOpsS, go_sem, recoverD, hu, ntmps30, Exit.thenS]
  refine wpS_of_wp ?_
  simp only [Array.replicate, List.replicate, List.setIfInBounds_toArray, List.set_cons_zero, List.set_cons_succ, List.append_toArray, List.cons_append, List.nil_append]
  go_wp2
  cases c₀
  simp_all [bodyPostS, results, results30]
theorem catchT_panic (ab db : Nat) (li co x : Int) (older : List PanicEntry) (w : World) (y0 y1 y2 y3 x0 x1 x2 x3 : Value) (ha : w.heap[ab]? = some (.cells #[y0, y1, y2, y3] 44)) (hd : w.heap[db]? = some (.cells #[x0, x1, x2, x3] 30)) (hab : ab ≠ db) :
    CallsD prog 30 #[.pointer (some ⟨ab, 0, none⟩), .pointer (some ⟨db, 0, none⟩)] (.panicking ({ v := .iface 30 (diagV li co x), recovered := false } :: older)) w fun e u' w' => e = .returned (.tuple #[]) /\ u' = .panicking ({ v := .iface 30 (diagV li co x), recovered := true } :: older) /\
      (w'.heap[ab]? = some zTyO /\ w'.heap[db]? = some (.cells #[.int .i64 0, .int .i64 li, .int .i64 co, .int .i64 x] 30)) /\ Hid (∀ B, B <= ab -> B <= db -> Below B w w') := by
  have hn := nil_neq
  have hta := assert_diag
  obtain ⟨⟨a0, a1, a2, a3⟩, ⟨z0, z1, z2, z3⟩, hla⟩ := res_facts ha
  obtain ⟨⟨d0, d1, d2, d3⟩, ⟨g0, g1, g2, g3⟩, hld⟩ := res_facts hd
  have HA := hideP ha
  have HD := hideP hd
  clear ha hd
  have hab' : ¬ db = ab := fun e => hab e.symm
  refine callsD_of_wpS func30 rfl fun c₀ cs hu => ?_
  apply wpS_seq
  apply wpS_region
  simp [wpOpsS, go_sem, recoverD, hu, ntmps30, Exit.thenS]
  refine wpS_of_wp ?_
  simp only [Array.replicate, List.replicate, List.setIfInBounds_toArray, List.set_cons_zero, List.set_cons_succ, List.append_toArray, List.cons_append, List.nil_append]
  go_wp2
  go_region
  all_goals
    go_wp2
    refine ⟨rfl, _, rfl, .tuple #[], results_none rfl _ _ _, rfl, rfl, ⟨?_, ?_⟩, fun B h1 h2 => ?_⟩
    · rw [heap_drew]
      refine (Below.heap_alloc _ _ _ (by rw [size_set4, size_set4]; exact hla)).trans ?_
      exact (other_set4 hab _ _ _ _).trans (set4 HA.out _ _ _ _)
    · rw [heap_drew]
      refine (Below.heap_alloc _ _ _ (by rw [size_set4, size_set4]; exact hld)).trans ?_
      exact set4 ((other_set4 hab' _ _ _ _).trans HD.out) _ _ _ _
    · exact ((below_set4 (below_set4 (Below.refl _ w) h1 _ _ _ _) h2 _ _ _ _).alloc (by rw [size_set4, size_set4]; omega) _).drew
end Go.Proofs.YtlhmofphpfdjlaaGreatDoor
