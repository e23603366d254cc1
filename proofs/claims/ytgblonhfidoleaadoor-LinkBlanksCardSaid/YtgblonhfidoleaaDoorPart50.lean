/- Part. -/
import Derived.Test.YtgblonhfidoleaaDoorPart49
set_option maxRecDepth 100000
set_option maxHeartbeats 4000000
/- Two lists of tokens that part in the last one's place alone: they are the same, or wrong both; no program. -/
namespace Go.Proofs.YtgblonhfidoleaaDoor.Bl
open Go.Proofs.Tryd
open Go.RowKit
/-- The same, or wrong both. -/
def PrS {α β : Type} : α ⊕ β -> α ⊕ β -> Prop
  | .inl x, .inl y => x = y
  | .inr _, .inr _ => True
  | _, _ => False
theorem prs_inl {α β : Type} (x : α) : PrS (Sum.inl x : α ⊕ β) (.inl x) := rfl
theorem prs_refl {α β : Type} (x : α ⊕ β) : PrS x x := by cases x <;> first | exact rfl | trivial
theorem prs_go {α β : Type} {r r' : Pr α} {f g : α -> Nat -> Pr β} (h : PrS r r') (hf : ∀ x a, r = .inl (x, a) -> PrS (f x a) (g x a)) : PrS (r.go f) (r'.go g) := by
  cases r with
  | inl p =>
    cases r' with
    | inl q =>
      have e : p = q := h
      subst e
      exact hf p.1 p.2 rfl
    | inr _ => exact h.elim
  | inr _ =>
    cases r' with
    | inl _ => exact h.elim
    | inr _ => trivial
theorem prs_ite {α β : Type} {c : Prop} [Decidable c] {x y x' y' : α ⊕ β} (h1 : c -> PrS x x') (h2 : PrS y y') : PrS (if c then x else y) (if c then x' else y') := by
  split
  · rename_i h; exact h1 h
  · exact h2
/-- They part in the place of what is the end. -/
def TkS (ts ts' : List Tok) : Prop := ts'.length = ts.length /\ ∀ a, (tkA ts' a).kind = (tkA ts a).kind /\ (tkA ts' a).text = (tkA ts a).text /\ ((tkA ts a).kind ≠ 0 -> (tkA ts' a).line = (tkA ts a).line /\ (tkA ts' a).col = (tkA ts a).col)
section
variable {ts ts' : List Tok}
theorem sees_s (H : TkS ts ts') (a : Nat) (s : List UInt8) : seesA ts' a s = seesA ts a s := by
  obtain ⟨h1, h2, _⟩ := H.2 a
  unfold seesA
  rw [h1, h2]
theorem sees_s' (H : TkS ts ts') (a : Nat) : seesA ts' a = seesA ts a := funext fun s => sees_s H a s
theorem place_s (H : TkS ts ts') {a : Nat} (h : (tkA ts a).kind ≠ 0) : lineA ts' a = lineA ts a /\ colA ts' a = colA ts a := (H.2 a).2.2 h
theorem place_sees (H : TkS ts ts') {a : Nat} {s : List UInt8} (h : seesA ts a s = true) : lineA ts' a = lineA ts a /\ colA ts' a = colA ts a := by
  refine place_s H fun h0 => ?_
  unfold seesA at h
  rw [h0] at h
  simp at h
theorem want_sees {a b : Nat} {s : List UInt8} {u : Unit} (h : wantA ts a s = .inl (u, b)) : seesA ts a s = true := by
  unfold wantA at h
  split at h
  · assumption
  · cases h
theorem name_kind {a b : Nat} {s : List UInt8} (h : nameA ts a = .inl (s, b)) : (tkA ts a).kind ≠ 0 := by
  unfold nameA at h
  split at h
  · rename_i h1
    intro h0
    rw [h0] at h1
    cases h1
  · cases h
theorem want_s (H : TkS ts ts') (a : Nat) (s : List UInt8) : PrS (wantA ts a s) (wantA ts' a s) := by
  unfold wantA
  rw [sees_s H]
  exact prs_ite (fun _ => rfl) trivial
theorem name_s (H : TkS ts ts') (a : Nat) : PrS (nameA ts a) (nameA ts' a) := by
  unfold nameA
  rw [(H.2 a).1, (H.2 a).2.1]
  exact prs_ite (fun _ => rfl) trivial
theorem many_s (H : TkS ts ts') {α : Type} {one one' : Nat -> Pr α} (h1 : ∀ a, PrS (one a) (one' a)) (sep : List UInt8) : ∀ f a, PrS (manyA ts one sep f a) (manyA ts' one' sep f a)
  | 0, _ => trivial
  | f + 1, a => by
    unfold manyA
    refine prs_go (h1 a) fun x b _ => ?_
    rw [sees_s H]
    exact prs_ite (fun _ => prs_go (many_s H h1 sep f (b + 1)) fun _ _ _ => rfl) rfl
theorem field_s (H : TkS ts ts') {α : Type} {K K' : Nat -> Pr α} (hK : ∀ a, PrS (K a) (K' a)) (a : Nat) : PrS (fieldA ts K a) (fieldA ts' K' a) := by
  unfold fieldA
  exact prs_go (name_s H a) fun _ _ _ => prs_go (want_s H _ _) fun _ _ _ => prs_go (hK _) fun _ _ _ => rfl
theorem prim_s (H : TkS ts ts') {K K' : Nat -> Pr Ty} (hK : ∀ a, PrS (K a) (K' a)) (f a : Nat) : PrS (primA ts K f a) (primA ts' K' f a) := by
  unfold primA
  simp only [sees_s H]
  refine prs_ite (fun _ => rfl) (prs_ite (fun _ => rfl) (prs_ite (fun _ => rfl) (prs_ite (fun _ => rfl) (prs_ite (fun _ => rfl) (prs_ite (fun _ => ?_) (prs_ite (fun _ => ?_) ?_))))))
  · exact prs_go (hK _) fun _ _ _ => prs_go (want_s H _ _) fun _ _ _ => rfl
  · exact prs_ite (fun _ => rfl) (prs_go (many_s H (field_s H hK) _ _ _) fun _ _ _ => prs_go (want_s H _ _) fun _ _ _ => rfl)
  · exact prs_go (name_s H _) fun _ _ _ => rfl
theorem alt_s (H : TkS ts ts') {K K' : Nat -> Pr Ty} (hK : ∀ a, PrS (K a) (K' a)) (f a : Nat) : PrS (altA ts K f a) (altA ts' K' f a) := by
  unfold altA
  exact prs_go (many_s H (prim_s H hK f) _ _ _) fun _ _ _ => prs_refl _
theorem kind_s (H : TkS ts ts') (f : Nat) : ∀ n d a, PrS (kindA ts f n d a) (kindA ts' f n d a)
  | 0, _, _ => trivial
  | n + 1, d, a => by
    unfold kindA
    refine prs_ite (fun _ => trivial) (prs_go (alt_s H (kind_s H f n (d + 1)) f a) fun _ _ _ => ?_)
    rw [sees_s H]
    exact prs_ite (fun _ => prs_go (kind_s H f n _ _) fun _ _ _ => rfl) rfl
theorem note_s (H : TkS ts ts') {K K' : Nat -> Pr Ty} (hK : ∀ a, PrS (K a) (K' a)) (a : Nat) : PrS (noteA ts K a) (noteA ts' K' a) := by
  unfold noteA
  rw [sees_s H]
  exact prs_ite (fun _ => prs_go (hK _) fun _ _ _ => rfl) rfl
theorem head_s (H : TkS ts ts') {K K' : Nat -> Pr Ty} (hK : ∀ a, PrS (K a) (K' a)) (a : Nat) : PrS (headA ts K a) (headA ts' K' a) := by
  unfold headA
  exact prs_go (want_s H _ _) fun _ _ _ => prs_go (name_s H _) fun _ _ _ => prs_go (note_s H hK _) fun _ _ _ => prs_go (want_s H _ _) fun _ _ _ => prs_go (note_s H hK _) fun _ _ _ => rfl
theorem find_seesB {l : List (List UInt8)} {a : Nat} {s : List UInt8} (h : l.find? (seesA ts a) = some s) : seesA ts a s = true := List.find?_some h
theorem left_s (H : TkS ts ts') (signs : List (List UInt8)) {sub sub' : Nat -> Pr Ty} (hs : ∀ a, PrS (sub a) (sub' a)) : ∀ f x a, PrS (leftA ts signs sub f x a) (leftA ts' signs sub' f x a)
  | 0, _, _ => trivial
  | f + 1, x, a => by
    unfold leftA
    rw [sees_s' H]
    cases hf : signs.find? (seesA ts a) with
    | none => exact rfl
    | some s =>
      obtain ⟨h1, h2⟩ := place_sees H (find_seesB hf)
      simp only [h1, h2]
      exact prs_go (hs _) fun _ _ _ => left_s H signs hs f _ _
theorem cmp_s (H : TkS ts ts') {K K' sub sub' : Nat -> Pr Ty} (hK : ∀ a, PrS (K a) (K' a)) (hs : ∀ a, PrS (sub a) (sub' a)) (a : Nat) : PrS (cmpA ts K sub a) (cmpA ts' K' sub' a) := by
  unfold cmpA
  refine prs_go (hs a) fun x b _ => ?_
  simp only [sees_s' H]
  cases hf : ([[60], [60, 61], [61, 61]] : List (List UInt8)).find? (seesA ts b) with
  | some s =>
    obtain ⟨h1, h2⟩ := place_sees H (find_seesB hf)
    simp only [h1, h2]
    exact prs_go (hs _) fun _ _ _ => rfl
  | none =>
    simp only
    refine prs_ite (fun h => ?_) (prs_ite (fun h => ?_) rfl)
    · obtain ⟨h1, h2⟩ := place_sees H h
      simp only [h1, h2]
      exact prs_go (hK _) fun _ _ _ => rfl
    · obtain ⟨h1, h2⟩ := place_sees H h
      simp only [h1, h2]
      cases tagsA.findIdx? (seesA ts (b + 1)) with
      | none => exact trivial
      | some i => exact rfl
theorem term_s (H : TkS ts ts') {U U' : Nat -> Pr Ty} (hU : ∀ a, PrS (U a) (U' a)) (f a : Nat) : PrS (termA ts U f a) (termA ts' U' f a) := by
  unfold termA
  exact prs_go (hU _) fun _ _ _ => left_s H _ hU _ _ _
theorem sum_s (H : TkS ts ts') {U U' : Nat -> Pr Ty} (hU : ∀ a, PrS (U a) (U' a)) (f a : Nat) : PrS (sumA ts U f a) (sumA ts' U' f a) := by
  unfold sumA
  exact prs_go (term_s H hU _ _) fun _ _ _ => left_s H _ (term_s H hU f) _ _ _
theorem cat_s (H : TkS ts ts') {U U' : Nat -> Pr Ty} (hU : ∀ a, PrS (U a) (U' a)) (f a : Nat) : PrS (catA ts U f a) (catA ts' U' f a) := by
  unfold catA
  exact prs_go (sum_s H hU _ _) fun _ _ _ => left_s H _ (sum_s H hU f) _ _ _
theorem and_s (H : TkS ts ts') {K K' U U' : Nat -> Pr Ty} (hK : ∀ a, PrS (K a) (K' a)) (hU : ∀ a, PrS (U a) (U' a)) (f a : Nat) : PrS (andA ts K U f a) (andA ts' K' U' f a) := by
  unfold andA
  exact prs_go (cmp_s H hK (cat_s H hU f) _) fun _ _ _ => left_s H _ (cmp_s H hK (cat_s H hU f)) _ _ _
theorem or_s (H : TkS ts ts') {K K' U U' : Nat -> Pr Ty} (hK : ∀ a, PrS (K a) (K' a)) (hU : ∀ a, PrS (U a) (U' a)) (f a : Nat) : PrS (orA ts K U f a) (orA ts' K' U' f a) := by
  unfold orA
  exact prs_go (and_s H hK hU _ _) fun _ _ _ => left_s H _ (and_s H hK hU f) _ _ _
theorem expr_s (H : TkS ts ts') {K K' E E' U U' : Nat -> Pr Ty} (hK : ∀ a, PrS (K a) (K' a)) (hE : ∀ a, PrS (E a) (E' a)) (hU : ∀ a, PrS (U a) (U' a)) (f a : Nat) : PrS (exprA ts K E U f a) (exprA ts' K' E' U' f a) := by
  unfold exprA
  simp only [sees_s H]
  refine prs_ite (fun h => ?_) (prs_ite (fun h => ?_) (prs_ite (fun h => ?_) (or_s H hK hU f a)))
  · obtain ⟨h1, h2⟩ := place_sees H h
    simp only [h1, h2]
    exact prs_go (name_s H _) fun _ _ _ => prs_go (note_s H hK _) fun _ _ _ => prs_go (want_s H _ _) fun _ _ _ => prs_go (hE _) fun _ _ _ => prs_go (want_s H _ _) fun _ _ _ => prs_go (hE _) fun _ _ _ => rfl
  · obtain ⟨h1, h2⟩ := place_sees H h
    simp only [h1, h2]
    exact prs_go (hE _) fun _ _ _ => prs_go (want_s H _ _) fun _ _ _ => prs_go (hE _) fun _ _ _ => prs_go (want_s H _ _) fun _ _ _ => prs_go (hE _) fun _ _ _ => rfl
  · obtain ⟨h1, h2⟩ := place_sees H h
    simp only [h1, h2]
    exact prs_go (head_s H hK _) fun _ _ _ => prs_go (want_s H _ _) fun _ _ _ => prs_go (hE _) fun _ _ _ => rfl
theorem rec_s (H : TkS ts ts') {E E' : Nat -> Pr Ty} (hE : ∀ a, PrS (E a) (E' a)) (f a : Nat) (h : seesA ts a [123] = true) : PrS (recA ts E f a) (recA ts' E' f a) := by
  obtain ⟨h1, h2⟩ := place_sees H h
  unfold recA
  simp only [sees_s H, h1, h2, (H.2 _).1, (H.2 _).2.1]
  refine prs_ite (fun _ => rfl) (prs_ite (fun _ => ?_) ?_)
  · exact prs_go (many_s H (field_s H hE) _ _ _) fun _ _ _ => prs_go (want_s H _ _) fun _ _ _ => rfl
  · exact prs_go (hE _) fun _ _ _ => prs_go (want_s H _ _) fun _ _ _ => prs_go (name_s H _) fun _ _ _ => prs_go (want_s H _ _) fun _ _ _ => prs_go (hE _) fun _ _ _ => prs_go (want_s H _ _) fun _ _ _ => rfl
theorem atom_s (H : TkS ts ts') {K K' E E' : Nat -> Pr Ty} (hK : ∀ a, PrS (K a) (K' a)) (hE : ∀ a, PrS (E a) (E' a)) (f a : Nat) : PrS (atomA ts K E f a) (atomA ts' K' E' f a) := by
  by_cases h0 : (tkA ts a).kind = 0
  · have hs : ∀ s, seesA ts a s = false := fun s => by unfold seesA; rw [h0]; rfl
    unfold atomA
    simp only [sees_s H, hs, (H.2 _).1, (H.2 _).2.1, h0]
    have n1 : nameA ts a = badA ts 7 a := by unfold nameA; rw [h0]; rfl
    have n2 : nameA ts' a = badA ts' 7 a := by unfold nameA; rw [(H.2 a).1, h0]; rfl
    rw [n1, n2]
    exact trivial
  · obtain ⟨h1, h2⟩ := place_s H h0
    unfold atomA
    simp only [sees_s H, h1, h2, (H.2 _).1, (H.2 _).2.1]
    refine prs_ite (fun _ => rfl) (prs_ite (fun _ => rfl) (prs_ite (fun _ => rfl) (prs_ite (fun _ => rfl) (prs_ite (fun _ => rfl) (prs_ite (fun _ => ?_) (prs_ite (fun _ => ?_) (prs_ite (fun _ => ?_) (prs_ite (fun h => rec_s H hE f a h) ?_))))))))
    · exact prs_go (want_s H _ _) fun _ _ _ => prs_go (want_s H _ _) fun _ _ _ => rfl
    · exact prs_go (want_s H _ _) fun _ _ _ => prs_go (hE _) fun _ _ _ => prs_go (want_s H _ _) fun _ _ _ => rfl
    · exact prs_go (hE _) fun _ _ _ => prs_go (want_s H _ _) fun _ _ _ => rfl
    · refine prs_go (name_s H _) fun _ _ _ => prs_ite (fun _ => ?_) rfl
      exact prs_go (many_s H hK _ _ _) fun _ _ _ => prs_go (want_s H _ _) fun _ _ _ => rfl
theorem post_s (H : TkS ts ts') {E E' : Nat -> Pr Ty} (hE : ∀ a, PrS (E a) (E' a)) : ∀ f x a, PrS (postA ts E f x a) (postA ts' E' f x a)
  | 0, _, _ => trivial
  | f + 1, x, a => by
    unfold postA
    simp only [sees_s H]
    refine prs_ite (fun h => ?_) (prs_ite (fun h => ?_) rfl)
    · obtain ⟨h1, h2⟩ := place_sees H h
      simp only [h1, h2]
      exact prs_go (hE _) fun _ _ _ => prs_go (want_s H _ _) fun _ _ _ => post_s H hE f _ _
    · obtain ⟨h1, h2⟩ := place_sees H h
      simp only [h1, h2]
      exact prs_go (name_s H _) fun _ _ _ => post_s H hE f _ _
theorem deep_s (H : TkS ts ts') (f : Nat) : ∀ n u d a, PrS (deepA ts f n u d a) (deepA ts' f n u d a)
  | 0, _, _, _ => trivial
  | n + 1, false, d, a => by
    unfold deepA
    exact prs_ite (fun _ => trivial) (expr_s H (kind_s H f _ _) (deep_s H f n false _) (deep_s H f n true _) f a)
  | n + 1, true, d, a => by
    unfold deepA
    simp only [sees_s H]
    refine prs_ite (fun _ => trivial) (prs_ite (fun h => ?_) (prs_ite (fun h => ?_) ?_))
    · obtain ⟨h1, h2⟩ := place_sees H h
      simp only [h1, h2]
      exact prs_go (deep_s H f n true _ _) fun _ _ _ => rfl
    · obtain ⟨h1, h2⟩ := place_sees H h
      simp only [h1, h2]
      exact prs_go (deep_s H f n true _ _) fun _ _ _ => rfl
    · exact prs_go (atom_s H (kind_s H f _ _) (deep_s H f n false _) f a) fun _ _ _ => post_s H (deep_s H f n false _) f _ _
theorem var_s (H : TkS ts ts') {K K' : Nat -> Pr Ty} (hK : ∀ a, PrS (K a) (K' a)) (a : Nat) : PrS (varA ts K a) (varA ts' K' a) := by
  unfold varA
  simp only [sees_s H]
  exact prs_go (name_s H _) fun _ _ _ => prs_ite (fun _ => prs_go (hK _) fun _ _ _ => rfl) rfl
theorem vars_s (H : TkS ts ts') {K K' : Nat -> Pr Ty} (hK : ∀ a, PrS (K a) (K' a)) (f a : Nat) : PrS (varsA ts K f a) (varsA ts' K' f a) := by
  unfold varsA
  simp only [sees_s H]
  exact prs_ite (fun _ => prs_go (many_s H (var_s H hK) _ _ _) fun _ _ _ => prs_go (want_s H _ _) fun _ _ _ => rfl) rfl
theorem imports_s (H : TkS ts ts') : ∀ f a, PrS (importsA ts f a) (importsA ts' f a)
  | 0, _ => trivial
  | f + 1, a => by
    unfold importsA
    rw [sees_s H, H.1]
    refine prs_ite (fun h => ?_) rfl
    obtain ⟨h1, h2⟩ := place_sees H h
    simp only [h1, h2]
    exact prs_go (name_s H _) fun _ _ _ => prs_go (want_s H _ _) fun _ _ _ => prs_go (many_s H (name_s H) _ _ _) fun _ _ _ => prs_go (want_s H _ _) fun _ _ _ => prs_go (imports_s H f _) fun _ _ _ => rfl
theorem decl_s (H : TkS ts ts') (a : Nat) : PrS (declA ts a) (declA ts' a) := by
  unfold declA
  simp only [sees_s H, H.1]
  obtain ⟨b, hb⟩ : ∃ b, b = (if seesA ts a [101, 120, 112, 111, 114, 116] = true then a + 1 else a) := ⟨_, rfl⟩
  rw [<- hb]
  refine prs_go (want_s H _ _) fun u c hu => ?_
  obtain ⟨h1, h2⟩ := place_sees H (want_sees hu)
  simp only [h1, h2]
  exact prs_go (name_s H _) fun _ _ _ => prs_go (vars_s H (kind_s H _ _ _) _ _) fun _ _ _ => prs_go (head_s H (kind_s H _ _ _) _) fun _ _ _ => prs_go (want_s H _ _) fun _ _ _ => prs_go (deep_s H _ _ _ _ _) fun _ _ _ => prs_go (want_s H _ _) fun _ _ _ => rfl
theorem decls_s (H : TkS ts ts') : ∀ f a, PrS (declsA ts f a) (declsA ts' f a)
  | 0, _ => trivial
  | f + 1, a => by
    unfold declsA
    rw [(H.2 a).1]
    exact prs_ite (fun _ => rfl) (prs_go (decl_s H _) fun _ _ _ => prs_go (decls_s H f _) fun _ _ _ => rfl)
theorem module_s (H : TkS ts ts') : PrS (moduleA ts) (moduleA ts') := by
  unfold moduleA
  rw [H.1]
  exact prs_go (imports_s H _ _) fun _ _ _ => prs_go (decls_s H _ _) fun _ _ _ => rfl
theorem end_s (H : TkS ts ts') {α : Type} {r r' : Pr α} (h : PrS r r') : PrS (endA ts r) (endA ts' r') := by
  unfold endA
  refine prs_go h fun x a _ => ?_
  rw [(H.2 a).1]
  exact prs_ite (fun _ => rfl) trivial
end
theorem tks_last (us : List Tok) (li co li' co' : Nat) : TkS (us ++ [⟨0, [], li, co⟩]) (us ++ [⟨0, [], li', co'⟩]) := by
  refine ⟨by simp, fun a => ?_⟩
  unfold tkA
  simp only [List.getD_eq_getElem?_getD]
  by_cases h : a < us.length
  · rw [List.getElem?_append_left h, List.getElem?_append_left h]
    exact ⟨rfl, rfl, fun _ => ⟨rfl, rfl⟩⟩
  · rw [List.getElem?_append_right (by omega), List.getElem?_append_right (by omega)]
    cases a - us.length with
    | zero => exact ⟨rfl, rfl, fun h => absurd rfl h⟩
    | succ n => exact ⟨rfl, rfl, fun h => absurd rfl h⟩
theorem moduleText_more (l : List UInt8) (h : l.length <= 60000) : PrS (moduleTextV l) (moduleTextV (l ++ blB)) := by
  have hl := lexV_more l h
  unfold moduleTextV
  cases e1 : lexV l with
  | inr x =>
    rw [e1] at hl
    cases e2 : lexV (l ++ blB) with
    | inr y => trivial
    | inl y => rw [e2] at hl; exact hl.elim
  | inl ts =>
    rw [e1] at hl
    cases e2 : lexV (l ++ blB) with
    | inr y => rw [e2] at hl; exact hl.elim
    | inl ts' =>
      rw [e2] at hl
      obtain ⟨us, li, co, li', co', h1, h2⟩ := hl
      have H : TkS ts ts' := by rw [h1, h2]; exact tks_last us li co li' co'
      have hm := end_s H (module_s H)
      simp only
      cases e3 : endA ts (moduleA ts) with
      | inl p =>
        rw [e3] at hm
        cases e4 : endA ts' (moduleA ts') with
        | inl q => rw [e4] at hm; have e : p = q := hm; subst e; exact rfl
        | inr q => rw [e4] at hm; exact hm.elim
      | inr p =>
        rw [e3] at hm
        cases e4 : endA ts' (moduleA ts') with
        | inl q => rw [e4] at hm; exact hm.elim
        | inr q => trivial
end Go.Proofs.YtgblonhfidoleaaDoor.Bl
/- Blank lines behind one of the modules' texts: no program. -/
namespace Go.Proofs.YtgblonhfidoleaaDoor
open Go.Proofs.Tryd
open Go.RowKit
open Bl (PrS prs_refl moduleText_more blB)
/-- They part in the faults' places alone. -/
def L1S (s s' : L1) : Prop := s'.num = s.num /\ s'.names = s.names /\ s'.mods = s.mods /\ s'.ds.length = s.ds.length
theorem lread_s {m : Nat} {a b b' : Bs} {s s' : L1} (hs : L1S s s') (hb : PrS (moduleTextV b) (moduleTextV b')) : L1S (lreadV m a b s) (lreadV m a b' s') := by
  obtain ⟨h1, h2, h3, h4⟩ := hs
  unfold lreadV
  split
  · exact ⟨h1, h2, h3, by simp [h4]⟩
  · rw [h1]
    cases look s.num a with
    | some _ => exact ⟨rfl, h2, h3, by simp [h4]⟩
    | none =>
      simp only
      cases e1 : moduleTextV b with
      | inl D =>
        rw [e1] at hb
        cases e2 : moduleTextV b' with
        | inl D' =>
          rw [e2] at hb
          have e : D = D' := hb
          subst e
          exact ⟨rfl, congrArg (· ++ [a]) h2, congrArg (· ++ [moOf D]) h3, h4⟩
        | inr _ => rw [e2] at hb; exact hb.elim
      | inr x =>
        rw [e1] at hb
        cases e2 : moduleTextV b' with
        | inl D' => rw [e2] at hb; exact hb.elim
        | inr x' => exact ⟨rfl, h2, h3, by simp [h4]⟩
theorem readFrom_s : ∀ (l : List (Bs × Bs)) (m : Nat) {s s' : L1}, L1S s s' -> L1S (readFrom m l s) (readFrom m l s')
  | [], _, _, _, h => h
  | _ :: l, m, _, _, h => readFrom_s l (m + 1) (lread_s h (prs_refl _))
theorem readFrom_more : ∀ (l : List (Bs × Bs)) (k m : Nat) {s s' : L1} {x : Bs × Bs}, L1S s s' -> l[k]? = some x -> x.2.length <= 60000 -> L1S (readFrom m l s) (readFrom m (l.set k (x.1, x.2 ++ blB)) s')
  | [], _, _, _, _, _, _, h, _ => by cases h
  | y :: l, 0, m, _, _, x, hs, h, h6 => by
    have e : y = x := by simpa using h
    subst e
    exact readFrom_s l (m + 1) (lread_s hs (moduleText_more _ h6))
  | y :: l, k + 1, m, _, _, x, hs, h, h6 => readFrom_more l k (m + 1) (lread_s hs (prs_refl _)) (by simpa using h) h6
/-- The same, or as many faults. -/
def LkS : Lk ⊕ List Dg -> Lk ⊕ List Dg -> Prop
  | .inl x, .inl y => y = x
  | .inr d, .inr e => e.length = d.length
  | _, _ => False
theorem lks_refl (x : Lk ⊕ List Dg) : LkS x x := by cases x <;> exact rfl
theorem link_blanks {l : List (Bs × Bs)} {k : Nat} {x : Bs × Bs} (hk : l[k]? = some x) (h6 : x.2.length <= 60000) : LkS (linkV l) (linkV (l.set k (x.1, x.2 ++ blB))) := by
  have hs : L1S (readAllV l) (readAllV (l.set k (x.1, x.2 ++ blB))) := by
    unfold readAllV
    rw [List.length_set]
    split
    · exact ⟨rfl, rfl, rfl, rfl⟩
    · exact readFrom_more l k 0 ⟨rfl, rfl, rfl, rfl⟩ hk h6
  obtain ⟨h1, h2, h3, h4⟩ := hs
  unfold linkV
  simp only
  rw [h1, h2, h3, h4]
  split
  · exact h4
  · exact lks_refl _
abbrev blS : ByteArray := ⟨#[10, 10, 35, 32, 110, 111, 116, 104, 105, 110, 103, 10]⟩
theorem srcs_set {l : List Src} {k : Nat} {p : Src} : srcs (l.set k (p.1, p.2 ++ blS)) = (srcs l).set k (p.1.data.toList, p.2.data.toList ++ blB) := by
  have e : (p.2 ++ blS).data.toList = p.2.data.toList ++ blB := by
    rw [ByteArray.data_append, Array.toList_append]
    rfl
  simp only [srcs, List.map_set]
  rw [e]
end Go.Proofs.YtgblonhfidoleaaDoor
