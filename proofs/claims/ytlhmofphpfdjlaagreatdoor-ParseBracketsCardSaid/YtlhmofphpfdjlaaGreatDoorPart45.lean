/- Part. -/
import Derived.Test.YtlhmofphpfdjlaaGreatDoorPart44
set_option maxRecDepth 100000
set_option maxHeartbeats 4000000
/- An expression within brackets, a line on: it is that expression, or too deep; no program. -/
namespace Go.Proofs.YtlhmofphpfdjlaaGreatDoor.Br
open Go.Proofs.Tryz
open Go.RowKit
/-- Two lists, one by one. -/
def LR {α β : Type} (R : α -> β -> Prop) : List α -> List β -> Prop
  | [], [] => True
  | x :: xs, y :: ys => R x y /\ LR R xs ys
  | _, _ => False
theorem lr_mono {α β : Type} {R S : α -> β -> Prop} (h : ∀ x y, R x y -> S x y) : ∀ (xs : List α) (ys : List β), LR R xs ys -> LR S xs ys
  | [], [], _ => trivial
  | _ :: xs, _ :: ys, ⟨h1, h2⟩ => ⟨h _ _ h1, lr_mono h xs ys h2⟩
theorem lr_map {α β γ : Type} {R : α -> β -> Prop} {f : α -> γ} {g : β -> γ} (h : ∀ x y, R x y -> f x = g y) : ∀ (xs : List α) (ys : List β), LR R xs ys -> xs.map f = ys.map g
  | [], [], _ => rfl
  | x :: xs, y :: ys, ⟨h1, h2⟩ => by
    rw [List.map_cons, List.map_cons, h x y h1, lr_map h xs ys h2]
/-- The same expression, a line on. -/
def ShE : Nat -> Ty -> Ty -> Prop
  | 0, _, _ => False
  | m + 1, x, y => ∃ k tx N l c ts ns ks ks', x = mkE k tx N l c ts ns ks /\ y = mkE k tx N (l + 1) c ts ns ks' /\ LR (ShE m) ks ks'
theorem she_mono : ∀ (m : Nat) (x y : Ty), ShE m x y -> ShE (m + 1) x y
  | 0, _, _, h => h.elim
  | m + 1, x, y, h => by
    obtain ⟨k, tx, N, l, c, ts, ns, ks, ks', h1, h2, h3⟩ := h
    exact ⟨k, tx, N, l, c, ts, ns, ks, ks', h1, h2, lr_mono (she_mono m) _ _ h3⟩
theorem she_le {m n : Nat} (hmn : m <= n) {x y : Ty} (h : ShE m x y) : ShE n x y := by
  induction hmn with
  | refl => exact h
  | step _ ih => exact she_mono _ _ _ ih
def lnT : Ty -> Int
  | .agg [_, _, _, .lit (.int _ z), _, _, _, _] => z
  | _ => 0
def RE (x y : Ty) : Prop := ∃ m, ShE m x y /\ lnT x <= 70000
def RL (xs ys : List Ty) : Prop := ∃ m, LR (ShE m) xs ys
theorem rl_nil : RL [] [] := ⟨0, trivial⟩
theorem rl_cons {x y : Ty} {xs ys : List Ty} (h : RE x y) (hs : RL xs ys) : RL (x :: xs) (y :: ys) := by
  obtain ⟨m, h, _⟩ := h
  obtain ⟨n, hs⟩ := hs
  exact ⟨max m n, she_le (by omega) h, lr_mono (fun _ _ h => she_le (by omega) h) _ _ hs⟩
theorem re_mk {k : Int} {tx : List UInt8} {N : Int} {l c : Nat} {ts : List Ty} {ns : List (List UInt8)} {ks ks' : List Ty} (hl : l <= 70000) (h : RL ks ks') : RE (mkE k tx N l c ts ns ks) (mkE k tx N (l + 1) c ts ns ks') := by
  obtain ⟨m, h⟩ := h
  exact ⟨m + 1, ⟨k, tx, N, l, c, ts, ns, ks, ks', rfl, rfl, h⟩, by show (l : Int) <= 70000; omega⟩
/-- A field: its name and what it is. -/
def RP (p q : List UInt8 × Ty) : Prop := q.1 = p.1 /\ RE p.2 q.2
theorem rp_list : ∀ (xs ys : List (List UInt8 × Ty)), LR RP xs ys -> ys.map (·.1) = xs.map (·.1) /\ RL (xs.map (·.2)) (ys.map (·.2))
  | [], [], _ => ⟨rfl, rl_nil⟩
  | x :: xs, y :: ys, ⟨h1, h2⟩ => by
    obtain ⟨h3, h4⟩ := rp_list xs ys h2
    simp only [List.map_cons]
    exact ⟨by rw [h1.1, h3], rl_cons h1.2 h4⟩
theorem lr_eq {α : Type} : ∀ (xs ys : List α), LR (fun x y => y = x) xs ys -> ys = xs
  | [], [], _ => rfl
  | x :: xs, y :: ys, ⟨h1, h2⟩ => by rw [h1, lr_eq xs ys h2]
/-- What is read is read a token on, or is too deep. -/
def Sim {α β : Type} (n : Nat) (R : α -> β -> Prop) (r : Pr α) (r' : Pr β) : Prop := ∀ x b, r = .inl (x, b) -> (∃ y, r' = .inl (y, b + 1) /\ R x y /\ b <= n) ∨ ∃ p, r' = .inr (6, p)
section
variable {n : Nat}
theorem sim_bad {α β : Type} {R : α -> β -> Prop} {e : Int × Nat × Nat} {r' : Pr β} : Sim n R (.inr e : Pr α) r' := fun _ _ h => by cases h
theorem sim_inl {α β : Type} {R : α -> β -> Prop} {x : α} {y : β} {b : Nat} (hb : b <= n) (h : R x y) : Sim n R (.inl (x, b)) (.inl (y, b + 1)) := fun _ _ e => by
  injection e with e
  injection e with e1 e2
  subst e1 e2
  exact .inl ⟨y, rfl, h, hb⟩
theorem sim_deep {α β : Type} {R : α -> β -> Prop} {r : Pr α} {p : Nat × Nat} : Sim n R r (.inr (6, p) : Pr β) := fun _ _ _ => .inr ⟨p, rfl⟩
theorem sim_go {α β γ δ : Type} {R : α -> β -> Prop} {S : γ -> δ -> Prop} {r : Pr α} {r' : Pr β} {f : α -> Nat -> Pr γ} {g : β -> Nat -> Pr δ} (h : Sim n R r r')
    (hf : ∀ x y b, R x y -> b <= n -> Sim n S (f x b) (g y (b + 1))) : Sim n S (r.go f) (r'.go g) := by
  intro z c e
  cases r with
  | inr e' => cases e
  | inl p =>
    obtain ⟨x, b⟩ := p
    have e2 : f x b = .inl (z, c) := e
    rcases h x b rfl with ⟨y, rfl, hR, hb⟩ | ⟨p, rfl⟩
    · exact hf x y b hR hb z c e2
    · exact .inr ⟨p, rfl⟩
theorem sim_ite {α β : Type} {R : α -> β -> Prop} {c c' : Bool} {x y : Pr α} {x' y' : Pr β} (hc : c' = c) (h1 : c = true -> Sim n R x x') (h2 : Sim n R y y') : Sim n R (if c = true then x else y) (if c' = true then x' else y') := by
  subst hc
  split
  · rename_i h; exact h1 h
  · exact h2
end
/-- The second list is the first one, a line on, within brackets. -/
def BrS (n : Nat) (ts ts' : List Tok) : Prop :=
  (∀ a, a < n -> tkA ts' (a + 1) = upT (tkA ts a) /\ (tkA ts a).kind ≠ 0 /\ (tkA ts a).line <= 70000) /\ (∀ a, n <= a -> (tkA ts a).kind = 0 /\ ((tkA ts' (a + 1)).kind = 0 ∨ ((tkA ts' (a + 1)).kind = 5 /\ (tkA ts' (a + 1)).text = [41]))) /\ ts.length <= ts'.length
section
variable {n : Nat} {ts ts' : List Tok}
theorem sees_b (H : BrS n ts ts') {a : Nat} {s : List UInt8} (hs : s ≠ [41]) : seesA ts' (a + 1) s = seesA ts a s := by
  by_cases h : a < n
  · unfold seesA
    rw [(H.1 a h).1]
    rfl
  · obtain ⟨h1, h2⟩ := H.2.1 a (by omega)
    unfold seesA
    rw [h1]
    rcases h2 with h2 | ⟨h2, h3⟩
    · rw [h2]; rfl
    · rw [h2, h3]
      have : ([41] == s) = false := by simpa using fun e => hs e.symm
      rw [this]
      rfl
theorem sees_lt (H : BrS n ts ts') {a : Nat} {s : List UInt8} (h : seesA ts a s = true) : a < n /\ lineA ts' (a + 1) = lineA ts a + 1 /\ colA ts' (a + 1) = colA ts a /\ seesA ts' (a + 1) s = true /\ lineA ts a <= 70000 := by
  have hlt : a < n := by
    by_cases h' : a < n
    · exact h'
    · have h1 := (H.2.1 a (by omega)).1
      unfold seesA at h
      rw [h1] at h
      cases h
  have e := (H.1 a hlt).1
  refine ⟨hlt, by unfold lineA; rw [e]; rfl, by unfold colA; rw [e]; rfl, ?_, (H.1 a hlt).2.2⟩
  unfold seesA at h ⊢
  rw [e]
  exact h
theorem kind_b (H : BrS n ts ts') {a : Nat} {k : Int} (h0 : k ≠ 0) (h5 : k ≠ 5) : ((tkA ts' (a + 1)).kind == k) = ((tkA ts a).kind == k) := by
  by_cases h : a < n
  · rw [(H.1 a h).1]; rfl
  · obtain ⟨h1, h2⟩ := H.2.1 a (by omega)
    have e0 : ((0 : Int) == k) = false := by simpa using fun e => h0 e.symm
    have e5 : ((5 : Int) == k) = false := by simpa using fun e => h5 e.symm
    rw [h1, e0]
    rcases h2 with h2 | ⟨h2, _⟩
    · rw [h2, e0]
    · rw [h2, e5]
theorem kind_lt (H : BrS n ts ts') {a : Nat} {k : Int} (h0 : k ≠ 0) (h : ((tkA ts a).kind == k) = true) : a < n /\ lineA ts' (a + 1) = lineA ts a + 1 /\ colA ts' (a + 1) = colA ts a /\ (tkA ts' (a + 1)).text = (tkA ts a).text /\ lineA ts a <= 70000 := by
  have hlt : a < n := by
    by_cases h' : a < n
    · exact h'
    · rw [(H.2.1 a (by omega)).1] at h
      exact absurd (by simpa using h) (fun e : (0 : Int) = k => h0 e.symm)
  have e := (H.1 a hlt).1
  exact ⟨hlt, by unfold lineA; rw [e]; rfl, by unfold colA; rw [e]; rfl, by rw [e]; rfl, (H.1 a hlt).2.2⟩
theorem want_b (H : BrS n ts ts') (a : Nat) (s : List UInt8) : Sim n (fun _ _ => True) (wantA ts a s) (wantA ts' (a + 1) s) := by
  unfold wantA
  by_cases h : seesA ts a s = true
  · obtain ⟨h1, _, _, h2, _⟩ := sees_lt H h
    rw [if_pos h, if_pos h2]
    exact sim_inl (by omega) trivial
  · rw [if_neg h]
    exact sim_bad
theorem name_b (H : BrS n ts ts') (a : Nat) : Sim n (fun x y => y = x) (nameA ts a) (nameA ts' (a + 1)) := by
  unfold nameA
  refine sim_ite (kind_b H (by decide) (by decide)) (fun h => ?_) sim_bad
  obtain ⟨h1, _, _, h2, _⟩ := kind_lt H (by decide) h
  exact sim_inl (by omega) h2
theorem many_b (H : BrS n ts ts') {α β : Type} {R : α -> β -> Prop} {one : Nat -> Pr α} {one' : Nat -> Pr β} (h1 : ∀ a, Sim n R (one a) (one' (a + 1))) {sep : List UInt8} (hs : sep ≠ [41]) : ∀ f f' a, f <= f' -> Sim n (LR R) (manyA ts one sep f a) (manyA ts' one' sep f' (a + 1))
  | 0, _, _, _ => sim_bad
  | _ + 1, 0, _, h => absurd h (by omega)
  | f + 1, f' + 1, a, hf => by
    unfold manyA
    refine sim_go (h1 a) fun x y b hR hb => sim_ite (sees_b H hs) (fun h => ?_) (sim_inl hb ⟨hR, trivial⟩)
    exact sim_go (many_b H h1 hs f f' (b + 1) (by omega)) fun xs ys c hRs hc => sim_inl hc ⟨hR, hRs⟩
theorem field_b (H : BrS n ts ts') {α β : Type} {R : α -> β -> Prop} {K : Nat -> Pr α} {K' : Nat -> Pr β} (hK : ∀ a, Sim n R (K a) (K' (a + 1))) (a : Nat) : Sim n (fun p q => q.1 = p.1 /\ R p.2 q.2) (fieldA ts K a) (fieldA ts' K' (a + 1)) := by
  unfold fieldA
  exact sim_go (name_b H a) fun x y b hx _ => sim_go (want_b H _ _) fun _ _ _ _ _ => sim_go (hK _) fun _ _ _ hR hc => sim_inl hc ⟨hx, hR⟩
theorem fields_eq {xs ys : List (List UInt8 × Ty)} (h : LR (fun p q => q.1 = p.1 /\ (fun x y => y = x) p.2 q.2) xs ys) : ys = xs :=
  lr_eq xs ys (lr_mono (fun _ _ h => Prod.ext h.1 h.2) _ _ h)
theorem prim_b (H : BrS n ts ts') {K K' : Nat -> Pr Ty} (hK : ∀ a, Sim n (fun x y => y = x) (K a) (K' (a + 1))) {f f' : Nat} (hf : f <= f') (a : Nat) : Sim n (fun x y => y = x) (primA ts K f a) (primA ts' K' f' (a + 1)) := by
  unfold primA
  refine sim_ite (sees_b H (by decide)) (fun h => sim_inl (sees_lt H h).1 rfl) (sim_ite (sees_b H (by decide)) (fun h => sim_inl (sees_lt H h).1 rfl) (sim_ite (sees_b H (by decide)) (fun h => sim_inl (sees_lt H h).1 rfl) (sim_ite (sees_b H (by decide)) (fun h => sim_inl (sees_lt H h).1 rfl) (sim_ite (sees_b H (by decide)) (fun h => sim_inl (sees_lt H h).1 rfl) (sim_ite (sees_b H (by decide)) (fun _ => ?_) (sim_ite (sees_b H (by decide)) (fun _ => ?_) ?_))))))
  · exact sim_go (hK _) fun _ _ _ e _ => sim_go (want_b H _ _) fun _ _ _ _ hc => sim_inl hc e
  · refine sim_ite (sees_b H (by decide)) (fun h => sim_inl (sees_lt H h).1 rfl) (sim_go (many_b H (field_b H hK) (by decide) f f' _ hf) fun xs ys _ e _ => sim_go (want_b H _ _) fun _ _ _ _ hc => sim_inl hc ?_)
    rw [fields_eq e]
  · exact sim_go (name_b H _) fun _ _ _ e hc => sim_inl hc (by rw [e])
theorem alt_b (H : BrS n ts ts') {K K' : Nat -> Pr Ty} (hK : ∀ a, Sim n (fun x y => y = x) (K a) (K' (a + 1))) {f f' : Nat} (hf : f <= f') (a : Nat) : Sim n (fun x y => y = x) (altA ts K f a) (altA ts' K' f' (a + 1)) := by
  unfold altA
  refine sim_go (many_b H (prim_b H hK hf) (by decide) f f' a hf) fun xs ys b e hb => ?_
  rw [lr_eq xs ys e]
  match xs with
  | [] => exact sim_inl hb rfl
  | [_] => exact sim_inl hb rfl
  | _ :: _ :: _ => exact sim_inl hb rfl
theorem kindA_b (H : BrS n ts ts') {f f' : Nat} (hf : f <= f') : ∀ m m' d d' a, Sim n (fun x y => y = x) (kindA ts f m d a) (kindA ts' f' m' d' (a + 1))
  | 0, _, _, _, _ => sim_bad
  | _ + 1, 0, _, _, _ => sim_deep
  | m + 1, m' + 1, d, d', a => by
    unfold kindA
    by_cases h : 100 <= d
    · rw [if_pos h]; exact sim_bad
    by_cases h' : 100 <= d'
    · rw [if_pos h']; exact sim_deep
    rw [if_neg h, if_neg h']
    refine sim_go (alt_b H (kindA_b H hf m m' (d + 1) (d' + 1)) hf a) fun x y b e hb => sim_ite (sees_b H (by decide)) (fun _ => ?_) (sim_inl hb e)
    exact sim_go (kindA_b H hf m m' _ _ _) fun _ _ _ e' hc => sim_inl hc (by rw [e, e'])
theorem note_b (H : BrS n ts ts') {K K' : Nat -> Pr Ty} (hK : ∀ a, Sim n (fun x y => y = x) (K a) (K' (a + 1))) {a : Nat} (ha : a <= n) : Sim n (fun x y => y = x) (noteA ts K a) (noteA ts' K' (a + 1)) := by
  unfold noteA
  exact sim_ite (sees_b H (by decide)) (fun _ => sim_go (hK _) fun _ _ _ e hc => sim_inl hc (by rw [e])) (sim_inl ha rfl)
theorem head_b (H : BrS n ts ts') {K K' : Nat -> Pr Ty} (hK : ∀ a, Sim n (fun x y => y = x) (K a) (K' (a + 1))) (a : Nat) : Sim n (fun x y => y = x) (headA ts K a) (headA ts' K' (a + 1)) := by
  unfold headA
  exact sim_go (want_b H _ _) fun _ _ _ _ _ => sim_go (name_b H _) fun _ _ _ e1 hb => sim_go (note_b H hK hb) fun _ _ _ e2 _ => sim_go (want_b H _ _) fun _ _ _ _ hc => sim_go (note_b H hK hc) fun _ _ _ e3 hd => sim_inl hd (by rw [e1, e2, e3])
theorem find_b (H : BrS n ts ts') {l : List (List UInt8)} (hl : ∀ s ∈ l, s ≠ [41]) (a : Nat) : l.find? (seesA ts' (a + 1)) = l.find? (seesA ts a) := by
  induction l with
  | nil => rfl
  | cons s l ih =>
    rw [List.find?_cons, List.find?_cons, sees_b H (hl s (by simp)), ih (fun t ht => hl t (by simp [ht]))]
theorem findIdx_b (H : BrS n ts ts') {l : List (List UInt8)} (hl : ∀ s ∈ l, s ≠ [41]) (a : Nat) : l.findIdx? (seesA ts' (a + 1)) = l.findIdx? (seesA ts a) := by
  induction l with
  | nil => rfl
  | cons s l ih =>
    rw [List.findIdx?_cons, List.findIdx?_cons, sees_b H (hl s (by simp)), ih (fun t ht => hl t (by simp [ht]))]
theorem find_sees' {l : List (List UInt8)} {a : Nat} {s : List UInt8} (h : l.find? (seesA ts a) = some s) : seesA ts a s = true := List.find?_some h
theorem left_b (H : BrS n ts ts') {signs : List (List UInt8)} (hl : ∀ s ∈ signs, s ≠ [41]) {sub sub' : Nat -> Pr Ty} (hs : ∀ a, Sim n RE (sub a) (sub' (a + 1))) : ∀ f f' x x' a, f <= f' -> a <= n -> RE x x' -> Sim n RE (leftA ts signs sub f x a) (leftA ts' signs sub' f' x' (a + 1))
  | 0, _, _, _, _, _, _, _ => sim_bad
  | _ + 1, 0, _, _, _, h, _, _ => absurd h (by omega)
  | f + 1, f' + 1, x, x', a, hf, ha, hx => by
    unfold leftA
    rw [find_b H hl]
    cases e : signs.find? (seesA ts a) with
    | none => exact sim_inl ha hx
    | some s =>
      obtain ⟨h1, h2, h3, _, hM⟩ := sees_lt H (find_sees' e)
      simp only [h2, h3]
      exact sim_go (hs _) fun y y' b hy hb => left_b H hl hs f f' _ _ b (by omega) hb (re_mk hM (rl_cons hx (rl_cons hy rl_nil)))
theorem cmp_b (H : BrS n ts ts') {K K' sub sub' : Nat -> Pr Ty} (hK : ∀ a, Sim n (fun x y => y = x) (K a) (K' (a + 1))) (hs : ∀ a, Sim n RE (sub a) (sub' (a + 1))) (a : Nat) : Sim n RE (cmpA ts K sub a) (cmpA ts' K' sub' (a + 1)) := by
  unfold cmpA
  refine sim_go (hs a) fun x x' b hx hb => ?_
  rw [find_b H (by decide)]
  cases e : ([[60], [60, 61], [61, 61]] : List (List UInt8)).find? (seesA ts b) with
  | some s =>
    obtain ⟨h1, h2, h3, _, hM⟩ := sees_lt H (find_sees' e)
    simp only [h2, h3]
    exact sim_go (hs _) fun y y' c hy hc => sim_inl hc (re_mk hM (rl_cons hx (rl_cons hy rl_nil)))
  | none =>
    refine sim_ite (sees_b H (by decide)) (fun h => ?_) (sim_ite (sees_b H (by decide)) (fun h => ?_) (sim_inl hb hx))
    · obtain ⟨h1, h2, h3, _, hM⟩ := sees_lt H h
      simp only [h2, h3]
      exact sim_go (hK _) fun t t' c e hc => sim_inl hc (by rw [e]; exact re_mk hM (rl_cons hx rl_nil))
    · obtain ⟨h1, h2, h3, _, hM⟩ := sees_lt H h
      simp only [h2, h3]
      rw [findIdx_b H (by decide) (b + 1)]
      cases e2 : tagsA.findIdx? (seesA ts (b + 1)) with
      | none => exact sim_bad
      | some i =>
        have hi : b + 1 < n := by
          obtain ⟨h4, h5⟩ := List.findIdx?_eq_some_iff_getElem.1 e2
          exact (sees_lt H h5.1).1
        exact sim_inl hi (re_mk hM (rl_cons hx rl_nil))
theorem term_b (H : BrS n ts ts') {U U' : Nat -> Pr Ty} (hU : ∀ a, Sim n RE (U a) (U' (a + 1))) {f f' : Nat} (hf : f <= f') (a : Nat) : Sim n RE (termA ts U f a) (termA ts' U' f' (a + 1)) := by
  unfold termA
  exact sim_go (hU _) fun _ _ _ hx hb => left_b H (by decide) hU _ _ _ _ _ hf hb hx
theorem sum_b (H : BrS n ts ts') {U U' : Nat -> Pr Ty} (hU : ∀ a, Sim n RE (U a) (U' (a + 1))) {f f' : Nat} (hf : f <= f') (a : Nat) : Sim n RE (sumA ts U f a) (sumA ts' U' f' (a + 1)) := by
  unfold sumA
  exact sim_go (term_b H hU hf _) fun _ _ _ hx hb => left_b H (by decide) (term_b H hU hf) _ _ _ _ _ hf hb hx
theorem cat_b (H : BrS n ts ts') {U U' : Nat -> Pr Ty} (hU : ∀ a, Sim n RE (U a) (U' (a + 1))) {f f' : Nat} (hf : f <= f') (a : Nat) : Sim n RE (catA ts U f a) (catA ts' U' f' (a + 1)) := by
  unfold catA
  exact sim_go (sum_b H hU hf _) fun _ _ _ hx hb => left_b H (by decide) (sum_b H hU hf) _ _ _ _ _ hf hb hx
theorem and_b (H : BrS n ts ts') {K K' U U' : Nat -> Pr Ty} (hK : ∀ a, Sim n (fun x y => y = x) (K a) (K' (a + 1))) (hU : ∀ a, Sim n RE (U a) (U' (a + 1))) {f f' : Nat} (hf : f <= f') (a : Nat) : Sim n RE (andA ts K U f a) (andA ts' K' U' f' (a + 1)) := by
  unfold andA
  exact sim_go (cmp_b H hK (cat_b H hU hf) _) fun _ _ _ hx hb => left_b H (by decide) (cmp_b H hK (cat_b H hU hf)) _ _ _ _ _ hf hb hx
theorem or_b (H : BrS n ts ts') {K K' U U' : Nat -> Pr Ty} (hK : ∀ a, Sim n (fun x y => y = x) (K a) (K' (a + 1))) (hU : ∀ a, Sim n RE (U a) (U' (a + 1))) {f f' : Nat} (hf : f <= f') (a : Nat) : Sim n RE (orA ts K U f a) (orA ts' K' U' f' (a + 1)) := by
  unfold orA
  exact sim_go (and_b H hK hU hf _) fun _ _ _ hx hb => left_b H (by decide) (and_b H hK hU hf) _ _ _ _ _ hf hb hx
theorem expr_b (H : BrS n ts ts') {K K' E E' U U' : Nat -> Pr Ty} (hK : ∀ a, Sim n (fun x y => y = x) (K a) (K' (a + 1))) (hE : ∀ a, Sim n RE (E a) (E' (a + 1))) (hU : ∀ a, Sim n RE (U a) (U' (a + 1))) {f f' : Nat} (hf : f <= f') (a : Nat) : Sim n RE (exprA ts K E U f a) (exprA ts' K' E' U' f' (a + 1)) := by
  unfold exprA
  refine sim_ite (sees_b H (by decide)) (fun h => ?_) (sim_ite (sees_b H (by decide)) (fun h => ?_) (sim_ite (sees_b H (by decide)) (fun h => ?_) (or_b H hK hU hf a)))
  · obtain ⟨_, h2, h3, _, hM⟩ := sees_lt H h
    simp only [h2, h3]
    exact sim_go (name_b H _) fun _ _ _ e1 hb => sim_go (note_b H hK hb) fun _ _ _ e2 _ => sim_go (want_b H _ _) fun _ _ _ _ _ => sim_go (hE _) fun _ _ _ hv _ => sim_go (want_b H _ _) fun _ _ _ _ _ => sim_go (hE _) fun _ _ _ hr hc => sim_inl hc (by rw [e1, e2]; exact re_mk hM (rl_cons hv (rl_cons hr rl_nil)))
  · obtain ⟨_, h2, h3, _, hM⟩ := sees_lt H h
    simp only [h2, h3]
    exact sim_go (hE _) fun _ _ _ h1 _ => sim_go (want_b H _ _) fun _ _ _ _ _ => sim_go (hE _) fun _ _ _ h2 _ => sim_go (want_b H _ _) fun _ _ _ _ _ => sim_go (hE _) fun _ _ _ h3 hc => sim_inl hc (re_mk hM (rl_cons h1 (rl_cons h2 (rl_cons h3 rl_nil))))
  · obtain ⟨_, h2, h3, _, hM⟩ := sees_lt H h
    simp only [h2, h3]
    exact sim_go (head_b H hK _) fun _ _ _ e1 _ => sim_go (want_b H _ _) fun _ _ _ _ _ => sim_go (hE _) fun _ _ _ h1 hc => sim_inl hc (by rw [e1]; exact re_mk hM (rl_cons h1 rl_nil))
theorem rec_b (H : BrS n ts ts') {E E' : Nat -> Pr Ty} (hE : ∀ a, Sim n RE (E a) (E' (a + 1))) {f f' : Nat} (hf : f <= f') {a : Nat} (h : seesA ts a [123] = true) : Sim n RE (recA ts E f a) (recA ts' E' f' (a + 1)) := by
  obtain ⟨_, h2, h3, _, hM⟩ := sees_lt H h
  unfold recA
  rw [h2, h3]
  refine sim_ite (sees_b H (by decide)) (fun h => sim_inl (sees_lt H h).1 (re_mk hM rl_nil)) (sim_ite ?_ (fun _ => ?_) ?_)
  · rw [kind_b H (by decide) (by decide)]
    have hs : seesA ts' (a + 2 + 1) [58] = seesA ts (a + 2) [58] := sees_b H (by decide)
    by_cases h4 : a + 2 < n
    · rw [(H.1 (a + 2) h4).1]; rfl
    · obtain ⟨h5, h6⟩ := H.2.1 (a + 2) (by omega)
      have e0 : ((0 : Int) == 5) = false := rfl
      rw [h5, e0]
      rcases h6 with h6 | ⟨h6, h7⟩
      · rw [h6, e0]; rfl
      · rw [h6, h7]; rfl
  · refine sim_go (many_b H (field_b H hE) (by decide) f f' _ hf) fun xs ys _ e _ => sim_go (want_b H _ _) fun _ _ _ _ hc => sim_inl hc ?_
    obtain ⟨h4, h5⟩ := rp_list xs ys e
    rw [h4]
    exact re_mk hM h5
  · exact sim_go (hE _) fun _ _ _ h4 _ => sim_go (want_b H _ _) fun _ _ _ _ _ => sim_go (name_b H _) fun _ _ _ e1 _ => sim_go (want_b H _ _) fun _ _ _ _ _ => sim_go (hE _) fun _ _ _ h5 _ => sim_go (want_b H _ _) fun _ _ _ _ hc => sim_inl hc (by rw [e1]; exact re_mk hM (rl_cons h4 (rl_cons h5 rl_nil)))
theorem atom_b (H : BrS n ts ts') {K K' E E' : Nat -> Pr Ty} (hK : ∀ a, Sim n (fun x y => y = x) (K a) (K' (a + 1))) (hE : ∀ a, Sim n RE (E a) (E' (a + 1))) {f f' : Nat} (hf : f <= f') (a : Nat) : Sim n RE (atomA ts K E f a) (atomA ts' K' E' f' (a + 1)) := by
  unfold atomA
  refine sim_ite (kind_b H (by decide) (by decide)) (fun h => ?_) (sim_ite (kind_b H (by decide) (by decide)) (fun h => ?_) (sim_ite (sees_b H (by decide)) (fun h => ?_) (sim_ite (sees_b H (by decide)) (fun h => ?_) (sim_ite (sees_b H (by decide)) (fun h => ?_) (sim_ite (sees_b H (by decide)) (fun h => ?_) (sim_ite (sees_b H (by decide)) (fun h => ?_) (sim_ite (sees_b H (by decide)) (fun h => ?_) (sim_ite (sees_b H (by decide)) (fun h => rec_b H hE hf h) ?_))))))))
  · obtain ⟨h1, h2, h3, h4, hM⟩ := kind_lt H (by decide) h
    rw [h2, h3, h4]
    exact sim_inl h1 (re_mk hM rl_nil)
  · obtain ⟨h1, h2, h3, h4, hM⟩ := kind_lt H (by decide) h
    rw [h2, h3, h4]
    exact sim_inl h1 (re_mk hM rl_nil)
  · obtain ⟨h1, h2, h3, _, hM⟩ := sees_lt H h
    rw [h2, h3]
    exact sim_inl h1 (re_mk hM rl_nil)
  · obtain ⟨h1, h2, h3, _, hM⟩ := sees_lt H h
    rw [h2, h3]
    exact sim_inl h1 (re_mk hM rl_nil)
  · obtain ⟨h1, h2, h3, _, hM⟩ := sees_lt H h
    rw [h2, h3]
    exact sim_inl h1 (re_mk hM rl_nil)
  · obtain ⟨h1, h2, h3, _, hM⟩ := sees_lt H h
    simp only [h2, h3]
    exact sim_go (want_b H _ _) fun _ _ _ _ _ => sim_go (want_b H _ _) fun _ _ _ _ hc => sim_inl hc (re_mk hM rl_nil)
  · obtain ⟨h1, h2, h3, _, hM⟩ := sees_lt H h
    simp only [h2, h3]
    exact sim_go (want_b H _ _) fun _ _ _ _ _ => sim_go (hE _) fun _ _ _ hx _ => sim_go (want_b H _ _) fun _ _ _ _ hc => sim_inl hc (re_mk hM (rl_cons hx rl_nil))
  · exact sim_go (hE _) fun _ _ _ hx _ => sim_go (want_b H _ _) fun _ _ _ _ hc => sim_inl hc hx
  · by_cases h : ((tkA ts a).kind == 1) = true
    · obtain ⟨h1, h2, h3, h4, hM⟩ := kind_lt H (by decide) h
      simp only [h2, h3]
      refine sim_go (name_b H a) fun x y b e hb => sim_ite (sees_b H (by decide)) (fun _ => ?_) (sim_inl hb (by rw [e]; exact re_mk hM rl_nil))
      exact sim_go (many_b H hK (by decide) f f' _ hf) fun xs ys _ e2 _ => sim_go (want_b H _ _) fun _ _ _ _ hc => sim_inl hc (by rw [e, lr_eq xs ys e2]; exact re_mk hM rl_nil)
    · have : nameA ts a = badA ts 7 a := by unfold nameA; rw [if_neg h]
      rw [this]
      exact sim_bad
theorem post_b (H : BrS n ts ts') {E E' : Nat -> Pr Ty} (hE : ∀ a, Sim n RE (E a) (E' (a + 1))) : ∀ f f' x x' a, f <= f' -> a <= n -> RE x x' -> Sim n RE (postA ts E f x a) (postA ts' E' f' x' (a + 1))
  | 0, _, _, _, _, _, _, _ => sim_bad
  | _ + 1, 0, _, _, _, h, _, _ => absurd h (by omega)
  | f + 1, f' + 1, x, x', a, hf, ha, hx => by
    unfold postA
    refine sim_ite (sees_b H (by decide)) (fun h => ?_) (sim_ite (sees_b H (by decide)) (fun h => ?_) (sim_inl ha hx))
    · obtain ⟨_, h2, h3, _, hM⟩ := sees_lt H h
      simp only [h2, h3]
      exact sim_go (hE _) fun _ _ _ hy _ => sim_go (want_b H _ _) fun _ _ _ _ hc => post_b H hE f f' _ _ _ (by omega) hc (re_mk hM (rl_cons hx (rl_cons hy rl_nil)))
    · obtain ⟨_, h2, h3, _, hM⟩ := sees_lt H h
      simp only [h2, h3]
      exact sim_go (name_b H _) fun _ _ _ e hc => post_b H hE f f' _ _ _ (by omega) hc (by rw [e]; exact re_mk hM (rl_cons hx rl_nil))
theorem deep_b (H : BrS n ts ts') {f f' : Nat} (hf : f <= f') : ∀ m m' u d d' a, Sim n RE (deepA ts f m u d a) (deepA ts' f' m' u d' (a + 1))
  | 0, _, _, _, _, _ => sim_bad
  | _ + 1, 0, _, _, _, _ => sim_deep
  | m + 1, m' + 1, u, d, d', a => by
    unfold deepA
    by_cases h : 100 <= d
    · rw [if_pos h]; exact sim_bad
    by_cases h' : 100 <= d'
    · rw [if_pos h']; exact sim_deep
    rw [if_neg h, if_neg h']
    cases u with
    | false => exact expr_b H (kindA_b H hf _ _ _ _) (deep_b H hf m m' false _ _) (deep_b H hf m m' true _ _) hf a
    | true =>
      refine sim_ite (sees_b H (by decide)) (fun h => ?_) (sim_ite (sees_b H (by decide)) (fun h => ?_) ?_)
      · obtain ⟨_, h2, h3, _, hM⟩ := sees_lt H h
        simp only [h2, h3]
        exact sim_go (deep_b H hf m m' true _ _ _) fun _ _ _ hx hc => sim_inl hc (re_mk hM (rl_cons hx rl_nil))
      · obtain ⟨_, h2, h3, _, hM⟩ := sees_lt H h
        simp only [h2, h3]
        exact sim_go (deep_b H hf m m' true _ _ _) fun _ _ _ hx hc => sim_inl hc (re_mk hM (rl_cons hx rl_nil))
      · exact sim_go (atom_b H (kindA_b H hf _ _ _ _) (deep_b H hf m m' false _ _) hf a) fun _ _ _ hx hb => post_b H (deep_b H hf m m' false _ _) f f' _ _ _ hf hb hx
end
section
variable {ts : List Tok} {e : Nat}
theorem end_sees (h0 : (tkA ts e).kind = 0) (s : List UInt8) : seesA ts e s = false := by
  unfold seesA
  rw [h0]
  rfl
theorem end_find (h0 : (tkA ts e).kind = 0) (l : List (List UInt8)) : l.find? (seesA ts e) = none := by
  rw [List.find?_eq_none]
  intro s _
  rw [end_sees h0]
  decide
theorem end_left (h0 : (tkA ts e).kind = 0) (signs : List (List UInt8)) (sub : Nat -> Pr Ty) {f : Nat} (hf : 0 < f) (x : Ty) : leftA ts signs sub f x e = .inl (x, e) := by
  cases f with
  | zero => omega
  | succ f =>
    unfold leftA
    rw [end_find h0]
theorem end_post (h0 : (tkA ts e).kind = 0) (E : Nat -> Pr Ty) {f : Nat} (hf : 0 < f) (x : Ty) : postA ts E f x e = .inl (x, e) := by
  cases f with
  | zero => omega
  | succ f =>
    unfold postA
    rw [end_sees h0, end_sees h0]
    rfl
theorem end_or (h0 : (tkA ts e).kind = 0) {K U : Nat -> Pr Ty} {f a : Nat} (hf : 0 < f) {x : Ty} (h : U a = .inl (x, e)) : orA ts K U f a = .inl (x, e) := by
  have h1 : termA ts U f a = .inl (x, e) := by unfold termA; rw [h]; exact end_left h0 _ _ hf x
  have h2 : sumA ts U f a = .inl (x, e) := by unfold sumA; rw [h1]; exact end_left h0 _ _ hf x
  have h3 : catA ts U f a = .inl (x, e) := by unfold catA; rw [h2]; exact end_left h0 _ _ hf x
  have h4 : cmpA ts K (catA ts U f) a = .inl (x, e) := by
    unfold cmpA
    rw [h3]
    show (match ([[60], [60, 61], [61, 61]] : List (List UInt8)).find? (seesA ts e) with | some s => _ | none => _) = _
    rw [end_find h0]
    show (if seesA ts e [97, 115] = true then _ else if seesA ts e [105, 115] = true then _ else _) = _
    rw [end_sees h0, end_sees h0]
    rfl
  have h5 : andA ts K U f a = .inl (x, e) := by unfold andA; rw [h4]; exact end_left h0 _ _ hf x
  unfold orA
  rw [h5]
  exact end_left h0 _ _ hf x
end
theorem bad_or {ts : List Tok} {K U : Nat -> Pr Ty} {f a : Nat} {p : Int × Nat × Nat} (h : U a = .inr p) : orA ts K U f a = .inr p := by
  unfold orA andA cmpA catA sumA termA
  rw [h]
  rfl
theorem brs_of {us : List Tok} (hk : ∀ t ∈ us, t.kind ≠ 0 /\ t.line <= 70000) (e p : Nat) : BrS us.length (us ++ [⟨0, [], e, p⟩]) (⟨5, [40], 1, 1⟩ :: (us.map upT ++ [⟨5, [41], e + 2, 1⟩, ⟨0, [], e + 2, 2⟩])) := by
  refine ⟨fun a ha => ?_, fun a ha => ?_, by simp⟩
  · unfold tkA
    simp only [List.getD_eq_getElem?_getD, List.getElem?_cons_succ]
    rw [List.getElem?_append_left (by simpa using ha), List.getElem?_append_left ha, List.getElem?_map, List.getElem?_eq_getElem ha]
    exact ⟨rfl, hk _ (List.getElem_mem ha)⟩
  · unfold tkA
    simp only [List.getD_eq_getElem?_getD, List.getElem?_cons_succ]
    rw [List.getElem?_append_right ha, List.getElem?_append_right (by simpa using ha), List.length_map]
    obtain ⟨k, hk⟩ : ∃ k, a - us.length = k := ⟨_, rfl⟩
    rw [hk]
    match k with
    | 0 => exact ⟨rfl, .inr ⟨rfl, rfl⟩⟩
    | 1 => exact ⟨rfl, .inl rfl⟩
    | _ + 2 => exact ⟨rfl, .inl rfl⟩
theorem exprText_br {l : List UInt8} {D : Ty} (h : exprTextV l = .inl D) (hl : l.length <= 2000) :
    (∃ D', exprTextV (40 :: 10 :: (l ++ [10, 41])) = .inl D' /\ RE D D') ∨ ∃ p, exprTextV (40 :: 10 :: (l ++ [10, 41])) = .inr (6, p) := by
  unfold exprTextV at h
  cases e1 : lexV l with
  | inr e => rw [e1] at h; cases h
  | inl ts =>
    rw [e1] at h
    simp only at h
    obtain ⟨us, e, p, ht, hk, hlx⟩ := lexV_br e1 hl
    have H := brs_of hk e p
    rw [<- ht] at H
    obtain ⟨ts', hts'⟩ : ∃ ts' : List Tok, ts' = ⟨5, [40], 1, 1⟩ :: (us.map upT ++ [⟨5, [41], e + 2, 1⟩, ⟨0, [], e + 2, 2⟩]) := ⟨_, rfl⟩
    rw [<- hts'] at H hlx
    cases e2 : deepA ts ts.length 101 false 0 0 with
    | inr x => rw [e2] at h; cases h
    | inl q =>
      obtain ⟨x, m⟩ := q
      rw [e2] at h
      have hend : endA ts (.inl (x, m) : Pr Ty) = if ((tkA ts m).kind == 0) = true then .inl (x, m) else badA ts 7 m := rfl
      rw [hend] at h
      have hm0 : (tkA ts m).kind = 0 := by
        by_cases h' : ((tkA ts m).kind == 0) = true
        · simpa using h'
        · rw [if_neg h'] at h; cases h
      rw [hm0] at h
      injection h with h
      subst h
      have hs := deep_b H H.2.2 101 99 false 0 2 0 x m e2
      have t0 : tkA ts' 0 = ⟨5, [40], 1, 1⟩ := by rw [hts']; rfl
      have s0 : ∀ s, s ≠ [40] -> seesA ts' 0 s = false := fun s hs => by
        unfold seesA
        rw [t0]
        show (true && ([40] == s)) = false
        simpa using fun e => hs e.symm
      have s1 : seesA ts' 0 [40] = true := by unfold seesA; rw [t0]; rfl
      have hlen : 0 < ts'.length := by rw [hts']; simp
      have hat : ∀ K E : Nat -> Pr Ty, atomA ts' K E ts'.length 0 = (E 1).go fun x b => (wantA ts' b [41]).go fun _ b => .inl (x, b) := fun K E => by
        unfold atomA
        rw [s0 _ (by decide), s0 _ (by decide), s0 _ (by decide), s0 _ (by decide), s0 _ (by decide), s1, t0]
        rfl
      have htop : deepA ts' ts'.length 101 false 0 0 = orA ts' (kindA ts' ts'.length 101 1) (deepA ts' ts'.length 100 true 1) ts'.length 0 := by
        show (if 100 <= 0 then _ else exprA ts' (kindA ts' ts'.length 101 1) (deepA ts' ts'.length 100 false 1) (deepA ts' ts'.length 100 true 1) ts'.length 0) = _
        rw [if_neg (by decide)]
        unfold exprA
        rw [s0 _ (by decide), s0 _ (by decide), s0 _ (by decide)]
        rfl
      have hun : deepA ts' ts'.length 100 true 1 0 = (atomA ts' (kindA ts' ts'.length 101 2) (deepA ts' ts'.length 99 false 2) ts'.length 0).go fun x b => postA ts' (deepA ts' ts'.length 99 false 2) ts'.length x b := by
        show (if 100 <= 1 then _ else if seesA ts' 0 [45] = true then _ else if seesA ts' 0 [110, 111, 116] = true then _ else _) = _
        rw [if_neg (by decide), s0 _ (by decide), s0 _ (by decide)]
        rfl
      rw [hat] at hun
      unfold exprTextV
      rw [hlx]
      simp only
      rcases hs with ⟨y, hy, hR, hmn⟩ | ⟨p6, hp⟩
      · have hmn' : m = us.length := by
          by_cases h' : m < us.length
          · exact absurd hm0 (H.1 m h').2.1
          · omega
        have hw : seesA ts' (m + 1) [41] = true := by
          unfold seesA tkA
          rw [hmn', hts']
          simp only [List.getD_eq_getElem?_getD, List.getElem?_cons_succ]
          rw [List.getElem?_append_right (by simp), List.length_map, Nat.sub_self]
          rfl
        have h2 : (tkA ts' (m + 2)).kind = 0 := by
          unfold tkA
          rw [hmn', hts']
          simp only [List.getD_eq_getElem?_getD, List.getElem?_cons_succ]
          rw [List.getElem?_append_right (by simp), List.length_map, show us.length + 1 - us.length = 1 by omega]
          rfl
        rw [hy] at hun
        have hun2 : deepA ts' ts'.length 100 true 1 0 = .inl (y, m + 2) := by
          rw [hun]
          show ((wantA ts' (m + 1) [41]).go fun _ b => (.inl (y, b) : Pr Ty)).go (fun x b => postA ts' (deepA ts' ts'.length 99 false 2) ts'.length x b) = _
          unfold wantA
          rw [hw]
          exact end_post h2 _ hlen y
        refine .inl ⟨y, ?_, hR⟩
        rw [htop, end_or h2 hlen hun2]
        have : endA ts' (.inl (y, m + 2) : Pr Ty) = .inl (y, m + 2) := by
          show (if ((tkA ts' (m + 2)).kind == 0) = true then _ else _) = _
          rw [h2]
          rfl
        rw [this]
      · rw [hp] at hun
        have hun2 : deepA ts' ts'.length 100 true 1 0 = .inr (6, p6) := by rw [hun]; rfl
        refine .inr ⟨p6, ?_⟩
        rw [htop, bad_or hun2]
        rfl
end Go.Proofs.YtlhmofphpfdjlaaGreatDoor.Br
