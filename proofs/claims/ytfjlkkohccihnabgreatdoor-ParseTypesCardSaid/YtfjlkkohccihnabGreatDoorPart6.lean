/- Part of the proof of ParseTypes: the texts that follow, in build order. -/
import Derived.Test.YtfjlkkohccihnabGreatDoorPart5
import Derived.Deep.DrawnRows

/- The parser of types: prim. -/
namespace Go.Proofs.YtfjlkkohccihnabGreatDoor
open Go.RowKit

theorem enters_of {g : Nat} {fn : Func} (hf : Tryz.prog.funcs[g]? = some fn) (hn : (fn.name == "runtime.NumGoroutine") = false) (hb : fn.body.isNone = false) (args : Array Value) (w : World) : (callFunc g args).run Tryz.prog w = .ok (.enter g args) w := by
  have h1 : fn.name ≠ "runtime.NumGoroutine" := by simpa using hn
  have h2 : fn.body ≠ none := fun e => by rw [e] at hb; cases hb
  simp [callFunc, go_sem, hf, h1, h2]

theorem kind_enters (pb : Nat) : Enters 30 pb := fun w => enters_of Tryz.func30 (by kernel_rfl) (by kernel_rfl) _ w
theorem prim_enters (pb : Nat) : Enters 180 pb := fun w => enters_of Tryz.func180 (by kernel_rfl) (by kernel_rfl) _ w

section
variable {lo lo' pb b m f a : Nat} {w w' : World} {v : Value} {D : Ty} {ts : List Tok} {α : Type}
theorem TyE.keep (h : TyE lo w v D) (hs : w.heap.size ≤ w'.heap.size) (hk : ∀ b, lo ≤ b → b < w.heap.size → w'.heap[b]? = w.heap[b]?) : TyE lo w' v D := by
  obtain ⟨m, h⟩ := h
  exact ⟨m, tyF_keep h hs hk⟩
theorem TyE.lower (h : TyE lo w v D) (hl : lo' ≤ lo) : TyE lo' w v D := by
  obtain ⟨m, h⟩ := h
  exact ⟨m, tyF_lower h hl⟩
theorem TyE.stay (h : TyE lo w v D) (hs : Stay pb w w') (hp : pb < lo) : TyE lo w' v D := h.keep hs.size fun b hb hl => hs.keep b (by omega) hl
theorem TyE.set4 (h : TyE lo w v D) (hb : b < lo) (x0 x1 x2 x3 : Value) : TyE lo ((((w.setCell ⟨b, 0, none⟩ x0).setCell ⟨b, 1, none⟩ x1).setCell ⟨b, 2, none⟩ x2).setCell ⟨b, 3, none⟩ x3) v D :=
  h.keep (by rw [size_set4]; exact Nat.le_refl _) fun i hi _ => other_set4 (by omega) _ _ _ _
theorem TyE.set1 (h : TyE lo w v D) (hb : b < lo) (o : Nat) (x : Value) : TyE lo (w.setCell ⟨b, o, none⟩ x) v D :=
  h.keep (by rw [size_set]; exact Nat.le_refl _) fun i hi _ => Below.heap_setCell _ _ _ _ (by show i ≠ b; omega)
theorem TyE.alloc (h : TyE lo w v D) (o : Obj) : TyE lo (w.alloc o) v D := h.keep (by simp) fun i _ hl => Below.heap_alloc _ _ _ hl

theorem tyE_leaf (lo : Nat) (w : World) (k : Int) (nm : ByteArray) (hk : (Lit.int .i64 k).wf = true) (hn : nm.size ≤ reachBytes) : TyE lo w (.agg #[.int .i64 k, .string nm, .slice none 0 0, .slice none 0 0]) (mkT k nm.data.toList [] []) :=
  ⟨1, k, nm, none, 0, none, 0, [], [], rfl, rfl, hk, hn, (fun _ h => nomatch h), ⟨Nat.le_refl _, Nat.zero_le _⟩, ⟨Nat.le_refl _, Nat.zero_le _⟩, .inl rfl, .inl rfl⟩

theorem many_len {one : Nat → Pr α} {sep : List UInt8} : ∀ (f : Nat) {a b : Nat} {l : List α}, manyA ts one sep f a = .inl (l, b) → l.length ≤ f
  | 0, _, _, _, h => by cases h
  | f + 1, a, b, l, h => by
    rw [manyA] at h
    cases ho : one a with
    | inr e => rw [ho] at h; cases h
    | inl p =>
      obtain ⟨x, c⟩ := p
      rw [ho] at h
      replace h : (if seesA ts c sep then (manyA ts one sep f (c + 1)).go fun l a => .inl (x :: l, a) else .inl ([x], c)) = .inl (l, b) := h
      by_cases hs : seesA ts c sep = true
      · rw [if_pos hs] at h
        cases hm : manyA ts one sep f (c + 1) with
        | inr e => rw [hm] at h; cases h
        | inl p =>
          obtain ⟨l', d⟩ := p
          rw [hm] at h
          injection h with h
          injection h with h
          rw [← h]
          have := many_len f hm
          simp
          omega
      · rw [if_neg hs] at h
        injection h with h
        injection h with h
        rw [← h]
        simp

theorem many_all {one : Nat → Pr α} {sep : List UInt8} {Q : α → Prop} (hq : ∀ a x b, one a = .inl (x, b) → Q x) : ∀ (f : Nat) {a b : Nat} {l : List α}, manyA ts one sep f a = .inl (l, b) → ∀ x ∈ l, Q x
  | 0, _, _, _, h => by cases h
  | f + 1, a, b, l, h => by
    rw [manyA] at h
    cases ho : one a with
    | inr e => rw [ho] at h; cases h
    | inl p =>
      obtain ⟨x, c⟩ := p
      rw [ho] at h
      replace h : (if seesA ts c sep then (manyA ts one sep f (c + 1)).go fun l a => .inl (x :: l, a) else .inl ([x], c)) = .inl (l, b) := h
      by_cases hs : seesA ts c sep = true
      · rw [if_pos hs] at h
        cases hm : manyA ts one sep f (c + 1) with
        | inr e => rw [hm] at h; cases h
        | inl p =>
          obtain ⟨l', d⟩ := p
          rw [hm] at h
          injection h with h
          injection h with h
          rw [← h]
          intro y hy
          rcases List.mem_cons.1 hy with rfl | hy
          · exact hq a _ c ho
          · exact many_all hq f hm y hy
      · rw [if_neg hs] at h
        injection h with h
        injection h with h
        rw [← h]
        intro y hy
        rw [List.mem_singleton.1 hy]
        exact hq a _ c ho

theorem name_text {s : List UInt8} {b : Nat} (h : nameA ts a = .inl (s, b)) : s = (tkA ts a).text := by
  unfold nameA at h
  split at h
  · injection h with h; injection h with h; exact h.symm
  · cases h

theorem field_text (ok : ToksOk ts) {K : Nat → Pr α} {x : List UInt8 × α} {b : Nat} (h : fieldA ts K a = .inl (x, b)) : x.1.length ≤ 70000 := by
  unfold fieldA at h
  cases hn : nameA ts a with
  | inr e => rw [hn] at h; cases h
  | inl p =>
    obtain ⟨s, c⟩ := p
    rw [hn] at h
    replace h : (wantA ts c [58]).go (fun _ a => (K a).go fun t a => .inl ((s, t), a)) = .inl (x, b) := h
    cases hw : wantA ts c [58] with
    | inr e => rw [hw] at h; cases h
    | inl p =>
      obtain ⟨u, c2⟩ := p
      rw [hw] at h
      replace h : (K c2).go (fun t a => .inl ((s, t), a)) = .inl (x, b) := h
      cases hk : K c2 with
      | inr e => rw [hk] at h; cases h
      | inl p =>
        rw [hk] at h
        injection h with h
        injection h with h
        rw [← h]
        show s.length ≤ _
        rw [name_text hn]
        exact ok.txt a

theorem fields_facts (ok : ToksOk ts) {K : Nat → Pr α} {l : List (List UInt8 × α)} (h : fieldsA ts K f a = .inl (l, b)) : l.length ≤ f ∧ ∀ p ∈ l, p.1.length ≤ 70000 := by
  unfold fieldsA at h
  split at h
  · injection h with h
    injection h with h
    rw [← h]
    exact ⟨Nat.zero_le _, fun _ h => nomatch h⟩
  · cases hm : manyA ts (fieldA ts K) [44] f a with
    | inr e => rw [hm] at h; cases h
    | inl p =>
      obtain ⟨l', c⟩ := p
      rw [hm] at h
      replace h : (wantA ts c [125]).go (fun _ b => .inl (l', b)) = .inl (l, b) := h
      cases hw : wantA ts c [125] with
      | inr e => rw [hw] at h; cases h
      | inl p =>
        rw [hw] at h
        injection h with h
        injection h with h
        rw [← h]
        exact ⟨many_len f hm, many_all (Q := fun p => p.1.length ≤ 70000) (fun a x b h => field_text ok h) f hm⟩

/-- A full row of texts. -/
theorem rows_names {B : Nat} {o : Option Nat} {wx : World} {v : Value} {cs : List (List Value)} {xs : List (List UInt8)} (h : RowsC StrC B 9 1 o wx v cs xs) : ∃ (a : Option Addr) (cap : Nat), v = .slice a xs.length cap ∧ xs.length ≤ cap ∧ NamesF wx B a xs := by
  obtain ⟨a, cap, e, hcap, hr⟩ := h.form strC_k
  refine ⟨a, cap, e, hcap, ?_⟩
  rcases hr with hr | ⟨g, rfl, hg, hcl, hc⟩
  · exact .inl hr
  · refine .inr ⟨g, 0, rfl, hg, clean_lt hcl, fun i hi => ?_⟩
    obtain ⟨c, _, h2, h3⟩ := hc i hi
    have := h2 0 (by omega)
    rw [h3] at this
    simpa using this

theorem tyE_rec {l : List (List UInt8 × Ty)} {vf : Value} (h : FieldsE lo w vf l) (hl : l.length ≤ 8193) (hn : ∀ p ∈ l, p.1.length ≤ 70000) : ∃ a c a' c', vf = .tuple #[.slice a l.length c, .slice a' l.length c'] ∧ TyE lo w (.agg #[.int .i64 5, .string ⟨#[]⟩, .slice a l.length c, .slice a' l.length c']) (mkT 5 [] (l.map (·.1)) (l.map (·.2))) := by
  obtain ⟨vn, vv, cn, cv, rfl, h1, h2⟩ := h
  obtain ⟨a, c, rfl, hc, hN⟩ := rows_names h1
  obtain ⟨a', c', m, rfl, hc', hK⟩ := rows_kids h2
  refine ⟨a, c, a', c', by simp, m + 1, 5, ⟨#[]⟩, a, c, a', c', _, _, by simp, rfl, by decide, by decide, ?_, ⟨hc, ?_⟩, ⟨hc', ?_⟩, hN, hK⟩
  · intro s hs
    obtain ⟨p, hp, rfl⟩ := List.mem_map.1 hs
    have := hn p hp
    unfold reachBytes
    omega
  · simp only [List.length_map]; unfold reachBytes; omega
  · simp only [List.length_map]; unfold reachBytes; omega
end

/-- The words of the base types. -/
abbrev baseL : List (List UInt8) := [[97, 110, 121], [110, 117, 108, 108], [98, 111, 111, 108], [105, 110, 116], [115, 116, 114]]

/-- prim, none of the words. -/
def primB (ts : List Tok) (K : Nat → Pr Ty) (f a : Nat) : Pr Ty :=
  if seesA ts a [123] then (fieldsA ts K f (a + 1)).go fun l b => .inl (mkT 5 [] (l.map (·.1)) (l.map (·.2)), b)
  else if seesA ts a [40] then (K (a + 1)).go fun t a => (wantA ts a [41]).go fun _ a => .inl (t, a)
  else (nameA ts a).go fun s a => .inl (mkT 8 s [] [], a)

theorem sees_two {ts : List Tok} {a : Nat} {s s' : List UInt8} (h : seesA ts a s = true) (hn : s ≠ s') : seesA ts a s' = false := by
  unfold seesA at h ⊢
  simp only [Bool.and_eq_true, beq_iff_eq] at h
  rw [h.2]
  simp [hn]

theorem prim_word (ts : List Tok) (K : Nat → Pr Ty) (f a : Nat) (i : Nat) (hi : whichV (tkA ts a) baseL = i) : primA ts K f a = .inl (mkT i [] [] [], a + 1) ∧ i ≤ 4 ∧ ∃ s, seesA ts a s = true := by
  unfold whichV at hi
  split at hi
  · rename_i hk
    have hk' : ((tkA ts a).kind == 2 || (tkA ts a).kind == 5) = true := by rcases hk with h | h <;> simp [h]
    unfold idxV at hi
    split at hi
    · rename_i j hj
      obtain ⟨hjl, hjt, _⟩ := List.findIdx?_eq_some_iff_getElem.1 hj
      have hij : j = i := by omega
      subst hij
      have htx : (tkA ts a).text = baseL[j] := (beq_iff_eq.1 hjt).symm
      have hsee : seesA ts a baseL[j] = true := by unfold seesA; rw [hk', htx]; simp
      refine ⟨?_, by simp at hjl; omega, _, hsee⟩
      unfold primA
      match j, hjl with
      | 0, _ =>
        have hs : seesA ts a [97, 110, 121] = true := hsee
        rw [if_pos (show seesA ts a (baseV 0) = true from hs)]
        rfl
      | 1, _ =>
        have hs : seesA ts a [110, 117, 108, 108] = true := hsee
        rw [if_neg (by rw [sees_two hs (show ([110, 117, 108, 108] : List UInt8) ≠ baseV 0 by decide)]; simp), if_pos (show seesA ts a (baseV 1) = true from hs)]
        rfl
      | 2, _ =>
        have hs : seesA ts a [98, 111, 111, 108] = true := hsee
        rw [if_neg (by rw [sees_two hs (show ([98, 111, 111, 108] : List UInt8) ≠ baseV 0 by decide)]; simp), if_neg (by rw [sees_two hs (show ([98, 111, 111, 108] : List UInt8) ≠ baseV 1 by decide)]; simp), if_pos (show seesA ts a (baseV 2) = true from hs)]
        rfl
      | 3, _ =>
        have hs : seesA ts a [105, 110, 116] = true := hsee
        rw [if_neg (by rw [sees_two hs (show ([105, 110, 116] : List UInt8) ≠ baseV 0 by decide)]; simp), if_neg (by rw [sees_two hs (show ([105, 110, 116] : List UInt8) ≠ baseV 1 by decide)]; simp), if_neg (by rw [sees_two hs (show ([105, 110, 116] : List UInt8) ≠ baseV 2 by decide)]; simp), if_pos (show seesA ts a (baseV 3) = true from hs)]
        rfl
      | 4, _ =>
        have hs : seesA ts a [115, 116, 114] = true := hsee
        rw [if_neg (by rw [sees_two hs (show ([115, 116, 114] : List UInt8) ≠ baseV 0 by decide)]; simp), if_neg (by rw [sees_two hs (show ([115, 116, 114] : List UInt8) ≠ baseV 1 by decide)]; simp), if_neg (by rw [sees_two hs (show ([115, 116, 114] : List UInt8) ≠ baseV 2 by decide)]; simp), if_neg (by rw [sees_two hs (show ([115, 116, 114] : List UInt8) ≠ baseV 3 by decide)]; simp), if_pos (show seesA ts a (baseV 4) = true from hs)]
        rfl
    · omega
  · omega

/-- It goes on at or behind where it began. -/
def UpP {α : Type} (a : Nat) (r : Pr α) : Prop := ∀ x b, r = .inl (x, b) → a ≤ b

section
variable {α β : Type} {ts : List Tok} {a : Nat}
theorem up_go {r : Pr α} {k : α → Nat → Pr β} (h : UpP a r) (hk : ∀ x c, a ≤ c → UpP a (k x c)) : UpP a (r.go k) := by
  intro y b hy
  match r, h with
  | .inl (x, c), h => exact hk x c (h x c rfl) y b hy
  | .inr e, _ => cases hy
theorem up_bad (e : Int) (c : Nat) : UpP a (badA ts e c : Pr α) := fun _ _ h => by cases h
theorem up_now {c : Nat} (h : a ≤ c) (x : α) : UpP a (.inl (x, c) : Pr α) := fun _ _ e => by
  injection e with e
  injection e with _ e
  omega
theorem up_ite {p : Prop} [Decidable p] {r s : Pr α} (h1 : UpP a r) (h2 : UpP a s) : UpP a (if p then r else s) := by split <;> assumption
theorem up_want {c : Nat} (h : a ≤ c) (s : List UInt8) : UpP a (wantA ts c s) := up_ite (up_now (by omega) _) (up_bad _ _)
theorem up_name {c : Nat} (h : a ≤ c) : UpP a (nameA ts c) := up_ite (up_now (by omega) _) (up_bad _ _)
theorem up_at {K : Nat → Pr α} (hK : ∀ a x b, K a = .inl (x, b) → a ≤ b) {c : Nat} (h : a ≤ c) : UpP a (K c) := fun x b e => Nat.le_trans h (hK c x b e)
theorem up_many {one : Nat → Pr α} {sep : List UInt8} (h1 : ∀ a x b, one a = .inl (x, b) → a ≤ b) : ∀ (f : Nat) {c : Nat}, a ≤ c → UpP a (manyA ts one sep f c)
  | 0, c, _ => up_bad _ _
  | f + 1, c, h => up_go (up_at h1 h) fun x b hb => up_ite (up_go (up_many h1 f (by omega)) fun l b hb => up_now hb _) (up_now hb _)
theorem up_field {K : Nat → Pr α} (hK : ∀ a x b, K a = .inl (x, b) → a ≤ b) {c : Nat} (h : a ≤ c) : UpP a (fieldA ts K c) :=
  up_go (up_name h) fun _ _ h1 => up_go (up_want h1 _) fun _ _ h2 => up_go (up_at hK h2) fun _ _ h3 => up_now h3 _
theorem up_prim {K : Nat → Pr Ty} (hK : ∀ a x b, K a = .inl (x, b) → a ≤ b) (f : Nat) {c : Nat} (h : a ≤ c) : UpP a (primA ts K f c) := by
  unfold primA
  refine up_ite (up_now (by omega) _) (up_ite (up_now (by omega) _) (up_ite (up_now (by omega) _) (up_ite (up_now (by omega) _) (up_ite (up_now (by omega) _) (up_ite ?_ (up_ite (up_ite (up_now (by omega) _) ?_) ?_))))))
  · exact up_go (up_at hK (by omega)) fun _ _ h1 => up_go (up_want h1 _) fun _ _ h2 => up_now h2 _
  · exact up_go (up_many (fun a x b e => up_field hK (Nat.le_refl _) x b e) f (by omega)) fun _ _ h1 => up_go (up_want h1 _) fun _ _ h2 => up_now h2 _
  · exact up_go (up_name h) fun _ _ h1 => up_now h1 _
theorem prim_up {K : Nat → Pr Ty} (hK : ∀ a x b, K a = .inl (x, b) → a ≤ b) {f : Nat} {x : Ty} {b : Nat} (h : primA ts K f a = .inl (x, b)) : a ≤ b := up_prim hK f (Nat.le_refl _) x b h
theorem up_alt {K : Nat → Pr Ty} (hK : ∀ a x b, K a = .inl (x, b) → a ≤ b) (f : Nat) {c : Nat} (h : a ≤ c) : UpP a (altA ts K f c) := by
  unfold altA
  refine up_go (up_many (fun a x b e => up_prim hK f (Nat.le_refl _) x b e) f h) fun l b hb => ?_
  match l with
  | [] => exact up_now hb _
  | [t] => exact up_now hb _
  | _ :: _ :: _ => exact up_now hb _
theorem kind_up' (ts : List Tok) (f : Nat) : ∀ (n d c : Nat) (x : Ty) (b : Nat), kindA ts f n d c = .inl (x, b) → c ≤ b
  | 0, _, _, _, _, h => by cases h
  | n + 1, d, c, x, b, h => by
    rw [kindA] at h
    have hn := kind_up' ts f n (d + 1)
    refine up_ite (a := c) (up_bad (ts := ts) _ _) (up_go (up_alt hn f (Nat.le_refl _)) fun t b hb => up_ite (up_go (up_at hn (by omega)) fun _ _ h2 => up_now h2 _) (up_now hb _)) x b h
theorem kind_up {f n d : Nat} {x : Ty} {b : Nat} (h : kindA ts f n d a = .inl (x, b)) : a ≤ b := kind_up' ts f n d a x b h

theorem many_some {one : Nat → Pr α} {sep : List UInt8} {f c b : Nat} {l : List α} (h : manyA ts one sep f c = .inl (l, b)) : l ≠ [] := by
  intro e
  subst e
  cases f with
  | zero => cases h
  | succ f =>
    rw [manyA] at h
    cases ho : one c with
    | inr e => rw [ho] at h; cases h
    | inl p =>
      obtain ⟨x, c2⟩ := p
      rw [ho] at h
      replace h : (if seesA ts c2 sep then (manyA ts one sep f (c2 + 1)).go fun l a => .inl (x :: l, a) else .inl ([x], c2)) = .inl ([], b) := h
      split at h
      · cases hm : manyA ts one sep f (c2 + 1) with
        | inr e => rw [hm] at h; cases h
        | inl p => rw [hm] at h; injection h with h; injection h with h; cases h
      · injection h with h; injection h with h; cases h
end

theorem which_none {ts : List Tok} {a : Nat} {L : List (List UInt8)} (h : whichV (tkA ts a) L < 0) {s : List UInt8} (hs : s ∈ L) : seesA ts a s = false := by
  have h1 := which_any ts a L
  rw [show decide (0 ≤ whichV (tkA ts a) L) = false by simp; omega] at h1
  have := List.any_eq_false.1 h1.symm s hs
  simpa using this

theorem prim_other (ts : List Tok) (K : Nat → Pr Ty) (f a : Nat) (h : whichV (tkA ts a) baseL < 0) : primA ts K f a = primB ts K f a := by
  unfold primA primB
  rw [if_neg (by rw [which_none h (s := baseV 0) (by decide)]; simp), if_neg (by rw [which_none h (s := baseV 1) (by decide)]; simp), if_neg (by rw [which_none h (s := baseV 2) (by decide)]; simp), if_neg (by rw [which_none h (s := baseV 3) (by decide)]; simp), if_neg (by rw [which_none h (s := baseV 4) (by decide)]; simp)]
  by_cases h1 : seesA ts a [123] = true
  · rw [if_neg (by rw [sees_two h1 (show ([123] : List UInt8) ≠ [40] by decide)]; simp), if_pos h1, if_pos h1]
    unfold fieldsA
    by_cases h2 : seesA ts (a + 1) [125] = true
    · rw [if_pos h2, if_pos h2]
      rfl
    · rw [if_neg h2, if_neg h2]
      cases manyA ts (fieldA ts K) [44] f (a + 1) with
      | inr e => rfl
      | inl p =>
        obtain ⟨l, b⟩ := p
        show Pr.go (wantA ts b [125]) _ = Pr.go (Pr.go (wantA ts b [125]) _) _
        cases wantA ts b [125] with
        | inr e => rfl
        | inl q => rfl
  · rw [if_neg h1, if_neg h1]
end Go.Proofs.YtfjlkkohccihnabGreatDoor

/- The parser of types: prim by its contract. -/
namespace Go.Proofs.YtfjlkkohccihnabGreatDoor
open Go.RowKit

abbrev zTyO : Obj := .cells #[.int .i64 0, .string ⟨#[]⟩, .slice none 0 0, .slice none 0 0] 36

set_option maxRecDepth 100000 in
set_option maxHeartbeats 4000000 in
theorem prim_c (pb tb cap d : Nat) (ts : List Tok) (K : Nat → Pr Ty) (hg : Reads pb tb cap d ts TyE 30 K)
    (f a : Nat) (hf : ts.length ≤ a + 1 + (f + 1)) (hf2 : f + 1 ≤ 8193) (w : World) (h : Ps w pb tb cap ts a d) (ok : ToksOk ts) :
    Calls Tryz.prog 180 #[.pointer (some ⟨pb, 0, none⟩)] w (PPost pb tb cap ts d w TyE (primA ts K (f + 1) a)) := by
  have H := hideP h
  have OK := hideP ok
  have HG := hideP hg
  have HF := hideP hf
  clear hf
  have HW := hideP (which_new pb tb cap a (w.heap.size + 1) 5 ts baseL (w.alloc zTyO) 9 (h.alloc _).rd (by simp) (by simp))
  clear h ok hg
  obtain ⟨kv, hkv⟩ : ∃ kv, kv = whichV (tkA ts a) baseL := ⟨_, rfl⟩
  rw [← hkv] at HW
  by_cases h0 : 0 ≤ kv
  · obtain ⟨i, rfl⟩ : ∃ i : Nat, kv = i := ⟨kv.toNat, by omega⟩
    obtain ⟨e1, e2, s, e3⟩ := prim_word ts K (f + 1) a i hkv.symm
    rw [e1]
    have HN := hideP (sees_next OK.out.ends H.out.lt e3)
    clear hkv e1 e3
    go_enter Tryz.func180, Tryz.ntmps180
    go_wp2_with fail
    refine HW.out.mono ?_
    rintro e w1 ⟨rfl, hb1⟩
    have P1 := hideP ((H.out.alloc _).below hb1)
    have HB1 := hideP (below_next (bl_alloc _ _) hb1)
    have HR := hideP ((hb1.block w.heap.size (by simp)).trans (heap_alloc_last w _))
    clear hb1
    go_wp2_with fail
    refine (pass_c pb tb cap a d ts _ P1.out HN.out OK.out.len).mono ?_
    rintro e w2 ⟨rfl, hst, hps⟩
    have hr := (hst.keep _ H.out.ltp (lt_of_block HR.out)).trans HR.out
    obtain ⟨⟨r0, r1, r2, r3⟩, ⟨f0, f1, f2, f3⟩, hr1⟩ := res_facts hr
    have HR2 := hideP hr
    have HP := hideP hps
    have HST := hideP ((Stay.of H.out.ltp HB1.out).trans hst)
    clear hst hps hr
    go_wp2_with fail
    refine bodyPost_ret (results_cell_row rfl _ _ w.heap.size 36 _ (0, 0) _ rfl (set4 HR2.out _ _ _ _) Tryz.underlying36 rfl (by kernel_rfl)) rfl ⟨stay_set4 HST.out H.out.ltp (Nat.le_refl _) _ _ _ _, ps_set4 HP.out H.out.ltp _ _ _ _, _, rfl, ?_⟩
    exact tyE_leaf _ _ i ⟨#[]⟩ (by rcases (by omega : i = 0 ∨ i = 1 ∨ i = 2 ∨ i = 3 ∨ i = 4) with rfl | rfl | rfl | rfl | rfl <;> decide) (by decide)
  · rw [prim_other ts K (f + 1) a (by omega)]
    have hneg : kv < 0 := by omega
    clear h0 hkv
    unfold primB
    cases hs : seesA ts a [123] with
    | true =>
      rw [if_pos rfl]
      have HN := hideP (sees_next OK.out.ends H.out.lt hs)
      have HSe := hideP hs
      clear hs
      cases hfi : fieldsA ts K (f + 1) (a + 1) with
      | inr x =>
        obtain ⟨er, li, co⟩ := x
        have HFi := hideP hfi
        clear hfi
        go_enter Tryz.func180, Tryz.ntmps180
        go_wp2_with fail
        refine HW.out.mono ?_
        rintro e w1 ⟨rfl, hb1⟩
        have P1 := hideP ((H.out.alloc _).below hb1)
        have HB1 := hideP (below_next (bl_alloc _ _) hb1)
        have HR := hideP ((hb1.block w.heap.size (by simp)).trans (heap_alloc_last w _))
        clear hb1
        go_wp2_with fail
        refine (take_c pb tb cap a d ts [123] w1 P1.out OK.out).mono ?_
        rw [HSe.out, if_pos rfl]
        rintro e w2 ⟨rfl, hst, hps⟩
        have HR2 := hideP ((hst.keep _ H.out.ltp (lt_of_block HR.out)).trans HR.out)
        have HP := hideP hps
        have HST := hideP ((Stay.of H.out.ltp HB1.out).trans hst)
        clear hst hps
        go_wp2_with fail
        refine (fieldsT_c pb tb cap d ts 30 K HG.out f (a + 1) (by have := HF.out; omega) w2 HP.out OK.out).mono ?_
        rw [HFi.out]
        rintro e w3 ⟨hst, rfl⟩
        have HST3 := hideP (HST.out.trans hst)
        clear hst
        go_wp2_with fail
        exact ⟨rfl, HST3.out, rfl⟩
      | inl x =>
        obtain ⟨l, b⟩ := x
        have HFi := hideP hfi
        obtain ⟨hl1, hl2⟩ := fields_facts OK.out hfi
        have HL2 := hideP hl2
        clear hfi hl2
        go_enter Tryz.func180, Tryz.ntmps180
        go_wp2_with fail
        refine HW.out.mono ?_
        rintro e w1 ⟨rfl, hb1⟩
        have P1 := hideP ((H.out.alloc _).below hb1)
        have HB1 := hideP (below_next (bl_alloc _ _) hb1)
        have HR := hideP ((hb1.block w.heap.size (by simp)).trans (heap_alloc_last w _))
        clear hb1
        go_wp2_with fail
        refine (take_c pb tb cap a d ts [123] w1 P1.out OK.out).mono ?_
        rw [HSe.out, if_pos rfl]
        rintro e w2 ⟨rfl, hst, hps⟩
        have HR2 := hideP ((hst.keep _ H.out.ltp (lt_of_block HR.out)).trans HR.out)
        have HP := hideP hps
        have HST := hideP ((Stay.of H.out.ltp HB1.out).trans hst)
        clear hst hps
        go_wp2_with fail
        refine (fieldsT_c pb tb cap d ts 30 K HG.out f (a + 1) (by have := HF.out; omega) w2 HP.out OK.out).mono ?_
        rw [HFi.out]
        rintro e w3 ⟨hst, hps, v, rfl, hv⟩
        obtain ⟨fa, fc, fa', fc', rfl, ht⟩ := tyE_rec hv (by omega) HL2.out
        have hr := (hst.keep _ H.out.ltp (lt_of_block HR2.out)).trans HR2.out
        obtain ⟨⟨r0, r1, r2, r3⟩, ⟨f0, f1, f2, f3⟩, hr1⟩ := res_facts hr
        have HR3 := hideP hr
        have HP3 := hideP hps
        have HST3 := hideP (HST.out.trans hst)
        have HT3 := hideP ht
        have HLt := hideP (lt_of_block HR2.out)
        clear hst hps hr ht hv
        go_wp2_with fail
        refine bodyPost_ret (results_cell_row rfl _ _ w.heap.size 36 _ (0, 0) _ rfl (set4 HR3.out _ _ _ _) Tryz.underlying36 rfl (by kernel_rfl)) rfl ⟨stay_set4 HST3.out H.out.ltp (Nat.le_refl _) _ _ _ _, ps_set4 HP3.out H.out.ltp _ _ _ _, _, rfl, ?_⟩
        exact (HT3.out.set4 HLt.out _ _ _ _).lower (Nat.le_of_lt HLt.out)
    | false =>
      rw [if_neg (by simp)]
      have HSe := hideP hs
      clear hs
      cases hs2 : seesA ts a [40] with
      | true =>
        rw [if_pos rfl]
        have HN := hideP (sees_next OK.out.ends H.out.lt hs2)
        have HSe2 := hideP hs2
        clear hs2
        cases hk : K (a + 1) with
        | inr x =>
          obtain ⟨er, li, co⟩ := x
          have HK := hideP hk
          clear hk
          go_enter Tryz.func180, Tryz.ntmps180
          go_wp2_with fail
          refine HW.out.mono ?_
          rintro e w1 ⟨rfl, hb1⟩
          have P1 := hideP ((H.out.alloc _).below hb1)
          have HB1 := hideP (below_next (bl_alloc _ _) hb1)
          have HR := hideP ((hb1.block w.heap.size (by simp)).trans (heap_alloc_last w _))
          clear hb1
          go_wp2_with fail
          refine (take_c pb tb cap a d ts [123] w1 P1.out OK.out).mono ?_
          rw [HSe.out, if_neg (by simp)]
          rintro e w2 ⟨rfl, hst, hps⟩
          have HR2 := hideP ((hst.keep _ H.out.ltp (lt_of_block HR.out)).trans HR.out)
          have HP := hideP hps
          have HST := hideP ((Stay.of H.out.ltp HB1.out).trans hst)
          clear hst hps
          go_wp2_with fail
          refine (take_c pb tb cap a d ts [40] w2 HP.out OK.out).mono ?_
          rw [HSe2.out, if_pos rfl]
          rintro e w3 ⟨rfl, hst, hps⟩
          have HR3 := hideP ((hst.keep _ H.out.ltp (lt_of_block HR2.out)).trans HR2.out)
          have HP3 := hideP hps
          have HST3 := hideP (HST.out.trans hst)
          clear hst hps
          go_wp2_with fail
          refine (HG.out.calls (a + 1) w3 HP3.out).mono ?_
          rw [HK.out]
          rintro e w4 ⟨hst, rfl⟩
          have HST4 := hideP (HST3.out.trans hst)
          clear hst
          go_wp2_with fail
          exact ⟨rfl, HST4.out, rfl⟩
        | inl x =>
          obtain ⟨D, b⟩ := x
          have HK := hideP hk
          clear hk
          show Calls _ _ _ _ (PPost pb tb cap ts d w TyE ((wantA ts b [41]).go fun _ a => .inl (D, a)))
          cases hw : wantA ts b [41] with
          | inr x =>
            obtain ⟨er, li, co⟩ := x
            have HWa := hideP hw
            clear hw
            go_enter Tryz.func180, Tryz.ntmps180
            go_wp2_with fail
            refine HW.out.mono ?_
            rintro e w1 ⟨rfl, hb1⟩
            have P1 := hideP ((H.out.alloc _).below hb1)
            have HB1 := hideP (below_next (bl_alloc _ _) hb1)
            have HR := hideP ((hb1.block w.heap.size (by simp)).trans (heap_alloc_last w _))
            clear hb1
            go_wp2_with fail
            refine (take_c pb tb cap a d ts [123] w1 P1.out OK.out).mono ?_
            rw [HSe.out, if_neg (by simp)]
            rintro e w2 ⟨rfl, hst, hps⟩
            have HR2 := hideP ((hst.keep _ H.out.ltp (lt_of_block HR.out)).trans HR.out)
            have HP := hideP hps
            have HST := hideP ((Stay.of H.out.ltp HB1.out).trans hst)
            clear hst hps
            go_wp2_with fail
            refine (take_c pb tb cap a d ts [40] w2 HP.out OK.out).mono ?_
            rw [HSe2.out, if_pos rfl]
            rintro e w3 ⟨rfl, hst, hps⟩
            have HR3 := hideP ((hst.keep _ H.out.ltp (lt_of_block HR2.out)).trans HR2.out)
            have HP3 := hideP hps
            have HST3 := hideP (HST.out.trans hst)
            clear hst hps
            go_wp2_with fail
            refine (HG.out.calls (a + 1) w3 HP3.out).mono ?_
            rw [HK.out]
            rintro e w4 ⟨hst, hps, v, rfl, hv⟩
            obtain ⟨k1, nm1, na1, nl1, nc1, ka1, kl1, kc1, rfl⟩ := hv.cells
            have HST4 := hideP (HST3.out.trans hst)
            have HP4 := hideP hps
            clear hst hps hv
            go_wp2_with fail
            refine (must_c pb tb cap b d ts [41] _ (HP4.out.alloc _) OK.out).mono ?_
            rw [HWa.out]
            rintro e w5 ⟨hst, rfl⟩
            have HST5 := hideP ((HST4.out.alloc H.out.ltp _).trans hst)
            clear hst
            go_wp2_with fail
            exact ⟨rfl, HST5.out, rfl⟩
          | inl x =>
            obtain ⟨u, b'⟩ := x
            have HWa := hideP hw
            clear hw
            go_enter Tryz.func180, Tryz.ntmps180
            go_wp2_with fail
            refine HW.out.mono ?_
            rintro e w1 ⟨rfl, hb1⟩
            have P1 := hideP ((H.out.alloc _).below hb1)
            have HB1 := hideP (below_next (bl_alloc _ _) hb1)
            have HR := hideP ((hb1.block w.heap.size (by simp)).trans (heap_alloc_last w _))
            clear hb1
            go_wp2_with fail
            refine (take_c pb tb cap a d ts [123] w1 P1.out OK.out).mono ?_
            rw [HSe.out, if_neg (by simp)]
            rintro e w2 ⟨rfl, hst, hps⟩
            have HR2 := hideP ((hst.keep _ H.out.ltp (lt_of_block HR.out)).trans HR.out)
            have HP := hideP hps
            have HST := hideP ((Stay.of H.out.ltp HB1.out).trans hst)
            clear hst hps
            go_wp2_with fail
            refine (take_c pb tb cap a d ts [40] w2 HP.out OK.out).mono ?_
            rw [HSe2.out, if_pos rfl]
            rintro e w3 ⟨rfl, hst, hps⟩
            have HR3 := hideP ((hst.keep _ H.out.ltp (lt_of_block HR2.out)).trans HR2.out)
            have HP3 := hideP hps
            have HST3 := hideP (HST.out.trans hst)
            clear hst hps
            go_wp2_with fail
            refine (HG.out.calls (a + 1) w3 HP3.out).mono ?_
            rw [HK.out]
            rintro e w4 ⟨hst, hps, v, rfl, hv⟩
            obtain ⟨k1, nm1, na1, nl1, nc1, ka1, kl1, kc1, rfl⟩ := hv.cells
            have HST4 := hideP (HST3.out.trans hst)
            have HP4 := hideP hps
            have HR4 := hideP ((hst.keep _ H.out.ltp (lt_of_block HR3.out)).trans HR3.out)
            have HT4 := hideP hv
            have HLt := hideP (Nat.lt_of_lt_of_le (lt_of_block HR3.out) hst.size)
            have HLt3 := hideP (lt_of_block HR3.out)
            clear hst hps hv
            go_wp2_with fail
            refine (must_c pb tb cap b d ts [41] _ (HP4.out.alloc _) OK.out).mono ?_
            rw [HWa.out]
            rintro e w5 ⟨hst, hps, v, rfl, _⟩
            have hr := (hst.keep _ H.out.ltp (by have := HLt.out; simp; omega)).trans ((Below.heap_alloc _ _ _ HLt.out).trans HR4.out)
            obtain ⟨⟨r0, r1, r2, r3⟩, ⟨f0, f1, f2, f3⟩, hr1⟩ := res_facts hr
            obtain ⟨⟨b0, b1, b2, b3⟩, _, hr2⟩ := res_facts ((hst.keep w4.heap.size HP4.out.ltp (by simp)).trans (heap_alloc_last w4 _))
            have HR5 := hideP hr
            have HP5 := hideP hps
            have HST5 := hideP ((HST4.out.alloc H.out.ltp _).trans hst)
            have HT5 := hideP ((HT4.out.alloc _).stay hst HP3.out.ltp)
            have hne : ¬ w4.heap.size = w.heap.size := by have := HLt.out; omega
            clear hst hps hr
            go_wp2_with fail
            refine bodyPost_ret (results_cell_row rfl _ _ w.heap.size 36 _ (0, 0) _ rfl (set4 HR5.out _ _ _ _) Tryz.underlying36 rfl (by kernel_rfl)) rfl ⟨stay_set4 HST5.out H.out.ltp (Nat.le_refl _) _ _ _ _, ps_set4 HP5.out H.out.ltp _ _ _ _, _, rfl, ?_⟩
            exact (HT5.out.set4 HLt3.out _ _ _ _).lower (Nat.le_of_lt HLt3.out)
      | false =>
        rw [if_neg (by simp)]
        have HSe2 := hideP hs2
        clear hs2
        cases hk : nameA ts a with
        | inr x =>
          obtain ⟨er, li, co⟩ := x
          have HK := hideP hk
          clear hk
          go_enter Tryz.func180, Tryz.ntmps180
          go_wp2_with fail
          refine HW.out.mono ?_
          rintro e w1 ⟨rfl, hb1⟩
          have P1 := hideP ((H.out.alloc _).below hb1)
          have HB1 := hideP (below_next (bl_alloc _ _) hb1)
          have HR := hideP ((hb1.block w.heap.size (by simp)).trans (heap_alloc_last w _))
          clear hb1
          go_wp2_with fail
          refine (take_c pb tb cap a d ts [123] w1 P1.out OK.out).mono ?_
          rw [HSe.out, if_neg (by simp)]
          rintro e w2 ⟨rfl, hst, hps⟩
          have HR2 := hideP ((hst.keep _ H.out.ltp (lt_of_block HR.out)).trans HR.out)
          have HP := hideP hps
          have HST := hideP ((Stay.of H.out.ltp HB1.out).trans hst)
          clear hst hps
          go_wp2_with fail
          refine (take_c pb tb cap a d ts [40] w2 HP.out OK.out).mono ?_
          rw [HSe2.out, if_neg (by simp)]
          rintro e w3 ⟨rfl, hst, hps⟩
          have HR3 := hideP ((hst.keep _ H.out.ltp (lt_of_block HR2.out)).trans HR2.out)
          have HP3 := hideP hps
          have HST3 := hideP (HST.out.trans hst)
          clear hst hps
          go_wp2_with fail
          refine (pname_c pb tb cap a d ts w3 HP3.out OK.out).mono ?_
          rw [HK.out]
          rintro e w4 ⟨hst, rfl⟩
          have HST4 := hideP (HST3.out.trans hst)
          clear hst
          go_wp2_with fail
          exact ⟨rfl, HST4.out, rfl⟩
        | inl x =>
          obtain ⟨s, b⟩ := x
          have HK := hideP hk
          have HTx := hideP (show s.length ≤ 70000 from name_text hk ▸ OK.out.txt a)
          clear hk
          go_enter Tryz.func180, Tryz.ntmps180
          go_wp2_with fail
          refine HW.out.mono ?_
          rintro e w1 ⟨rfl, hb1⟩
          have P1 := hideP ((H.out.alloc _).below hb1)
          have HB1 := hideP (below_next (bl_alloc _ _) hb1)
          have HR := hideP ((hb1.block w.heap.size (by simp)).trans (heap_alloc_last w _))
          clear hb1
          go_wp2_with fail
          refine (take_c pb tb cap a d ts [123] w1 P1.out OK.out).mono ?_
          rw [HSe.out, if_neg (by simp)]
          rintro e w2 ⟨rfl, hst, hps⟩
          have HR2 := hideP ((hst.keep _ H.out.ltp (lt_of_block HR.out)).trans HR.out)
          have HP := hideP hps
          have HST := hideP ((Stay.of H.out.ltp HB1.out).trans hst)
          clear hst hps
          go_wp2_with fail
          refine (take_c pb tb cap a d ts [40] w2 HP.out OK.out).mono ?_
          rw [HSe2.out, if_neg (by simp)]
          rintro e w3 ⟨rfl, hst, hps⟩
          have HR3 := hideP ((hst.keep _ H.out.ltp (lt_of_block HR2.out)).trans HR2.out)
          have HP3 := hideP hps
          have HST3 := hideP (HST.out.trans hst)
          clear hst hps
          go_wp2_with fail
          refine (pname_c pb tb cap a d ts w3 HP3.out OK.out).mono ?_
          rw [HK.out]
          rintro e w4 ⟨hst, hps, v, rfl, rfl⟩
          have hr := (hst.keep _ H.out.ltp (lt_of_block HR3.out)).trans HR3.out
          obtain ⟨⟨r0, r1, r2, r3⟩, ⟨f0, f1, f2, f3⟩, hr1⟩ := res_facts hr
          have HR4 := hideP hr
          have HP4 := hideP hps
          have HST4 := hideP (HST3.out.trans hst)
          clear hst hps hr
          go_wp2_with fail
          refine bodyPost_ret (results_cell_row rfl _ _ w.heap.size 36 _ (0, 0) _ rfl (set4 HR4.out _ _ _ _) Tryz.underlying36 rfl (by kernel_rfl)) rfl ⟨stay_set4 HST4.out H.out.ltp (Nat.le_refl _) _ _ _ _, ps_set4 HP4.out H.out.ltp _ _ _ _, _, rfl, ?_⟩
          exact tyE_leaf _ _ 8 ⟨s.toArray⟩ (by decide) (by have := HTx.out; unfold reachBytes; show s.toArray.size ≤ _; simp; omega)
end Go.Proofs.YtfjlkkohccihnabGreatDoor

/- The parser of types: alt, arrow, within, fullType. -/
namespace Go.Proofs.YtfjlkkohccihnabGreatDoor
open Go.RowKit
attribute [local go_sem ↓] Go.wp_at_zero Go.wp_at_succ

section
variable {ts : List Tok} {K : Nat → Pr Ty} {f a b : Nat} {l : List Ty} {D : Ty}
theorem alt_bad {e : Int × Nat × Nat} (h : manyA ts (primA ts K f) [124] f a = .inr e) : altA ts K f a = .inr e := by unfold altA; rw [h]; rfl
theorem alt_one (h : manyA ts (primA ts K f) [124] f a = .inl ([D], b)) : altA ts K f a = .inl (D, b) := by unfold altA; rw [h]; rfl
theorem alt_more (h : manyA ts (primA ts K f) [124] f a = .inl (l, b)) (hl : l.length ≠ 1) : altA ts K f a = .inl (mkT 7 [] [] l, b) := by
  unfold altA
  rw [h]
  match l, hl with
  | [], _ => rfl
  | [_], hl => exact absurd rfl hl
  | _ :: _ :: _, _ => rfl
end

set_option maxRecDepth 100000 in
set_option maxHeartbeats 4000000 in
theorem alt_c (pb tb cap d : Nat) (ts : List Tok) (K : Nat → Pr Ty) (hg : Reads pb tb cap d ts TyE 30 K)
    (f a : Nat) (hf : f + 1 = ts.length) (w : World) (h : Ps w pb tb cap ts a d) (ok : ToksOk ts) :
    Calls Tryz.prog 121 #[.pointer (some ⟨pb, 0, none⟩)] w (PPost pb tb cap ts d w TyE (altA ts K (f + 1) a)) := by
  have H := hideP h
  have OK := hideP ok
  have HRd : Hid (Reads pb tb cap d ts TyE 180 (primA ts K (f + 1))) := ⟨fun a w h => prim_c pb tb cap d ts K hg f a (by omega) (by have := ok.len; omega) w h ok, prim_enters pb, fun a x b hx => prim_up hg.up hx⟩
  have HL := hideP (listT_c pb tb cap d ts [124] _ _ HRd.out f a (by omega) (w.alloc zTyO) (h.alloc _) ok)
  clear h ok hg
  cases hm : manyA ts (primA ts K (f + 1)) [124] (f + 1) a with
  | inr x =>
    obtain ⟨er, li, co⟩ := x
    rw [alt_bad hm]
    rw [hm] at HL
    clear hm
    go_enter Tryz.func121, Tryz.ntmps121
    go_wp2_with fail
    refine HL.out.mono ?_
    rintro e w1 ⟨hst, rfl⟩
    have HST := hideP ((Stay.of H.out.ltp (bl_alloc _ _)).trans hst)
    clear hst
    go_wp2_with fail
    exact ⟨rfl, HST.out, rfl⟩
  | inl x =>
    obtain ⟨l, b⟩ := x
    have HLen := hideP (many_len _ hm)
    have HNe := hideP (many_some hm)
    rw [hm] at HL
    by_cases h1 : l.length = 1
    · obtain ⟨D, rfl⟩ : ∃ D, l = [D] := List.length_eq_one_iff.1 h1
      rw [alt_one hm]
      clear h1 hm
      go_enter Tryz.func121, Tryz.ntmps121
      go_wp2_with fail
      refine HL.out.mono ?_
      rintro e w1 ⟨hst, hps, v, rfl, cs, hv⟩
      obtain ⟨av, cv, m, rfl, _, hk⟩ := rows_kids hv
      obtain ⟨kb, ko, k1, nm1, na1, nl1, nc1, ka1, kl1, kc1, rfl, hkb, q0, q1, q2, q3, hT⟩ := kidF_at hk (i := 0) (by simp)
      have HR := hideP ((hst.keep _ H.out.ltp (by simp)).trans (heap_alloc_last w _))
      obtain ⟨⟨r0, r1, r2, r3⟩, ⟨f0, f1, f2, f3⟩, hr1⟩ := res_facts HR.out
      have HST := hideP ((Stay.of H.out.ltp (bl_alloc _ _)).trans hst)
      have HP := hideP hps
      have HT : Hid (TyE (w.heap.size + 1) w1 (.agg #[.int .i64 k1, .string nm1, .slice na1 nl1 nc1, .slice ka1 kl1 kc1]) D) := by
        refine ⟨m, ?_⟩
        simpa using hT
      simp only [Nat.zero_mul, Nat.add_zero] at q0 q1 q2 q3
      have hl1 : ([D] : List Ty).length = 1 := rfl
      clear hst hps hv hk hT
      go_wp2_with fail
      refine bodyPost_ret (results_cell_row rfl _ _ w.heap.size 36 _ (0, 0) _ rfl (set4 HR.out _ _ _ _) Tryz.underlying36 rfl (by kernel_rfl)) rfl ⟨stay_set4 HST.out H.out.ltp (Nat.le_refl _) _ _ _ _, ps_set4 HP.out H.out.ltp _ _ _ _, _, rfl, ?_⟩
      exact (HT.out.set4 (Nat.lt_succ_self _) _ _ _ _).lower (Nat.le_succ _)
    · have hl1 : ((l.length : Int) == 1) = false := by simp; omega
      have HLen2 : Hid (l.length ≤ 8193) := by have := HLen.out; have := OK.out.len; show _ ≤ _; omega
      rw [alt_more hm h1]
      clear h1 hm
      go_enter Tryz.func121, Tryz.ntmps121
      go_wp2_with fail
      refine HL.out.mono ?_
      rintro e w1 ⟨hst, hps, v, rfl, cs, hv⟩
      obtain ⟨av, cv, m, rfl, hcv, hk⟩ := rows_kids hv
      have HR := hideP ((hst.keep _ H.out.ltp (by simp)).trans (heap_alloc_last w _))
      obtain ⟨⟨r0, r1, r2, r3⟩, ⟨f0, f1, f2, f3⟩, hr1⟩ := res_facts HR.out
      have HST := hideP ((Stay.of H.out.ltp (bl_alloc _ _)).trans hst)
      have HP := hideP hps
      have HT : Hid (TyE (w.heap.size + 1) w1 (.agg #[.int .i64 7, .string ⟨#[]⟩, .slice none 0 0, .slice av l.length cv]) (mkT 7 [] [] l)) :=
        ⟨m + 1, 7, ⟨#[]⟩, none, 0, av, cv, [], l, rfl, rfl, by decide, by decide, (fun _ h => nomatch h), ⟨Nat.le_refl _, Nat.zero_le _⟩, ⟨hcv, (by have := HLen2.out; unfold reachBytes; omega)⟩, .inl rfl, by simpa using hk⟩
      clear hst hps hv hk
      go_wp2_with fail
      refine bodyPost_ret (results_cell_row rfl _ _ w.heap.size 36 _ (0, 0) _ rfl (set4 HR.out _ _ _ _) Tryz.underlying36 rfl (by kernel_rfl)) rfl ⟨stay_set4 HST.out H.out.ltp (Nat.le_refl _) _ _ _ _, ps_set4 HP.out H.out.ltp _ _ _ _, _, rfl, ?_⟩
      exact (HT.out.set4 (Nat.lt_succ_self _) _ _ _ _).lower (Nat.le_succ _)

theorem pr_inl {α β : Type} (x : α) (a : Nat) (f : α → Nat → Pr β) : Pr.go (.inl (x, a)) f = f x a := rfl
theorem pr_inr {α β : Type} (e : Int × Nat × Nat) (f : α → Nat → Pr β) : Pr.go (.inr e : Pr α) f = .inr e := rfl

/-- The cells of a type in a box. -/
abbrev BoxT (W : World) (b : Nat) (k : Int) (nm : ByteArray) (na : Option Addr) (nl nc : Nat) (ka : Option Addr) (kl kc : Nat) : Prop :=
  W.cell? ⟨b, 0, none⟩ = some (.int .i64 k) ∧ W.cell? ⟨b, 1, none⟩ = some (.string nm) ∧ W.cell? ⟨b, 2, none⟩ = some (.slice na nl nc) ∧ W.cell? ⟨b, 3, none⟩ = some (.slice ka kl kc)

section
variable {W : World} {b c : Nat} {k : Int} {nm : ByteArray} {na : Option Addr} {nl nc : Nat} {ka : Option Addr} {kl kc : Nat}
theorem BoxT.alloc (h : BoxT W b k nm na nl nc ka kl kc) (hb : b < W.heap.size) (o : Obj) : BoxT (W.alloc o) b k nm na nl nc ka kl kc := by
  have hc : ∀ j, (W.alloc o).cell? ⟨b, j, none⟩ = W.cell? ⟨b, j, none⟩ := fun j => World.cell?_of_block (w := W) (a := ⟨b, j, none⟩) (Below.heap_alloc _ _ _ hb)
  exact ⟨(hc 0).trans h.1, (hc 1).trans h.2.1, (hc 2).trans h.2.2.1, (hc 3).trans h.2.2.2⟩
theorem BoxT.set4 (h : BoxT W b k nm na nl nc ka kl kc) (hb : b ≠ c) (x0 x1 x2 x3 : Value) : BoxT ((((W.setCell ⟨c, 0, none⟩ x0).setCell ⟨c, 1, none⟩ x1).setCell ⟨c, 2, none⟩ x2).setCell ⟨c, 3, none⟩ x3) b k nm na nl nc ka kl kc := by
  have hc : ∀ j, ((((W.setCell ⟨c, 0, none⟩ x0).setCell ⟨c, 1, none⟩ x1).setCell ⟨c, 2, none⟩ x2).setCell ⟨c, 3, none⟩ x3).cell? ⟨b, j, none⟩ = W.cell? ⟨b, j, none⟩ := fun j => World.cell?_of_block (w := W) (a := ⟨b, j, none⟩) (other_set4 hb _ _ _ _)
  exact ⟨(hc 0).trans h.1, (hc 1).trans h.2.1, (hc 2).trans h.2.2.1, (hc 3).trans h.2.2.2⟩
end

/-- A type's box as it was made. -/
def ZeroT (W : World) (b : Nat) : Prop := (W.cell? ⟨b, 0, none⟩ = some (.int .i64 0) ∧ W.cell? ⟨b, 1, none⟩ = some (.string ⟨#[]⟩) ∧ W.cell? ⟨b, 2, none⟩ = some (.slice none 0 0) ∧ W.cell? ⟨b, 3, none⟩ = some (.slice none 0 0)) ∧
  (W.frozen? ⟨b, 0, none⟩ = false ∧ W.frozen? ⟨b, 1, none⟩ = false ∧ W.frozen? ⟨b, 2, none⟩ = false ∧ W.frozen? ⟨b, 3, none⟩ = false) ∧ b < W.heap.size
theorem zeroT {W : World} {b : Nat} (h : W.heap[b]? = some zTyO) : ZeroT W b := res_facts h

/-- Two types in a row. -/
theorem tyE_fun {lo : Nat} {w : World} {c1 c2 : List Value} {D1 D2 : Ty} (h1 : TyE lo w (.agg c1.toArray) D1) (h2 : TyE lo w (.agg c2.toArray) D2) (hc1 : c1.length = 4) (hc2 : c2.length = 4) (hlo : lo ≤ w.heap.size) :
    TyE lo (w.alloc (.cells (c1 ++ c2).toArray 36)) (.agg #[.int .i64 6, .string ⟨#[]⟩, .slice none 0 0, .slice (some ⟨w.heap.size, 0, none⟩) 2 2]) (mkT 6 [] [] [D1, D2]) := by
  obtain ⟨m1, h1⟩ := h1
  obtain ⟨m2, h2⟩ := h2
  have hk : ∀ {v D m}, TyF w lo m v D → TyF (w.alloc (.cells (c1 ++ c2).toArray 36)) lo m v D := fun h => tyF_keep h (by simp) fun i _ hl => Below.heap_alloc _ _ _ hl
  have g1 := hk (tyF_mono h1 (Nat.le_max_left m1 m2))
  have g2 := hk (tyF_mono h2 (Nat.le_max_right m1 m2))
  refine ⟨max m1 m2 + 1, 6, ⟨#[]⟩, none, 0, some ⟨w.heap.size, 0, none⟩, 2, [], [D1, D2], rfl, rfl, by decide, by decide, (fun _ h => nomatch h), ⟨Nat.le_refl _, Nat.zero_le _⟩, ⟨Nat.le_refl _, (by show 2 ≤ _; decide)⟩, .inl rfl, .inr ⟨w.heap.size, 0, rfl, hlo, ⟨_, _, heap_alloc_last _ _⟩, fun i hi => ?_⟩⟩
  match c1, hc1, c2, hc2 with
  | [x0, x1, x2, x3], _, [y0, y1, y2, y3], _ =>
    match i, hi with
    | 0, _ => exact ⟨x0, x1, x2, x3, by rw [cell_of_row _ _ _ _ _ _ (heap_alloc_last w _)]; rfl, by rw [cell_of_row _ _ _ _ _ _ (heap_alloc_last w _)]; rfl, by rw [cell_of_row _ _ _ _ _ _ (heap_alloc_last w _)]; rfl, by rw [cell_of_row _ _ _ _ _ _ (heap_alloc_last w _)]; rfl, g1⟩
    | 1, _ => exact ⟨y0, y1, y2, y3, by rw [cell_of_row _ _ _ _ _ _ (heap_alloc_last w _)]; rfl, by rw [cell_of_row _ _ _ _ _ _ (heap_alloc_last w _)]; rfl, by rw [cell_of_row _ _ _ _ _ _ (heap_alloc_last w _)]; rfl, by rw [cell_of_row _ _ _ _ _ _ (heap_alloc_last w _)]; rfl, g2⟩

set_option maxRecDepth 100000 in
set_option maxHeartbeats 4000000 in
theorem arrow_c (pb tb cap d n : Nat) (ts : List Tok) (ih : ∀ a w, Ps w pb tb cap ts a (d + 1) → Calls Tryz.prog 30 #[.pointer (some ⟨pb, 0, none⟩)] w (PPost pb tb cap ts (d + 1) w TyE (kindA ts ts.length n (d + 1) a)))
    (a : Nat) (w : World) (h : Ps w pb tb cap ts a (d + 1)) (ok : ToksOk ts) :
    Calls Tryz.prog 65 #[.pointer (some ⟨pb, 0, none⟩)] w (PPost pb tb cap ts (d + 1) w TyE ((altA ts (kindA ts ts.length n (d + 1)) ts.length a).go fun t a => if seesA ts a [45, 62] then (kindA ts ts.length n (d + 1) (a + 1)).go fun r a => .inl (mkT 6 [] [] [t, r], a) else .inl (t, a))) := by
  have H := hideP h
  have OK := hideP ok
  have HI := hideP ih
  obtain ⟨f, hf⟩ : ∃ f, f + 1 = ts.length := ⟨ts.length - 1, by have := ok.pos; omega⟩
  have HA := hideP (alt_c pb tb cap (d + 1) ts (kindA ts ts.length n (d + 1)) ⟨ih, kind_enters pb, fun a x b hx => kind_up hx⟩ f a hf (w.alloc zTyO) (h.alloc _) ok)
  rw [hf] at HA
  obtain ⟨R, hR⟩ : ∃ R, R = ((altA ts (kindA ts ts.length n (d + 1)) ts.length a).go fun t a => if seesA ts a [45, 62] then (kindA ts ts.length n (d + 1) (a + 1)).go fun r a => .inl (mkT 6 [] [] [t, r], a) else .inl (t, a)) := ⟨_, rfl⟩
  rw [← hR]
  have HRr := hideP hR
  clear h ok ih hR
  go_enter Tryz.func65, Tryz.ntmps65
  go_wp2_with fail
  refine HA.out.mono ?_
  rintro e w1 ⟨hst, hpost⟩
  have HST := hideP ((Stay.of H.out.ltp (bl_alloc _ _)).trans hst)
  have HR := hideP ((hst.keep _ H.out.ltp (by simp)).trans (heap_alloc_last w _))
  clear hst
  rcases hA : altA ts (kindA ts ts.length n (d + 1)) ts.length a with ⟨D, b⟩ | ⟨er, li, co⟩
  case inr =>
    rw [hA] at hpost
    have HE : Hid (R = .inr (er, li, co)) := by show _ = _; simp only [HRr.out, hA, pr_inr]
    subst hpost
    clear hA
    go_wp2_with fail
    exact ⟨rfl, HST.out, by rw [HE.out]⟩
  rw [hA] at hpost
  obtain ⟨hps, v, rfl, hv⟩ := hpost
  obtain ⟨k1, nm1, na1, nl1, nc1, ka1, kl1, kc1, rfl⟩ := hv.cells
  have HRA : Hid (R = if seesA ts b [45, 62] then (kindA ts ts.length n (d + 1) (b + 1)).go fun r a => .inl (mkT 6 [] [] [D, r], a) else .inl (D, b)) := by show _ = _; simp only [HRr.out, hA, pr_inl]
  have HP := hideP hps
  have HT := hideP hv
  clear hps hv hA HRr
  go_wp2_with fail
  refine (take_c pb tb cap b (d + 1) ts [45, 62] _ (HP.out.alloc _) OK.out).mono ?_
  rintro e w2 ⟨rfl, hst, hps⟩
  have HR2 := hideP ((hst.keep _ H.out.ltp (by have := lt_of_block HR.out; simp; omega)).trans ((Below.heap_alloc _ _ _ (lt_of_block HR.out)).trans HR.out))
  have HST2 := hideP ((HST.out.alloc H.out.ltp _).trans hst)
  have HT2 := hideP ((HT.out.alloc _).stay hst (by have := H.out.ltp; simp; omega))
  have HBx := hideP ((hst.keep w1.heap.size HP.out.ltp (by simp)).trans (heap_alloc_last w1 _))
  clear hst
  cases hs : seesA ts b [45, 62] with
  | false =>
    rw [hs, if_neg (by simp)] at hps
    have HP2 := hideP hps
    have HE : Hid (R = .inl (D, b)) := by rw [HRA.out, if_neg (by simp [hs])]; exact rfl
    obtain ⟨⟨r0, r1, r2, r3⟩, ⟨f0, f1, f2, f3⟩, hr1⟩ := res_facts HR2.out
    obtain ⟨⟨b0, b1, b2, b3⟩, _, hr2⟩ := res_facts HBx.out
    have hne : ¬ w1.heap.size = w.heap.size := by have := lt_of_block HR.out; omega
    clear hps hs
    go_wp2_with fail
    rw [HE.out]
    refine bodyPost_ret (results_cell_row rfl _ _ w.heap.size 36 _ (0, 0) _ rfl (set4 HR2.out _ _ _ _) Tryz.underlying36 rfl (by kernel_rfl)) rfl ⟨stay_set4 HST2.out H.out.ltp (Nat.le_refl _) _ _ _ _, ps_set4 HP2.out H.out.ltp _ _ _ _, _, rfl, ?_⟩
    exact (HT2.out.set4 (by simp) _ _ _ _).lower (by simp)
  | true =>
    rw [hs, if_pos rfl] at hps
    have HP2 := hideP hps
    have HRB : Hid (R = (kindA ts ts.length n (d + 1) (b + 1)).go fun r a => .inl (mkT 6 [] [] [D, r], a)) := by rw [HRA.out, if_pos hs]; exact rfl
    have HAft : Hid (∀ wa w3, wa.heap = w2.heap → Stay pb wa w3 → BoxT w3 w1.heap.size k1 nm1 na1 nl1 nc1 ka1 kl1 kc1 ∧ w3.heap[w.heap.size]? = some zTyO ∧ TyE (w.heap.size + 1) w3 (.agg #[.int .i64 k1, .string nm1, .slice na1 nl1 nc1, .slice ka1 kl1 kc1]) D) := by
      intro wa w3 e hs
      have hl := lt_of_block HBx.out
      have hl2 := lt_of_block HR2.out
      refine ⟨(res_facts ((hs.keep w1.heap.size HP.out.ltp (by rw [e]; exact hl)).trans (by rw [e]; exact HBx.out))).1, (hs.keep w.heap.size H.out.ltp (by rw [e]; exact hl2)).trans (by rw [e]; exact HR2.out), ?_⟩
      have ht : TyE (w.heap.size + 1) wa (.agg #[.int .i64 k1, .string nm1, .slice na1 nl1 nc1, .slice ka1 kl1 kc1]) D := (by simpa using HT2.out : TyE (w.heap.size + 1) w2 _ D).keep (by rw [e]; exact Nat.le_refl _) fun i _ _ => by rw [e]
      exact ht.stay hs (by have := H.out.ltp; omega)
    have hS0 : BoxT w2.drew w1.heap.size k1 nm1 na1 nl1 nc1 ka1 kl1 kc1 := (res_facts HBx.out).1
    have HC : Hid (Calls Tryz.prog 30 #[.pointer (some ⟨pb, 0, none⟩)] w2.drew fun e w3 => (∃ chain, e = .panicked chain ∧ PPost pb tb cap ts (d + 1) w TyE R e w3) ∨
        ∃ D2 b2 k4 nm4 na4 nl4 nc4 ka4 kl4 kc4, e = .returned (.agg #[.int .i64 k4, .string nm4, .slice na4 nl4 nc4, .slice ka4 kl4 kc4]) ∧ BoxT w3 w1.heap.size k1 nm1 na1 nl1 nc1 ka1 kl1 kc1 ∧ ZeroT w3 w.heap.size ∧ Hid (∀ o, BoxT (w3.alloc o) w1.heap.size k1 nm1 na1 nl1 nc1 ka1 kl1 kc1) ∧ Hid (∀ o x0 x1 x2 x3, BoxT (((((w3.setCell ⟨w.heap.size, 0, none⟩ x0).setCell ⟨w.heap.size, 1, none⟩ x1).setCell ⟨w.heap.size, 2, none⟩ x2).setCell ⟨w.heap.size, 3, none⟩ x3).alloc o) w1.heap.size k1 nm1 na1 nl1 nc1 ka1 kl1 kc1) ∧ Hid (R = .inl (mkT 6 [] [] [D, D2], b2) ∧ Stay pb w w3 ∧ Ps w3 pb tb cap ts b2 (d + 1) ∧
          w3.heap[w.heap.size]? = some zTyO ∧ TyE (w.heap.size + 1) w3 (.agg #[.int .i64 k1, .string nm1, .slice na1 nl1 nc1, .slice ka1 kl1 kc1]) D ∧ TyE (w.heap.size + 1) w3 (.agg #[.int .i64 k4, .string nm4, .slice na4 nl4 nc4, .slice ka4 kl4 kc4]) D2)) := by
      refine (HI.out (b + 1) w2.drew HP2.out.drew).mono ?_
      rintro e w3 ⟨hst, hpost⟩
      have hst3 := HST2.out.drew.trans hst
      obtain ⟨g1, g2, g3⟩ := HAft.out w2.drew w3 (Eq.refl w2.heap) hst
      rcases hk : kindA ts ts.length n (d + 1) (b + 1) with ⟨D2, b2⟩ | ⟨er, li, co⟩
      · rw [hk] at hpost
        obtain ⟨hps, v, rfl, hv⟩ := hpost
        obtain ⟨k4, nm4, na4, nl4, nc4, ka4, kl4, kc4, rfl⟩ := hv.cells
        exact .inr ⟨D2, b2, _, _, _, _, _, _, _, _, rfl, g1, zeroT g2, (fun o => g1.alloc (Nat.lt_of_lt_of_le (lt_of_block HBx.out) hst.size) o), (fun o x0 x1 x2 x3 => (g1.set4 (by have := lt_of_block HR.out; omega) x0 x1 x2 x3).alloc (by rw [size_set4]; exact Nat.lt_of_lt_of_le (lt_of_block HBx.out) hst.size) o), by rw [HRB.out, hk]; rfl, hst3, hps, g2, g3, hv.lower (lt_of_block HR2.out)⟩
      · rw [hk] at hpost
        subst hpost
        exact .inl ⟨_, rfl, hst3, by rw [HRB.out, hk]; rfl⟩
    clear hps hs
    unfold BoxT at hS0
    have hne : ¬ w1.heap.size = w.heap.size := by have := lt_of_block HR.out; omega
    have hne' : ¬ w.heap.size = w1.heap.size := by have := lt_of_block HR.out; omega
    go_wp2_with fail
    go_region_held (fun W => W.cell? ⟨w1.heap.size, 0, none⟩ = some (.int .i64 k1) ∧ W.cell? ⟨w1.heap.size, 1, none⟩ = some (.string nm1) ∧ W.cell? ⟨w1.heap.size, 2, none⟩ = some (.slice na1 nl1 nc1) ∧ W.cell? ⟨w1.heap.size, 3, none⟩ = some (.slice ka1 kl1 kc1)) (first | with_reducible assumption | with_reducible exact HS3.out _ | with_reducible exact HS4.out _ _ _ _ _) (first
      | (go_at_call 30; refine HC.out.mono ?_; rintro e w3 (⟨ch, rfl, hf⟩ | ⟨D2, b2, k4, nm4, na4, nl4, nc4, ka4, kl4, kc4, rfl, t5, t6, HS3, HS4, HX⟩); exact ⟨rfl, hf⟩; unfold BoxT at t5; obtain ⟨⟨r0, r1, r2, r3⟩, ⟨f0, f1, f2, f3⟩, hl4⟩ := t6))
    all_goals
      go_wp2_with fail
      obtain ⟨e1, e2, e3, e4, e5, e6⟩ := HX.out
      rw [e1]
      have hlt : w.heap.size < w3.heap.size := lt_of_block e4
      refine bodyPost_ret (results_cell_row rfl _ _ w.heap.size 36 _ (0, 0) _ rfl ((Below.heap_alloc _ _ _ (by rw [size_set4]; exact hlt)).trans (set4 e4 _ _ _ _)) Tryz.underlying36 rfl (by kernel_rfl)) rfl ⟨(stay_set4 e2 H.out.ltp (Nat.le_refl _) _ _ _ _).alloc H.out.ltp _, (ps_set4 e3 H.out.ltp _ _ _ _).alloc _, _, rfl, ?_⟩
      have hf := tyE_fun (c1 := [.int .i64 k1, .string nm1, .slice na1 nl1 nc1, .slice ka1 kl1 kc1]) (c2 := [.int .i64 k4, .string nm4, .slice na4 nl4 nc4, .slice ka4 kl4 kc4]) (e5.set4 (b := w.heap.size) (Nat.lt_succ_self _) (.int .i64 6) (.string ⟨#[]⟩) (.slice none 0 0) (.slice (some ⟨w3.heap.size, 0, none⟩) 2 2)) (e6.set4 (Nat.lt_succ_self _) _ _ _ _) rfl rfl (by rw [size_set4]; exact hlt)
      rw [size_set4] at hf
      exact hf.lower (Nat.le_succ _)

set_option maxRecDepth 100000 in
set_option maxHeartbeats 4000000 in
theorem withinT_c (pb tb cap a d g : Nat) (ts : List Tok) (r : Pr Ty) (hd : d < 100) (hg : ∀ w, Ps w pb tb cap ts a (d + 1) → Calls Tryz.prog g #[.pointer (some ⟨pb, 0, none⟩)] w (PPost pb tb cap ts (d + 1) w TyE r)) (hen : Enters g pb)
    (w : World) (h : Ps w pb tb cap ts a d) :
    Calls Tryz.prog 64 #[.pointer (some ⟨pb, 0, none⟩), .func (.func g) #[] #[]] w (PPost pb tb cap ts d w TyE r) := by
  have H := hideP h
  have HG := hideP hg
  have hp := h.ltp
  obtain ⟨c0, c1, c2⟩ := h.cells
  have z2 := h.fz 2
  have hd1 : ((d : Int) == 100) = false := by simp; omega
  clear h hg
  go_enter Tryz.func64, Tryz.ntmps64
  go_wp2_with fail
  rw [show ((d : Int) + 1) = ((d + 1 : Nat) : Int) by omega]
  refine (HG.out _ ((H.out.setDeep (d + 1)).alloc _)).mono ?_
  rintro e w1 ⟨hst, hpost⟩
  have HST : Hid (Stay pb w w1) := (((Stay.refl pb w).set 2 _).alloc hp _).trans hst
  have HR := hideP ((hst.keep w.heap.size hp (by simp [World.setCell])).trans (heap_set_alloc w _ _ _))
  have HLo : Hid (∀ x, PPost pb tb cap ts (d + 1) ((w.setCell ⟨pb, 2, none⟩ (.int .i64 ((d + 1 : Nat) : Int))).alloc zTyO) TyE (.inl x) e w1 → Ps w1 pb tb cap ts x.2 (d + 1) ∧ ∃ v, e = .returned v ∧ TyE (w.heap.size + 1) w1 v x.1) := by
    rintro ⟨x, b⟩ ⟨_, h1, v, h2, h3⟩
    refine ⟨h1, v, h2, ?_⟩
    have : ((w.setCell ⟨pb, 2, none⟩ (.int .i64 ((d + 1 : Nat) : Int))).alloc zTyO).heap.size = w.heap.size + 1 := by simp [World.setCell]
    rw [this] at h3
    exact h3
  have HPo : Hid (PPost pb tb cap ts (d + 1) ((w.setCell ⟨pb, 2, none⟩ (.int .i64 ((d + 1 : Nat) : Int))).alloc zTyO) TyE r e w1) := ⟨hst, hpost⟩
  clear hst hpost
  rcases r with ⟨D, b⟩ | ⟨er, li, co⟩
  case inr =>
    obtain ⟨_, rfl⟩ := HPo.out
    go_wp2_with fail
    exact ⟨rfl, HST.out, rfl⟩
  obtain ⟨hps, v, rfl, hv⟩ := HLo.out _ HPo.out
  obtain ⟨k1, nm1, na1, nl1, nc1, ka1, kl1, kc1, rfl⟩ := hv.cells
  have HP := hideP hps
  have HT := hideP hv
  clear hps hv HPo HLo c0 c1 c2 z2
  obtain ⟨c0, c1, c2⟩ := HP.out.cells
  have z2 := HP.out.fz 2
  have hp1 := HP.out.ltp
  obtain ⟨⟨r0, r1, r2, r3⟩, ⟨f0, f1, f2, f3⟩, hr1⟩ := res_facts HR.out
  have hpw : ¬ pb = w.heap.size := by omega
  have hpw' : ¬ w.heap.size = pb := by omega
  have hne : ¬ w1.heap.size = w.heap.size := by omega
  have hne' : ¬ w1.heap.size = pb := by omega
  go_wp2_with fail
  refine bodyPost_ret (results_cell_row rfl _ _ w.heap.size 36 _ (0, 0) _ rfl ((Below.heap_alloc _ _ _ (by rw [size_set4, size_set]; exact hr1)).trans (set4 ((Below.heap_setCell _ _ _ _ hpw').trans HR.out) _ _ _ _)) Tryz.underlying36 rfl (by kernel_rfl)) rfl ⟨(stay_set4 (HST.out.set 2 _) hp (Nat.le_refl _) _ _ _ _).alloc hp _, (ps_set4 (HP.out.setDeep d) hp _ _ _ _).alloc _, _, rfl, ?_⟩
  exact (((HT.out.set1 (by omega) _ _).set4 (Nat.lt_succ_self _) _ _ _ _).alloc _).lower (Nat.le_succ _)

set_option maxRecDepth 100000 in
set_option maxHeartbeats 4000000 in
theorem withinT_deep (pb tb cap a g : Nat) (ts : List Tok) (w : World) (h : Ps w pb tb cap ts a 100) :
    Calls Tryz.prog 64 #[.pointer (some ⟨pb, 0, none⟩), .func (.func g) #[] #[]] w (PPost pb tb cap ts 100 w TyE (badA ts 6 a)) := by
  have H := hideP h
  have hp := h.ltp
  obtain ⟨c0, c1, c2⟩ := h.cells
  clear h
  go_enter Tryz.func64, Tryz.ntmps64
  go_wp2_with fail
  refine (wrong_c pb tb cap a 100 ts _ (H.out.alloc _) 6).mono ?_
  rintro e w2 ⟨rfl, hb2⟩
  have HB2 := hideP (below_next (bl_alloc _ _) hb2)
  clear hb2
  go_wp2_with fail
  exact ⟨rfl, Stay.of hp HB2.out, rfl⟩

theorem arrow_enters (pb : Nat) : Enters 65 pb := fun w => enters_of Tryz.func65 (by kernel_rfl) (by kernel_rfl) _ w

set_option maxRecDepth 100000 in
set_option maxHeartbeats 4000000 in
/-- A type, by whatever way it is read within. -/
theorem full_of (pb tb cap d : Nat) (ts : List Tok) (r : Pr Ty) (w : World) (hw : ∀ w1, Below w.heap.size w w1 → Calls Tryz.prog 64 #[.pointer (some ⟨pb, 0, none⟩), .func (.func 65) #[] #[]] w1 (PPost pb tb cap ts d w1 TyE r)) (hp : pb < w.heap.size) :
    Calls Tryz.prog 30 #[.pointer (some ⟨pb, 0, none⟩)] w (PPost pb tb cap ts d w TyE r) := by
  have HW := hideP hw
  clear hw
  go_enter Tryz.func30, Tryz.ntmps30
  go_wp2_with fail
  refine (HW.out _ (bl_alloc _ _)).mono ?_
  rintro e w1 ⟨hst, hpost⟩
  have HST := hideP ((Stay.of hp (bl_alloc _ _)).trans hst)
  have HR := hideP ((hst.keep _ hp (by simp)).trans (heap_alloc_last w _))
  clear hst
  rcases r with ⟨D, b⟩ | ⟨er, li, co⟩
  case inr =>
    subst hpost
    go_wp2_with fail
    exact ⟨rfl, HST.out, rfl⟩
  obtain ⟨hps, v, rfl, hv⟩ := hpost
  obtain ⟨k1, nm1, na1, nl1, nc1, ka1, kl1, kc1, rfl⟩ := hv.cells
  have HP := hideP hps
  have HT := hideP hv
  obtain ⟨⟨r0, r1, r2, r3⟩, ⟨f0, f1, f2, f3⟩, hr1⟩ := res_facts HR.out
  clear hps hv
  go_wp2_with fail
  refine bodyPost_ret (results_cell_row rfl _ _ w.heap.size 36 _ (0, 0) _ rfl (set4 HR.out _ _ _ _) Tryz.underlying36 rfl (by kernel_rfl)) rfl ⟨stay_set4 HST.out hp (Nat.le_refl _) _ _ _ _, ps_set4 HP.out hp _ _ _ _, _, rfl, ?_⟩
  exact (HT.out.set4 (by simp) _ _ _ _).lower (by simp)

/-- fullType: the rule 'type'. -/
theorem kind_c (pb tb cap : Nat) (ts : List Tok) (ok : ToksOk ts) : ∀ (n d a : Nat) (w : World), d + n = 101 → d ≤ 100 → Ps w pb tb cap ts a d →
    Calls Tryz.prog 30 #[.pointer (some ⟨pb, 0, none⟩)] w (PPost pb tb cap ts d w TyE (kindA ts ts.length n d a))
  | 0, d, _, _, h1, h2, _ => absurd h1 (by omega)
  | n + 1, d, a, w, h1, h2, h => by
    rw [kindA]
    by_cases hd : 100 ≤ d
    · obtain rfl : d = 100 := by omega
      rw [if_pos hd]
      exact full_of pb tb cap 100 ts _ w (fun w1 hb => withinT_deep pb tb cap a _ ts w1 (h.below hb)) h.ltp
    · rw [if_neg hd]
      exact full_of pb tb cap d ts _ w (fun w1 hb => withinT_c pb tb cap a d _ ts _ (by omega) (fun w2 h2 => arrow_c pb tb cap d n ts (fun a w h => kind_c pb tb cap ts ok n (d + 1) a w (by omega) (by omega) h) a w2 h2 ok) (arrow_enters pb) w1 (h.below hb)) h.ltp
end Go.Proofs.YtfjlkkohccihnabGreatDoor
