/- Part of the proof of ParseLeft: the texts that follow, in build order. -/
import Derived.Test.YthieoabbjekpkabGreatDoorPart5
import Derived.BigQuiet
import Derived.Deep.QuietTactic
import Derived.Deep.RegionHeld
import Derived.Deep.RegionWith
import Derived.RegionTactic

/- Where a fault lies: whatever is read goes on at a token, or is wrong at a token, with one of two errors; without a program in sight. -/
namespace Go.Proofs.YthieoabbjekpkabGreatDoor

/-- It goes on at a token, or is wrong at one. -/
def OkP {α : Type} (ts : List Tok) (r : Pr α) : Prop :=
  match r with
  | .inl (_, a) => a < ts.length
  | .inr (e, l, c) => (e = 6 ∨ e = 7) ∧ ∃ t ∈ ts, t.line = l ∧ t.col = c

/-- The last token alone is the end. -/
def EndsT (ts : List Tok) : Prop := ∀ a, a < ts.length → (tkA ts a).kind ≠ 0 → a + 1 < ts.length

section
variable {ts : List Tok} {α β : Type}

theorem tok_in {a : Nat} (h : a < ts.length) : tkA ts a ∈ ts := by
  unfold tkA
  rw [List.getD_eq_getElem?_getD, List.getElem?_eq_getElem h]
  exact List.getElem_mem h

theorem bad_ok {e : Int} (he : e = 6 ∨ e = 7) {a : Nat} (h : a < ts.length) : OkP ts (badA ts e a : Pr α) := ⟨he, _, tok_in h, rfl, rfl⟩

theorem go_ok {r : Pr α} {f : α → Nat → Pr β} (h : OkP ts r) (hf : ∀ x a, a < ts.length → OkP ts (f x a)) : OkP ts (r.go f) := by
  unfold Pr.go
  match r, h with
  | .inl (x, a), h => exact hf x a h
  | .inr _, h => exact h

theorem ite_ok {c : Prop} [Decidable c] {x y : Pr α} (h1 : c → OkP ts x) (h2 : ¬ c → OkP ts y) : OkP ts (if c then x else y) := by
  by_cases h : c
  · rw [if_pos h]
    exact h1 h
  · rw [if_neg h]
    exact h2 h

theorem sees_next (hE : EndsT ts) {a : Nat} {s : List UInt8} (h : a < ts.length) (hs : seesA ts a s = true) : a + 1 < ts.length := by
  refine hE a h fun h0 => ?_
  unfold seesA at hs
  rw [h0] at hs
  simp at hs

theorem want_ok (hE : EndsT ts) {a : Nat} (s : List UInt8) (h : a < ts.length) : OkP ts (wantA ts a s) := by
  unfold wantA
  split
  · rename_i hs
    exact sees_next hE h hs
  · exact bad_ok (.inr rfl) h

theorem name_ok (hE : EndsT ts) {a : Nat} (h : a < ts.length) : OkP ts (nameA ts a) := by
  unfold nameA
  split
  · rename_i hs
    exact hE a h fun h0 => by rw [h0] at hs; simp at hs
  · exact bad_ok (.inr rfl) h

theorem many_ok (hE : EndsT ts) {one : Nat → Pr α} (hone : ∀ a, a < ts.length → OkP ts (one a)) (sep : List UInt8) : ∀ (f a : Nat), a < ts.length → OkP ts (manyA ts one sep f a)
  | 0, _, h => bad_ok (.inr rfl) h
  | f + 1, a, h => by
    rw [manyA]
    refine go_ok (hone a h) fun x b hb => ?_
    split
    · rename_i hs
      exact go_ok (many_ok hE hone sep f (b + 1) (sees_next hE hb hs)) fun _ _ hc => hc
    · exact hb

theorem field_ok (hE : EndsT ts) {K : Nat → Pr α} (hK : ∀ a, a < ts.length → OkP ts (K a)) {a : Nat} (h : a < ts.length) : OkP ts (fieldA ts K a) :=
  go_ok (name_ok hE h) fun _ _ h1 => go_ok (want_ok hE _ h1) fun _ _ h2 => go_ok (hK _ h2) fun _ _ h3 => h3

theorem prim_ok (hE : EndsT ts) {K : Nat → Pr Ty} (hK : ∀ a, a < ts.length → OkP ts (K a)) (f : Nat) {a : Nat} (h : a < ts.length) : OkP ts (primA ts K f a) := by
  unfold primA
  split
  · rename_i hs; exact sees_next hE h hs
  split
  · rename_i hs; exact sees_next hE h hs
  split
  · rename_i hs; exact sees_next hE h hs
  split
  · rename_i hs; exact sees_next hE h hs
  split
  · rename_i hs; exact sees_next hE h hs
  split
  · rename_i hs
    exact go_ok (hK _ (sees_next hE h hs)) fun _ _ h1 => go_ok (want_ok hE _ h1) fun _ _ h2 => h2
  split
  · rename_i hs
    have h1 := sees_next hE h hs
    split
    · rename_i hs2; exact sees_next hE h1 hs2
    · exact go_ok (many_ok hE (fun _ h => field_ok hE hK h) _ f _ h1) fun _ _ h2 => go_ok (want_ok hE _ h2) fun _ _ h3 => h3
  · exact go_ok (name_ok hE h) fun _ _ h1 => h1

theorem alt_ok (hE : EndsT ts) {K : Nat → Pr Ty} (hK : ∀ a, a < ts.length → OkP ts (K a)) (f : Nat) {a : Nat} (h : a < ts.length) : OkP ts (altA ts K f a) := by
  unfold altA
  refine go_ok (many_ok hE (fun _ h => prim_ok hE hK f h) _ f _ h) fun l b h1 => ?_
  split <;> exact h1

theorem kind_ok (hE : EndsT ts) (f : Nat) : ∀ (n d a : Nat), a < ts.length → OkP ts (kindA ts f n d a)
  | 0, _, _, h => bad_ok (.inl rfl) h
  | n + 1, d, a, h => by
    rw [kindA]
    split
    · exact bad_ok (.inl rfl) h
    · refine go_ok (alt_ok hE (fun a h => kind_ok hE f n (d + 1) a h) f h) fun t b hb => ?_
      split
      · rename_i hs
        exact go_ok (kind_ok hE f n (d + 1) (b + 1) (sees_next hE hb hs)) fun _ _ hc => hc
      · exact hb

theorem note_ok (hE : EndsT ts) {K : Nat → Pr Ty} (hK : ∀ a, a < ts.length → OkP ts (K a)) {a : Nat} (h : a < ts.length) : OkP ts (noteA ts K a) := by
  unfold noteA
  split
  · rename_i hs
    exact go_ok (hK _ (sees_next hE h hs)) fun _ _ h1 => h1
  · exact h

theorem head_ok (hE : EndsT ts) {K : Nat → Pr Ty} (hK : ∀ a, a < ts.length → OkP ts (K a)) {a : Nat} (h : a < ts.length) : OkP ts (headA ts K a) :=
  go_ok (want_ok hE _ h) fun _ _ h1 => go_ok (name_ok hE h1) fun _ _ h2 => go_ok (note_ok hE hK h2) fun _ _ h3 => go_ok (want_ok hE _ h3) fun _ _ h4 => go_ok (note_ok hE hK h4) fun _ _ h5 => h5

theorem find_sees {signs : List (List UInt8)} {a : Nat} {s : List UInt8} (h : signs.find? (seesA ts a) = some s) : seesA ts a s = true := List.find?_some h

theorem left_ok (hE : EndsT ts) (signs : List (List UInt8)) {sub : Nat → Pr Ty} (hs : ∀ a, a < ts.length → OkP ts (sub a)) : ∀ (f : Nat) (x : Ty) (a : Nat), a < ts.length → OkP ts (leftA ts signs sub f x a)
  | 0, _, _, h => bad_ok (.inr rfl) h
  | f + 1, x, a, h => by
    rw [leftA]
    split
    · exact h
    · rename_i s hf
      exact go_ok (hs _ (sees_next hE h (find_sees hf))) fun y b hb => left_ok hE signs hs f _ b hb

theorem cmp_ok (hE : EndsT ts) {K sub : Nat → Pr Ty} (hK : ∀ a, a < ts.length → OkP ts (K a)) (hs : ∀ a, a < ts.length → OkP ts (sub a)) {a : Nat} (h : a < ts.length) : OkP ts (cmpA ts K sub a) := by
  unfold cmpA
  refine go_ok (hs _ h) fun x b hb => ?_
  split
  · rename_i s hf
    exact go_ok (hs _ (sees_next hE hb (find_sees hf))) fun _ _ hc => hc
  · split
    · rename_i h1
      exact go_ok (hK _ (sees_next hE hb h1)) fun _ _ hc => hc
    · split
      · rename_i h1
        have hb1 := sees_next hE hb h1
        split
        · rename_i i hi
          obtain ⟨hlt, h2, _⟩ := List.findIdx?_eq_some_iff_getElem.1 hi
          exact sees_next hE hb1 h2
        · exact bad_ok (.inr rfl) hb1
      · exact hb

section
variable {K E U : Nat → Pr Ty}
theorem term_ok (hE : EndsT ts) (hU : ∀ a, a < ts.length → OkP ts (U a)) (f : Nat) {a : Nat} (h : a < ts.length) : OkP ts (termA ts U f a) := go_ok (hU _ h) fun x b hb => left_ok hE _ hU f x b hb
theorem sum_ok (hE : EndsT ts) (hU : ∀ a, a < ts.length → OkP ts (U a)) (f : Nat) {a : Nat} (h : a < ts.length) : OkP ts (sumA ts U f a) := go_ok (term_ok hE hU f h) fun x b hb => left_ok hE _ (fun _ h => term_ok hE hU f h) f x b hb
theorem cat_ok (hE : EndsT ts) (hU : ∀ a, a < ts.length → OkP ts (U a)) (f : Nat) {a : Nat} (h : a < ts.length) : OkP ts (catA ts U f a) := go_ok (sum_ok hE hU f h) fun x b hb => left_ok hE _ (fun _ h => sum_ok hE hU f h) f x b hb
theorem and_ok (hE : EndsT ts) (hK : ∀ a, a < ts.length → OkP ts (K a)) (hU : ∀ a, a < ts.length → OkP ts (U a)) (f : Nat) {a : Nat} (h : a < ts.length) : OkP ts (andA ts K U f a) := go_ok (cmp_ok hE hK (fun _ h => cat_ok hE hU f h) h) fun x b hb => left_ok hE _ (fun _ h => cmp_ok hE hK (fun _ h => cat_ok hE hU f h) h) f x b hb
theorem or_ok (hE : EndsT ts) (hK : ∀ a, a < ts.length → OkP ts (K a)) (hU : ∀ a, a < ts.length → OkP ts (U a)) (f : Nat) {a : Nat} (h : a < ts.length) : OkP ts (orA ts K U f a) := go_ok (and_ok hE hK hU f h) fun x b hb => left_ok hE _ (fun _ h => and_ok hE hK hU f h) f x b hb

theorem expr_ok (hE : EndsT ts) (hK : ∀ a, a < ts.length → OkP ts (K a)) (hX : ∀ a, a < ts.length → OkP ts (E a)) (hU : ∀ a, a < ts.length → OkP ts (U a)) (f : Nat) {a : Nat} (h : a < ts.length) : OkP ts (exprA ts K E U f a) := by
  unfold exprA
  split
  · rename_i hs
    exact go_ok (name_ok hE (sees_next hE h hs)) fun _ _ h1 => go_ok (note_ok hE hK h1) fun _ _ h2 => go_ok (want_ok hE _ h2) fun _ _ h3 => go_ok (hX _ h3) fun _ _ h4 => go_ok (want_ok hE _ h4) fun _ _ h5 => go_ok (hX _ h5) fun _ _ h6 => h6
  split
  · rename_i hs
    exact go_ok (hX _ (sees_next hE h hs)) fun _ _ h1 => go_ok (want_ok hE _ h1) fun _ _ h2 => go_ok (hX _ h2) fun _ _ h3 => go_ok (want_ok hE _ h3) fun _ _ h4 => go_ok (hX _ h4) fun _ _ h5 => h5
  split
  · rename_i hs
    exact go_ok (head_ok hE hK (sees_next hE h hs)) fun _ _ h1 => go_ok (want_ok hE _ h1) fun _ _ h2 => go_ok (hX _ h2) fun _ _ h3 => h3
  · exact or_ok hE hK hU f h

theorem rec_ok (hE : EndsT ts) (hX : ∀ a, a < ts.length → OkP ts (E a)) (f : Nat) {a : Nat} (h : a + 1 < ts.length) : OkP ts (recA ts E f a) := by
  unfold recA
  split
  · rename_i hs; exact sees_next hE h hs
  split
  · exact go_ok (many_ok hE (fun _ h => field_ok hE hX h) _ f _ h) fun _ _ h1 => go_ok (want_ok hE _ h1) fun _ _ h2 => h2
  · exact go_ok (hX _ h) fun _ _ h1 => go_ok (want_ok hE _ h1) fun _ _ h2 => go_ok (name_ok hE h2) fun _ _ h3 => go_ok (want_ok hE _ h3) fun _ _ h4 => go_ok (hX _ h4) fun _ _ h5 => go_ok (want_ok hE _ h5) fun _ _ h6 => h6

theorem atom_ok (hE : EndsT ts) (hK : ∀ a, a < ts.length → OkP ts (K a)) (hX : ∀ a, a < ts.length → OkP ts (E a)) (f : Nat) {a : Nat} (h : a < ts.length) : OkP ts (atomA ts K E f a) := by
  unfold atomA
  refine ite_ok (fun hs => hE a h fun h0 => by rw [h0] at hs; simp at hs) fun _ => ?_
  refine ite_ok (fun hs => hE a h fun h0 => by rw [h0] at hs; simp at hs) fun _ => ?_
  refine ite_ok (fun hs => sees_next hE h hs) fun _ => ?_
  refine ite_ok (fun hs => sees_next hE h hs) fun _ => ?_
  refine ite_ok (fun hs => sees_next hE h hs) fun _ => ?_
  refine ite_ok (fun hs => go_ok (want_ok hE _ (sees_next hE h hs)) fun _ _ h1 => go_ok (want_ok hE _ h1) fun _ _ h2 => h2) fun _ => ?_
  refine ite_ok (fun hs => go_ok (want_ok hE _ (sees_next hE h hs)) fun _ _ h1 => go_ok (hX _ h1) fun _ _ h2 => go_ok (want_ok hE _ h2) fun _ _ h3 => h3) fun _ => ?_
  refine ite_ok (fun hs => go_ok (hX _ (sees_next hE h hs)) fun _ _ h1 => go_ok (want_ok hE _ h1) fun _ _ h2 => h2) fun _ => ?_
  refine ite_ok (fun hs => rec_ok hE hX f (sees_next hE h hs)) fun _ => ?_
  exact go_ok (name_ok hE h) fun s b hb => ite_ok (fun hs => go_ok (many_ok hE hK _ f _ (sees_next hE hb hs)) fun _ _ h1 => go_ok (want_ok hE _ h1) fun _ _ h2 => h2) fun _ => hb

theorem post_ok (hE : EndsT ts) (hX : ∀ a, a < ts.length → OkP ts (E a)) : ∀ (f : Nat) (x : Ty) (a : Nat), a < ts.length → OkP ts (postA ts E f x a)
  | 0, _, _, h => bad_ok (.inr rfl) h
  | f + 1, x, a, h => by
    rw [postA]
    split
    · rename_i hs
      exact go_ok (hX _ (sees_next hE h hs)) fun _ _ h1 => go_ok (want_ok hE _ h1) fun _ _ h2 => post_ok hE hX f _ _ h2
    split
    · rename_i hs
      exact go_ok (name_ok hE (sees_next hE h hs)) fun _ _ h1 => post_ok hE hX f _ _ h1
    · exact h
end

theorem deep_ok (hE : EndsT ts) (f : Nat) : ∀ (n : Nat) (u : Bool) (d a : Nat), a < ts.length → OkP ts (deepA ts f n u d a)
  | 0, _, _, _, h => bad_ok (.inl rfl) h
  | n + 1, false, d, _, h => ite_ok (fun _ => bad_ok (.inl rfl) h) fun _ => expr_ok hE (fun a h => kind_ok hE f 101 (d + 1) a h) (fun a h => deep_ok hE f n false (d + 1) a h) (fun a h => deep_ok hE f n true (d + 1) a h) f h
  | n + 1, true, d, a, h => ite_ok (fun _ => bad_ok (.inl rfl) h) fun _ =>
    ite_ok (fun hs => go_ok (deep_ok hE f n true (d + 1) (a + 1) (sees_next hE h hs)) fun _ _ h1 => h1) fun _ =>
    ite_ok (fun hs => go_ok (deep_ok hE f n true (d + 1) (a + 1) (sees_next hE h hs)) fun _ _ h1 => h1) fun _ =>
    go_ok (atom_ok hE (fun a h => kind_ok hE f 101 (d + 1) a h) (fun a h => deep_ok hE f n false (d + 1) a h) f h) fun x b hb => post_ok hE (fun a h => deep_ok hE f n false (d + 1) a h) f x b hb

theorem var_ok (hE : EndsT ts) {K : Nat → Pr Ty} (hK : ∀ a, a < ts.length → OkP ts (K a)) {a : Nat} (h : a < ts.length) : OkP ts (varA ts K a) := by
  unfold varA
  refine go_ok (name_ok hE h) fun s b hb => ?_
  split
  · rename_i hs
    exact go_ok (hK _ (sees_next hE hb hs)) fun _ _ h1 => h1
  · exact hb

theorem vars_ok (hE : EndsT ts) {K : Nat → Pr Ty} (hK : ∀ a, a < ts.length → OkP ts (K a)) (f : Nat) {a : Nat} (h : a < ts.length) : OkP ts (varsA ts K f a) := by
  unfold varsA
  split
  · rename_i hs
    exact go_ok (many_ok hE (fun _ h => var_ok hE hK h) _ f _ (sees_next hE h hs)) fun _ _ h1 => go_ok (want_ok hE _ h1) fun _ _ h2 => h2
  · exact h

theorem imports_ok (hE : EndsT ts) : ∀ (f a : Nat), a < ts.length → OkP ts (importsA ts f a)
  | 0, _, h => bad_ok (.inr rfl) h
  | f + 1, a, h => by
    rw [importsA]
    split
    · rename_i hs
      exact go_ok (name_ok hE (sees_next hE h hs)) fun _ _ h1 => go_ok (want_ok hE _ h1) fun _ _ h2 => go_ok (many_ok hE (fun _ h => name_ok hE h) _ _ _ h2) fun _ _ h3 => go_ok (want_ok hE _ h3) fun _ _ h4 => go_ok (imports_ok hE f _ h4) fun _ _ h5 => h5
    · exact h

theorem decl_ok (hE : EndsT ts) {a : Nat} (h : a < ts.length) : OkP ts (declA ts a) := by
  unfold declA
  have h0 : (if seesA ts a [101, 120, 112, 111, 114, 116] = true then a + 1 else a) < ts.length := by
    split
    · rename_i hs; exact sees_next hE h hs
    · exact h
  exact go_ok (want_ok hE _ h0) fun _ _ h1 => go_ok (name_ok hE h1) fun _ _ h2 => go_ok (vars_ok hE (fun a h => kind_ok hE _ 101 0 a h) _ h2) fun _ _ h3 => go_ok (head_ok hE (fun a h => kind_ok hE _ 101 0 a h) h3) fun _ _ h4 => go_ok (want_ok hE _ h4) fun _ _ h5 => go_ok (deep_ok hE _ 101 false 0 _ h5) fun _ _ h6 => go_ok (want_ok hE _ h6) fun _ _ h7 => h7

theorem decls_ok (hE : EndsT ts) : ∀ (f a : Nat), a < ts.length → OkP ts (declsA ts f a)
  | 0, _, h => bad_ok (.inr rfl) h
  | f + 1, a, h => by
    rw [declsA]
    split
    · exact h
    · exact go_ok (decl_ok hE h) fun _ _ h1 => go_ok (decls_ok hE f _ h1) fun _ _ h2 => h2

theorem end_ok {r : Pr α} (h : OkP ts r) : OkP ts (endA ts r) := by
  unfold endA
  refine go_ok h fun x b hb => ?_
  split
  · exact hb
  · exact bad_ok (.inr rfl) hb

theorem module_ok (hE : EndsT ts) (h : 0 < ts.length) : OkP ts (endA ts (moduleA ts)) :=
  end_ok (go_ok (imports_ok hE _ 0 h) fun _ _ h1 => go_ok (decls_ok hE _ _ h1) fun _ _ h2 => h2)
end
end Go.Proofs.YthieoabbjekpkabGreatDoor

/- The program's parser in memory, and what its calls leave. -/
namespace Go.Proofs.YthieoabbjekpkabGreatDoor
open Go.RowKit

/-- The tokens lie in block tb. -/
def ToksC (w : World) (tb : Nat) (ts : List Tok) : Prop := ∀ a, a < ts.length →
  w.cell? ⟨tb, a * 4, none⟩ = some (.int .i64 (tkA ts a).kind) ∧ w.cell? ⟨tb, a * 4 + 1, none⟩ = some (.string ⟨(tkA ts a).text.toArray⟩) ∧
  w.cell? ⟨tb, a * 4 + 2, none⟩ = some (.int .i64 (tkA ts a).line) ∧ w.cell? ⟨tb, a * 4 + 3, none⟩ = some (.int .i64 (tkA ts a).col)

/-- What the parser leans on, of the tokens. -/
structure ToksOk (ts : List Tok) : Prop where
  ends : EndsT ts
  pos : 0 < ts.length
  len : ts.length ≤ 8193
  txt : ∀ a, (tkA ts a).text.length ≤ 70000
  wrd : ∀ a, a < ts.length → (tkA ts a).kind = 2 → (tkA ts a).text ≠ [58]

/-- The parser, in block pb: it stands at token a, d deep. -/
structure Ps (w : World) (pb tb cap : Nat) (ts : List Tok) (a d : Nat) : Prop where
  blk : w.heap[pb]? = some (.cells #[.slice (some ⟨tb, 0, none⟩) ts.length cap, .int .i64 a, .int .i64 d] 75)
  tlt : tb < pb
  toks : ToksC w tb ts
  lt : a < ts.length

/-- A reader of tokens, in block pb: it stands at token a. -/
structure RdA (w : World) (pb tb cap : Nat) (ts : List Tok) (a : Nat) : Prop where
  c0 : w.cell? ⟨pb, 0, none⟩ = some (.slice (some ⟨tb, 0, none⟩) ts.length cap)
  c1 : w.cell? ⟨pb, 1, none⟩ = some (.int .i64 a)
  ltp : pb < w.heap.size
  tlt : tb < w.heap.size
  toks : ToksC w tb ts
  lt : a < ts.length

/-- Of what there was the block pb alone may have changed. -/
structure Stay (pb : Nat) (w w' : World) : Prop where
  below : Below pb w w'
  keep : ∀ b, pb < b → b < w.heap.size → w'.heap[b]? = w.heap[b]?

abbrev tokV (t : Tok) : Value := .agg #[.int .i64 t.kind, .string ⟨t.text.toArray⟩, .int .i64 t.line, .int .i64 t.col]
abbrev diagV (li co e : Int) : Value := .agg #[.int .i64 0, .int .i64 li, .int .i64 co, .int .i64 e]
abbrev gaveUp (e : Int) (li co : Nat) : Ending := .panicked [{ v := .iface 30 (diagV li co e), recovered := false }]

/-- What a call leaves that reads r; what it made lies from the heap's end on. -/
def PPost {α : Type} (pb tb cap : Nat) (ts : List Tok) (d : Nat) (w : World) (rep : Nat → World → Value → α → Prop) (r : Pr α) (e : Ending) (w' : World) : Prop :=
  Stay pb w w' ∧ match r with
  | .inl (x, b) => Ps w' pb tb cap ts b d ∧ ∃ v, e = .returned v ∧ rep w.heap.size w' v x
  | .inr (er, li, co) => e = gaveUp er li co

theorem size_set (w : World) (a : Addr) (u : Value) : (w.setCell a u).heap.size = w.heap.size := by simp [World.setCell]
theorem heap_set_alloc (w : World) (a : Addr) (u : Value) (o : Obj) : ((w.setCell a u).alloc o).heap[w.heap.size]? = some o := by
  have := heap_alloc_last (w.setCell a u) o
  rw [size_set] at this
  exact this

section
variable {w w1 w2 : World} {pb tb cap a d : Nat} {ts : List Tok}
theorem Stay.refl (pb : Nat) (w : World) : Stay pb w w := ⟨Below.refl _ _, fun _ _ _ => rfl⟩
theorem Stay.trans (h : Stay pb w w1) (k : Stay pb w1 w2) : Stay pb w w2 := ⟨h.below.trans k.below, fun b hb hl => (k.keep b hb (Nat.lt_of_lt_of_le hl h.below.size)).trans (h.keep b hb hl)⟩
theorem Stay.of (hp : pb < w.heap.size) (h : Below w.heap.size w w1) : Stay pb w w1 := ⟨h.mono (Nat.le_of_lt hp), fun b _ hl => h.block b hl⟩
theorem Stay.set (h : Stay pb w w1) (o : Nat) (u : Value) : Stay pb w (w1.setCell ⟨pb, o, none⟩ u) := ⟨h.below.setCell (Nat.le_refl _) _, fun b hb hl => (Below.heap_setCell _ _ _ _ (by show b ≠ pb; omega)).trans (h.keep b hb hl)⟩
theorem Stay.drewN (h : Stay pb w w1) (n : Nat) : Stay pb w (w1.drewN n) := ⟨⟨h.below.os, h.below.tape, h.below.output, h.below.size, h.below.block⟩, h.keep⟩
theorem Stay.drew (h : Stay pb w w1) : Stay pb w w1.drew := ⟨h.below.drew, h.keep⟩
theorem Stay.alloc (h : Stay pb w w1) (hp : pb < w.heap.size) (o : Obj) : Stay pb w (w1.alloc o) := ⟨h.below.alloc (by have := h.below.size; omega) _, fun b hb hl => (Below.heap_alloc _ _ _ (Nat.lt_of_lt_of_le hl h.below.size)).trans (h.keep b hb hl)⟩
theorem Stay.own (h : Stay pb w w1) {b : Nat} (hp : pb < w.heap.size) (hb : w.heap.size ≤ b) (o : Nat) (u : Value) : Stay pb w (w1.setCell ⟨b, o, none⟩ u) := ⟨h.below.setCell (by show pb ≤ b; omega) _, fun c _ hl => (Below.heap_setCell _ _ _ _ (by show c ≠ b; omega)).trans (h.keep c ‹_› hl)⟩
theorem Stay.undrew (h : Stay pb w.drew w1) : Stay pb w w1 := ⟨⟨h.below.os, h.below.tape, h.below.output, h.below.size, h.below.block⟩, h.keep⟩
theorem Stay.size (h : Stay pb w w1) : w.heap.size ≤ w1.heap.size := h.below.size

theorem Ps.ltp (h : Ps w pb tb cap ts a d) : pb < w.heap.size := lt_of_block h.blk
theorem Ps.cells (h : Ps w pb tb cap ts a d) : w.cell? ⟨pb, 0, none⟩ = some (.slice (some ⟨tb, 0, none⟩) ts.length cap) ∧ w.cell? ⟨pb, 1, none⟩ = some (.int .i64 a) ∧ w.cell? ⟨pb, 2, none⟩ = some (.int .i64 d) := by
  refine ⟨?_, ?_, ?_⟩ <;> (rw [cell_of_row _ _ _ _ _ _ h.blk]; rfl)
theorem Ps.fz (h : Ps w pb tb cap ts a d) (o : Nat) : w.frozen? ⟨pb, o, none⟩ = false := by simp [World.frozen?, h.blk]
theorem toksC_keep (h : ToksC w tb ts) (hk : w1.heap[tb]? = w.heap[tb]?) : ToksC w1 tb ts := fun i hi => by
  have hc : ∀ j, w1.cell? ⟨tb, j, none⟩ = w.cell? ⟨tb, j, none⟩ := fun j => World.cell?_of_block (w := w) (a := ⟨tb, j, none⟩) hk
  obtain ⟨q0, q1, q2, q3⟩ := h i hi
  exact ⟨(hc _).trans q0, (hc _).trans q1, (hc _).trans q2, (hc _).trans q3⟩
/-- Where its own block stays, it stays. -/
theorem Ps.below (h : Ps w pb tb cap ts a d) (hb : Below w.heap.size w w1) : Ps w1 pb tb cap ts a d :=
  ⟨(hb.block _ h.ltp).trans h.blk, h.tlt, toksC_keep h.toks (hb.block _ (Nat.lt_trans h.tlt h.ltp)), h.lt⟩
theorem Ps.alloc (h : Ps w pb tb cap ts a d) (o : Obj) : Ps (w.alloc o) pb tb cap ts a d := h.below (bl_alloc _ _)
theorem Ps.drew (h : Ps w pb tb cap ts a d) : Ps w.drew pb tb cap ts a d := h.below (Below.refl _ _).drew
theorem Ps.drewN (h : Ps w pb tb cap ts a d) (n : Nat) : Ps (w.drewN n) pb tb cap ts a d := ⟨h.blk, h.tlt, h.toks, h.lt⟩
theorem Ps.other (h : Ps w pb tb cap ts a d) {b : Nat} (hb : pb < b) (o : Nat) (u : Value) : Ps (w.setCell ⟨b, o, none⟩ u) pb tb cap ts a d :=
  ⟨(Below.heap_setCell _ _ _ _ (by show pb ≠ b; omega)).trans h.blk, h.tlt, toksC_keep h.toks (Below.heap_setCell _ _ _ _ (by show tb ≠ b; have := h.tlt; omega)), h.lt⟩
theorem Ps.setAt (h : Ps w pb tb cap ts a d) {b : Nat} (hb : b < ts.length) : Ps (w.setCell ⟨pb, 1, none⟩ (.int .i64 b)) pb tb cap ts b d :=
  ⟨cells_setCell h.blk, h.tlt, toksC_keep h.toks (Below.heap_setCell _ _ _ _ (by show tb ≠ pb; have := h.tlt; omega)), hb⟩
theorem Ps.setDeep (h : Ps w pb tb cap ts a d) (b : Nat) : Ps (w.setCell ⟨pb, 2, none⟩ (.int .i64 b)) pb tb cap ts a b :=
  ⟨cells_setCell h.blk, h.tlt, toksC_keep h.toks (Below.heap_setCell _ _ _ _ (by show tb ≠ pb; have := h.tlt; omega)), h.lt⟩
theorem Ps.rd (h : Ps w pb tb cap ts a d) : RdA w pb tb cap ts a := ⟨h.cells.1, h.cells.2.1, h.ltp, Nat.lt_trans h.tlt h.ltp, h.toks, h.lt⟩
theorem RdA.below (h : RdA w pb tb cap ts a) (hb : Below w.heap.size w w1) : RdA w1 pb tb cap ts a :=
  ⟨(hb.cell (p := ⟨pb, 0, none⟩) h.ltp).trans h.c0, (hb.cell (p := ⟨pb, 1, none⟩) h.ltp).trans h.c1, Nat.lt_of_lt_of_le h.ltp hb.size, Nat.lt_of_lt_of_le h.tlt hb.size, toksC_keep h.toks (hb.block _ h.tlt), h.lt⟩
theorem Ps.tok (h : Ps w pb tb cap ts a d) : w.cell? ⟨tb, a * 4, none⟩ = some (.int .i64 (tkA ts a).kind) ∧ w.cell? ⟨tb, a * 4 + 1, none⟩ = some (.string ⟨(tkA ts a).text.toArray⟩) ∧
  w.cell? ⟨tb, a * 4 + 2, none⟩ = some (.int .i64 (tkA ts a).line) ∧ w.cell? ⟨tb, a * 4 + 3, none⟩ = some (.int .i64 (tkA ts a).col) := h.toks a h.lt
end
end Go.Proofs.YthieoabbjekpkabGreatDoor

/- The reader of tokens: peek, pass, wrong, which, is. -/
namespace Go.Proofs.YthieoabbjekpkabGreatDoor
open Go.RowKit

set_option maxHeartbeats 2000000 in
theorem peek_r (pb tb cap a : Nat) (ts : List Tok) (w : World) (h : RdA w pb tb cap ts a) :
    Calls Tryz.prog 54 #[.pointer (some ⟨pb, 0, none⟩)] w fun e w' => e = .returned (tokV (tkA ts a)) ∧ Below w.heap.size w w' := by
  have c0 := h.c0
  have c1 := h.c1
  obtain ⟨t0, t1, t2, t3⟩ := h.toks a h.lt
  have hlt : (a : Int) < (ts.length : Int) := by have := h.lt; omega
  generalize tkA ts a = t at t0 t1 t2 t3 ⊢
  have hp := h.ltp
  have htb : tb < w.heap.size := h.tlt
  clear h
  go_enter Tryz.func54, Tryz.ntmps54
  go_wp2
  go_region
  all_goals
    go_wp2
    refine bodyPost_ret (results_cell_row rfl _ _ w.heap.size 101 #[.int .i64 t.kind, .string ⟨t.text.toArray⟩, .int .i64 t.line, .int .i64 t.col] (0, 0) _ rfl (heap_alloc_last w _) Tryz.underlying101 rfl (by kernel_rfl)) rfl ⟨rfl, ?_⟩
    exact (bl_alloc _ _).drew

theorem peek_c (pb tb cap a d : Nat) (ts : List Tok) (w : World) (h : Ps w pb tb cap ts a d) :
    Calls Tryz.prog 54 #[.pointer (some ⟨pb, 0, none⟩)] w fun e w' => e = .returned (tokV (tkA ts a)) ∧ Below w.heap.size w w' := peek_r pb tb cap a ts w h.rd

abbrev zTok : Obj := .cells #[.int .i64 0, .string ⟨#[]⟩, .int .i64 0, .int .i64 0] 101

set_option maxHeartbeats 2000000 in
theorem pass_c (pb tb cap a d : Nat) (ts : List Tok) (w : World) (h : Ps w pb tb cap ts a d) (hb : a + 1 < ts.length) (hts : ts.length ≤ 8193) :
    Calls Tryz.prog 113 #[.pointer (some ⟨pb, 0, none⟩)] w fun e w' => e = .returned (tokV (tkA ts a)) ∧ Stay pb w w' ∧ Ps w' pb tb cap ts (a + 1) d := by
  have H := hideP h
  clear h
  go_enter Tryz.func113, Tryz.ntmps113
  go_wp2_with fail
  refine (peek_c pb tb cap a d ts _ (H.out.below (bl_alloc _ _))).mono ?_
  rintro e w1 ⟨rfl, hb1⟩
  have P1 := hideP (H.out.below (below_next (bl_alloc _ _) hb1))
  have HB1 := hideP (below_next (bl_alloc _ _) hb1)
  have hr : w1.heap[w.heap.size]? = some zTok := (hb1.block _ (by simp)).trans (heap_alloc_last w _)
  obtain ⟨⟨r0, r1, r2, r3⟩, ⟨f0, f1, f2, f3⟩, hr1⟩ := res_facts hr
  have HR := hideP hr
  obtain ⟨c0, c1, c2⟩ := P1.out.cells
  have z1 := P1.out.fz 1
  have hp1 := P1.out.ltp
  have hpw : ¬ pb = w.heap.size := by have := H.out.ltp; omega
  have hpw' : ¬ w.heap.size = pb := by have := H.out.ltp; omega
  clear hb1 hr
  go_wp2_with fail
  have e1 : ((a : Int) + 1) = ((a + 1 : Nat) : Int) := by omega
  rw [e1]
  refine bodyPost_ret (results_cell_row rfl _ _ w.heap.size 101 #[.int .i64 (tkA ts a).kind, .string ⟨(tkA ts a).text.toArray⟩, .int .i64 (tkA ts a).line, .int .i64 (tkA ts a).col] (0, 0) _ rfl ?_ Tryz.underlying101 rfl (by kernel_rfl)) rfl ⟨rfl, ?_, ?_⟩
  · rw [Below.heap_alloc _ _ _ (by simpa [World.setCell] using hr1)]
    exact set4 ((Below.heap_setCell _ _ _ _ hpw').trans HR.out) _ _ _ _
  · have hp := H.out.ltp
    exact (((((((Stay.of hp HB1.out).set 1 _).own hp (Nat.le_refl _) 0 _).own hp (Nat.le_refl _) 1 _).own hp (Nat.le_refl _) 2 _).own hp (Nat.le_refl _) 3 _).alloc hp _)
  · have hp := H.out.ltp
    exact ((((((P1.out.setAt hb).other hp 0 _).other hp 1 _).other hp 2 _).other hp 3 _).alloc _)
end Go.Proofs.YthieoabbjekpkabGreatDoor

/- The reader of tokens: wrong, slices.Index of strings. -/
namespace Go.Proofs.YthieoabbjekpkabGreatDoor
open Go.RowKit

set_option maxHeartbeats 2000000 in
theorem wrong_c (pb tb cap a d : Nat) (ts : List Tok) (w : World) (h : Ps w pb tb cap ts a d) (x : Int) :
    Calls Tryz.prog 55 #[.pointer (some ⟨pb, 0, none⟩), .int .i64 x] w fun e w' => e = .returned (diagV (tkA ts a).line (tkA ts a).col x) ∧ Below w.heap.size w w' := by
  have H := hideP h
  clear h
  go_enter Tryz.func55, Tryz.ntmps55
  go_wp2_with fail
  refine (peek_c pb tb cap a d ts _ (H.out.below (bl_alloc _ _))).mono ?_
  rintro e w1 ⟨rfl, hb1⟩
  have HB1 := hideP (below_next (bl_alloc _ _) hb1)
  have hr := (hb1.block w.heap.size (by simp)).trans (heap_alloc_last w _)
  obtain ⟨⟨r0, r1, r2, r3⟩, ⟨f0, f1, f2, f3⟩, hr1⟩ := res_facts hr
  have HR := hideP hr
  clear hb1 hr
  go_wp2_with fail
  refine bodyPost_ret (results_cell_row rfl _ _ w.heap.size 30 #[.int .i64 0, .int .i64 (tkA ts a).line, .int .i64 (tkA ts a).col, .int .i64 x] (0, 0) _ rfl ?_ Tryz.underlying30 rfl (by kernel_rfl)) rfl ⟨rfl, ?_⟩
  · rw [Below.heap_alloc _ _ _ (by simpa [World.setCell] using hr1)]
    exact set4 HR.out _ _ _ _
  · exact (below_set4 HB1.out (Nat.le_refl _) _ _ _ _).alloc (by simp [World.setCell]; omega) _

/-- Which of these texts comes first that is s; -1: none. -/
def idxV (L : List (List UInt8)) (s : List UInt8) : Int := match L.findIdx? (· == s) with
  | some i => i
  | none => -1

theorem idx_some {L : List (List UInt8)} {s : List UInt8} {j : Nat} (hj : j < L.length) (h : (L[j] == s) = true) (hno : ∀ m (hm : m < L.length), m < j → (L[m] == s) = false) : idxV L s = j := by
  have : L.findIdx? (· == s) = some j := List.findIdx?_eq_some_iff_getElem.2 ⟨hj, h, fun m hm => by rw [hno m (by omega) hm]; simp⟩
  rw [idxV, this]

theorem idx_none {L : List (List UInt8)} {s : List UInt8} (hno : ∀ m (hm : m < L.length), (L[m] == s) = false) : idxV L s = -1 := by
  have : L.findIdx? (· == s) = none := List.findIdx?_eq_none_iff.2 fun x hx => by
    obtain ⟨m, hm, rfl⟩ := List.mem_iff_getElem.1 hx
    exact hno m hm
  rw [idxV, this]

set_option maxHeartbeats 2000000 in
theorem index_c (xb cap : Nat) (L : List (List UInt8)) (s : List UInt8) (w : World) (hL : ∀ i (h : i < L.length), w.cell? ⟨xb, i, none⟩ = some (.string ⟨L[i].toArray⟩)) (hl : L.length ≤ 100) :
    Calls Tryz.prog 114 #[.slice (some ⟨xb, 0, none⟩) L.length cap, .string ⟨s.toArray⟩] w fun e w' => e = .returned (.int .i64 (idxV L s)) ∧ ∃ q, w' = w.drewN q := by
  have HL := hideP hL
  clear hL
  go_enter Tryz.func114, Tryz.ntmps114
  go_wp2_with fail
  go_loopw [5, 8] (fun _ i wx => ∃ j q : Nat, i = .int .i64 j ∧ j ≤ L.length ∧ wx = w.drewN q ∧ Hid (∀ m (hm : m < L.length), m < j → (L[m] == s) = false)) (fun _ i _ => L.length - (intOf i).toNat)
  case atStart => exact ⟨0, 0, rfl, Nat.zero_le _, rfl, fun _ _ h => absurd h (Nat.not_lt_zero _)⟩
  case round =>
    obtain ⟨j, q, rfl, hj, rfl, hno⟩ := hrel
    by_cases hlt : j < L.length
    · have hjl : (j : Int) < (L.length : Int) := by omega
      have hc := HL.out j hlt
      obtain ⟨S1, hS1⟩ : ∃ S1 : ByteArray, S1 = ⟨L[j].toArray⟩ := ⟨_, rfl⟩
      obtain ⟨S0, hS0⟩ : ∃ S0 : ByteArray, S0 = ⟨s.toArray⟩ := ⟨_, rfl⟩
      rw [← hS1] at hc
      rw [← hS0]
      cases he : (L[j] == s) with
      | true =>
        have e5 : (S0.toList == S1.toList) = true := str_eq.2 (by rw [hS1, hS0, beq_iff_eq.1 he])
        have HE := hideP he
        have HS := hideP (And.intro hS1 hS0)
        clear he hS1 hS0
        go_wp2_with fail
        go_ret
        refine ⟨?_, q, rfl⟩
        exact congrArg (fun x => Ending.returned (.int .i64 x)) (idx_some hlt HE.out hno.out).symm
      | false =>
        have e5 : (S0.toList == S1.toList) = false := by
          rw [hS1, hS0, ByteArray.toList_eq, ByteArray.toList_eq, beq_eq_false_iff_ne]
          exact fun e => beq_eq_false_iff_ne.1 he (by simpa using e.symm)
        have HE := hideP he
        have HS := hideP (And.intro hS1 hS0)
        clear he hS1 hS0
        go_wp2_with fail
        refine ⟨⟨j + 1, _, by go_num, by omega, rfl, ?_⟩, by simp [intOf]; omega⟩
        intro m hm hlm
        by_cases hmj : m = j
        · subst hmj; exact HE.out
        · exact hno.out m hm (by omega)
    · have hjl : ¬ (j : Int) < (L.length : Int) := by omega
      go_wp2_with fail
      go_ret
      refine ⟨?_, q, rfl⟩
      exact congrArg (fun x => Ending.returned (.int .i64 x)) (idx_none fun m hm => hno.out m hm (by omega)).symm
end Go.Proofs.YthieoabbjekpkabGreatDoor

/- The reader of tokens: which, is. -/
namespace Go.Proofs.YthieoabbjekpkabGreatDoor
open Go.RowKit

theorem tok_field0 (a b c d : Value) (w : World) : (Instr.field 101 (.agg #[a, b, c, d]) 0).run Tryz.prog w = .ok a w := by simp [Instr.field, go_sem, asAgg]
theorem tok_field1 (a b c d : Value) (w : World) : (Instr.field 101 (.agg #[a, b, c, d]) 1).run Tryz.prog w = .ok b w := by simp [Instr.field, go_sem, asAgg]

/-- Which of these words and signs the token is; -1: none. -/
def whichV (t : Tok) (L : List (List UInt8)) : Int := if t.kind = 2 ∨ t.kind = 5 then idxV L t.text else -1

/-- Texts that lie in block xb, from the beginning on. -/
def TextsC (w : World) (xb : Nat) (L : List (List UInt8)) : Prop := xb < w.heap.size ∧ ∀ i (h : i < L.length), w.cell? ⟨xb, i, none⟩ = some (.string ⟨L[i].toArray⟩)

theorem TextsC.below {w w1 : World} {xb : Nat} {L : List (List UInt8)} (h : TextsC w xb L) (hb : Below w.heap.size w w1) : TextsC w1 xb L :=
  ⟨Nat.lt_of_lt_of_le h.1 hb.size, fun i hi => (hb.cell (p := ⟨xb, i, none⟩) h.1).trans (h.2 i hi)⟩

theorem which_kind (xb xc : Nat) (t : Tok) (L : List (List UInt8)) (pb : Nat) (w : World) (hpk : Calls Tryz.prog 54 #[.pointer (some ⟨pb, 0, none⟩)] w fun e w' => e = .returned (tokV t) ∧ Below w.heap.size w w') (hL : TextsC w xb L) (hl : L.length ≤ 100) :
    Calls Tryz.prog 78 #[.pointer (some ⟨pb, 0, none⟩), .slice (some ⟨xb, 0, none⟩) L.length xc] w fun e w' => e = .returned (.int .i64 (whichV t L)) ∧ Below w.heap.size w w' := by
  have H := hideP hpk
  have HL := hideP hL
  clear hpk hL
  obtain ⟨k, x, li, co⟩ := t
  have HT := hideP (fun w1 (hb1 : Below w.heap.size w w1) => index_c xb xc L x w1 (HL.out.below hb1).2 hl)
  by_cases h2 : k = 2
  · have n2 : (k != 2) = false := by simp [h2]
    have HW : Hid (whichV ⟨k, x, li, co⟩ L = idxV L x) := by rw [whichV, if_pos (.inl h2)]; exact rfl
    clear h2
    go_enter Tryz.func78, Tryz.ntmps78
    go_wp2_with fail
    refine H.out.mono ?_
    rintro e w1 ⟨rfl, hb1⟩
    have HB1 := hideP hb1
    clear hb1
    go_wp2_with fail
    refine (HT.out _ (by first | exact below_next HB1.out (bl_alloc _ _) | skip)).mono ?_
    rintro e w2 ⟨rfl, q, rfl⟩
    go_wp2_with fail
    go_ret
    refine ⟨by rw [HW.out]; rfl, ?_⟩
    exact below_drewN (below_next HB1.out (bl_alloc _ _)) _
  · by_cases h5 : k = 5
    · have n2 : (k != 2) = true := by simp [h2]
      have n5 : (k != 5) = false := by simp [h5]
      have HW : Hid (whichV ⟨k, x, li, co⟩ L = idxV L x) := by rw [whichV, if_pos (.inr h5)]; exact rfl
      clear h2 h5
      go_enter Tryz.func78, Tryz.ntmps78
      go_wp2_with fail
      refine H.out.mono ?_
      rintro e w1 ⟨rfl, hb1⟩
      have HB1 := hideP hb1
      clear hb1
      go_wp2_with fail
      refine (HT.out _ (by first | exact below_next HB1.out (bl_alloc _ _) | skip)).mono ?_
      rintro e w2 ⟨rfl, q, rfl⟩
      go_wp2_with fail
      go_ret
      refine ⟨by rw [HW.out]; rfl, ?_⟩
      exact below_drewN (below_next HB1.out (bl_alloc _ _)) _
    · have n2 : (k != 2) = true := by simp [h2]
      have n5 : (k != 5) = true := by simp [h5]
      have HW : Hid (whichV ⟨k, x, li, co⟩ L = -1) := by rw [whichV, if_neg (by rintro (h | h); exact h2 h; exact h5 h)]; exact rfl
      clear h2 h5
      go_enter Tryz.func78, Tryz.ntmps78
      go_wp2_with fail
      refine H.out.mono ?_
      rintro e w1 ⟨rfl, hb1⟩
      have HB1 := hideP hb1
      clear hb1
      go_wp2_with fail
      go_ret
      refine ⟨by rw [HW.out]; rfl, ?_⟩
      exact below_next HB1.out (bl_alloc _ _)

theorem which_r (pb tb cap a xb xc : Nat) (ts : List Tok) (L : List (List UInt8)) (w : World) (h : RdA w pb tb cap ts a) (hL : TextsC w xb L) (hl : L.length ≤ 100) :
    Calls Tryz.prog 78 #[.pointer (some ⟨pb, 0, none⟩), .slice (some ⟨xb, 0, none⟩) L.length xc] w fun e w' => e = .returned (.int .i64 (whichV (tkA ts a) L)) ∧ Below w.heap.size w w' :=
  which_kind xb xc _ L pb w (peek_r pb tb cap a ts w h) hL hl

theorem which_any (ts : List Tok) (a : Nat) (L : List (List UInt8)) : decide (0 ≤ whichV (tkA ts a) L) = L.any fun s => seesA ts a s := by
  unfold whichV seesA
  by_cases hk : (tkA ts a).kind = 2 ∨ (tkA ts a).kind = 5
  · rw [if_pos hk]
    have hk' : ((tkA ts a).kind == 2 || (tkA ts a).kind == 5) = true := by rcases hk with h | h <;> simp [h]
    simp only [hk', Bool.true_and]
    cases he : L.any fun s => (tkA ts a).text == s with
    | true =>
      obtain ⟨s, hs, h2⟩ := List.any_eq_true.1 he
      have : (L.findIdx? (· == (tkA ts a).text)).isSome = true := by
        rw [List.findIdx?_isSome, List.any_eq_true]
        exact ⟨s, hs, by rw [beq_iff_eq.1 h2]; simp⟩
      obtain ⟨i, hi⟩ := Option.isSome_iff_exists.1 this
      rw [idxV, hi]
      simp
    | false =>
      have : L.findIdx? (· == (tkA ts a).text) = none := List.findIdx?_eq_none_iff.2 fun x hx => by
        have := List.any_eq_false.1 he x hx
        exact beq_eq_false_iff_ne.2 fun e => this (by rw [e]; simp)
      rw [idxV, this]
      simp
  · rw [if_neg hk]
    have hk' : ((tkA ts a).kind == 2 || (tkA ts a).kind == 5) = false := by simpa using hk
    simp [hk']

set_option maxHeartbeats 2000000 in
theorem is_r (pb tb cap a xb xc : Nat) (ts : List Tok) (L : List (List UInt8)) (w : World) (h : RdA w pb tb cap ts a) (hL : TextsC w xb L) (hl : L.length ≤ 100) :
    Calls Tryz.prog 47 #[.pointer (some ⟨pb, 0, none⟩), .slice (some ⟨xb, 0, none⟩) L.length xc] w fun e w' => e = .returned (.bool (L.any fun s => seesA ts a s)) ∧ Below w.heap.size w w' := by
  have HC := hideP (which_r pb tb cap a xb xc ts L w h hL hl)
  clear h hL
  go_enter Tryz.func47, Tryz.ntmps47
  go_wp2_with fail
  refine HC.out.mono ?_
  rintro e w1 ⟨rfl, hb1⟩
  go_wp2_with fail
  go_ret
  exact ⟨congrArg (fun b => Ending.returned (.bool b)) (which_any ts a L), hb1⟩

/-- Texts in a row that was just made. -/
theorem texts_new (w : World) (L : List (List UInt8)) (t : TypeId) (xb : Nat) (hx : xb = w.heap.size) : TextsC (w.alloc (.cells (L.map fun s => Value.string ⟨s.toArray⟩).toArray t)) xb L := by
  subst hx
  refine ⟨by simp, fun i hi => ?_⟩
  rw [cell_of_row _ _ _ _ _ _ (heap_alloc_last w _)]
  simp [hi]

/-- is, of texts in a row that was just made. -/
theorem is_new (pb tb cap a xb xc : Nat) (ts : List Tok) (L : List (List UInt8)) (w : World) (t : TypeId) (h : RdA w pb tb cap ts a) (hx : xb = w.heap.size) (hl : L.length ≤ 100) :
    Calls Tryz.prog 47 #[.pointer (some ⟨pb, 0, none⟩), .slice (some ⟨xb, 0, none⟩) L.length xc] (w.alloc (.cells (L.map fun s => Value.string ⟨s.toArray⟩).toArray t)) fun e w' => e = .returned (.bool (L.any fun s => seesA ts a s)) ∧ Below w.heap.size w w' :=
  (is_r pb tb cap a xb xc ts L _ (h.below (bl_alloc _ _)) (texts_new w L t xb hx) hl).mono fun _ _ ⟨h1, h2⟩ => ⟨h1, below_next (bl_alloc _ _) h2⟩

theorem which_new (pb tb cap a xb xc : Nat) (ts : List Tok) (L : List (List UInt8)) (w : World) (t : TypeId) (h : RdA w pb tb cap ts a) (hx : xb = w.heap.size) (hl : L.length ≤ 100) :
    Calls Tryz.prog 78 #[.pointer (some ⟨pb, 0, none⟩), .slice (some ⟨xb, 0, none⟩) L.length xc] (w.alloc (.cells (L.map fun s => Value.string ⟨s.toArray⟩).toArray t)) fun e w' => e = .returned (.int .i64 (whichV (tkA ts a) L)) ∧ Below w.heap.size w w' :=
  (which_r pb tb cap a xb xc ts L _ (h.below (bl_alloc _ _)) (texts_new w L t xb hx) hl).mono fun _ _ ⟨h1, h2⟩ => ⟨h1, below_next (bl_alloc _ _) h2⟩
end Go.Proofs.YthieoabbjekpkabGreatDoor

/- The reader of tokens: take, must, name, end, goesOn, beginsField. -/
namespace Go.Proofs.YthieoabbjekpkabGreatDoor
open Go.RowKit

theorem any_one (ts : List Tok) (a : Nat) (s : List UInt8) : ([s].any fun s => seesA ts a s) = seesA ts a s := by simp

set_option maxRecDepth 100000 in
set_option maxHeartbeats 2000000 in
theorem take_c (pb tb cap a d : Nat) (ts : List Tok) (s : List UInt8) (w : World) (h : Ps w pb tb cap ts a d) (ok : ToksOk ts) :
    Calls Tryz.prog 77 #[.pointer (some ⟨pb, 0, none⟩), .string ⟨s.toArray⟩] w fun e w' => e = .returned (.bool (seesA ts a s)) ∧ Stay pb w w' ∧ Ps w' pb tb cap ts (if seesA ts a s then a + 1 else a) d := by
  have H := hideP h
  have OK := hideP ok
  clear h ok
  cases hs : seesA ts a s with
  | true =>
    have HS := hideP hs
    rw [if_pos rfl]
    clear hs
    go_enter Tryz.func77, Tryz.ntmps77
    go_wp2_with fail
    refine (is_new pb tb cap a _ 1 ts [s] w _ H.out.rd rfl (by simp)).mono ?_
    rw [any_one, HS.out]
    rintro e w1 ⟨rfl, hb1⟩
    have P1 := hideP (H.out.below hb1)
    have HB1 := hideP hb1
    clear hb1
    go_wp2_with fail
    refine (pass_c pb tb cap a d ts _ P1.out (sees_next OK.out.ends H.out.lt HS.out) OK.out.len).mono ?_
    rintro e w2 ⟨rfl, hst, hps⟩
    have HP := hideP hps
    have HST := hideP hst
    clear hst hps
    go_wp2_with fail
    go_ret
    exact ⟨rfl, (Stay.of H.out.ltp HB1.out).trans HST.out, HP.out⟩
  | false =>
    have HS := hideP hs
    rw [if_neg (by simp)]
    clear hs
    go_enter Tryz.func77, Tryz.ntmps77
    go_wp2_with fail
    refine (is_new pb tb cap a _ 1 ts [s] w _ H.out.rd rfl (by simp)).mono ?_
    rw [any_one, HS.out]
    rintro e w1 ⟨rfl, hb1⟩
    have P1 := hideP (H.out.below hb1)
    have HB1 := hideP hb1
    clear hb1
    go_wp2_with fail
    go_ret
    exact ⟨rfl, Stay.of H.out.ltp HB1.out, P1.out⟩

abbrev gaveWith (t : Tok) (e : Int) : Ending := .returned (diagV t.line t.col e)

/-- A token in the result's box. -/
theorem tok_box {w w2 : World} {T : Tok} {x0 x1 x2 x3 : Value} (h : w2.heap[w.heap.size]? = some (.cells #[x0, x1, x2, x3] 101)) :
    ((((w2.setCell ⟨w.heap.size, 0, none⟩ (.int .i64 T.kind)).setCell ⟨w.heap.size, 1, none⟩ (.string ⟨T.text.toArray⟩)).setCell ⟨w.heap.size, 2, none⟩ (.int .i64 T.line)).setCell ⟨w.heap.size, 3, none⟩ (.int .i64 T.col)).heap[w.heap.size]? = some (.cells #[.int .i64 T.kind, .string ⟨T.text.toArray⟩, .int .i64 T.line, .int .i64 T.col] 101) := set4 h _ _ _ _

theorem stay_set4 {w w2 : World} {pb b : Nat} (h : Stay pb w w2) (hp : pb < w.heap.size) (hb : w.heap.size ≤ b) (x0 x1 x2 x3 : Value) : Stay pb w ((((w2.setCell ⟨b, 0, none⟩ x0).setCell ⟨b, 1, none⟩ x1).setCell ⟨b, 2, none⟩ x2).setCell ⟨b, 3, none⟩ x3) :=
  (((h.own hp hb 0 _).own hp hb 1 _).own hp hb 2 _).own hp hb 3 _

theorem ps_set4 {w : World} {pb tb cap a d b : Nat} {ts : List Tok} (h : Ps w pb tb cap ts a d) (hb : pb < b) (x0 x1 x2 x3 : Value) : Ps ((((w.setCell ⟨b, 0, none⟩ x0).setCell ⟨b, 1, none⟩ x1).setCell ⟨b, 2, none⟩ x2).setCell ⟨b, 3, none⟩ x3) pb tb cap ts a d :=
  (((h.other hb 0 _).other hb 1 _).other hb 2 _).other hb 3 _

set_option maxRecDepth 100000 in
set_option maxHeartbeats 2000000 in
theorem must_c (pb tb cap a d : Nat) (ts : List Tok) (s : List UInt8) (w : World) (h : Ps w pb tb cap ts a d) (ok : ToksOk ts) :
    Calls Tryz.prog 79 #[.pointer (some ⟨pb, 0, none⟩), .string ⟨s.toArray⟩] w (PPost pb tb cap ts d w (fun _ _ v _ => v = tokV (tkA ts a)) (wantA ts a s)) := by
  have H := hideP h
  have OK := hideP ok
  clear h ok
  unfold wantA
  cases hs : seesA ts a s with
  | true =>
    have HS := hideP hs
    rw [if_pos rfl]
    clear hs
    go_enter Tryz.func79, Tryz.ntmps79
    go_wp2_with fail
    refine (is_new pb tb cap a _ 1 ts [s] (w.alloc _) _ (H.out.alloc _).rd (by simp) (by simp)).mono ?_
    rw [any_one, HS.out]
    rintro e w1 ⟨rfl, hb1⟩
    have P1 := hideP ((H.out.alloc _).below hb1)
    have HB1 := hideP (below_next (bl_alloc _ _) hb1)
    have HR := hideP ((hb1.block w.heap.size (by simp)).trans (heap_alloc_last w _))
    clear hb1
    go_wp2_with fail
    refine (pass_c pb tb cap a d ts _ P1.out (sees_next OK.out.ends H.out.lt HS.out) OK.out.len).mono ?_
    rintro e w2 ⟨rfl, hst, hps⟩
    have hr := (hst.keep _ H.out.ltp (lt_of_block HR.out)).trans HR.out
    obtain ⟨⟨r0, r1, r2, r3⟩, ⟨f0, f1, f2, f3⟩, hr1⟩ := res_facts hr
    have HR2 := hideP hr
    have HP := hideP hps
    have HST := hideP ((Stay.of H.out.ltp HB1.out).trans hst)
    clear hst hps hr
    go_wp2_with fail
    refine bodyPost_ret (results_cell_row rfl _ _ w.heap.size 101 _ (0, 0) _ rfl (tok_box HR2.out) Tryz.underlying101 rfl (by kernel_rfl)) rfl ⟨?_, ?_, _, rfl, rfl⟩
    · exact stay_set4 HST.out H.out.ltp (Nat.le_refl _) _ _ _ _
    · exact ps_set4 HP.out H.out.ltp _ _ _ _
  | false =>
    have HS := hideP hs
    rw [if_neg (by simp)]
    clear hs
    go_enter Tryz.func79, Tryz.ntmps79
    go_wp2_with fail
    refine (is_new pb tb cap a _ 1 ts [s] (w.alloc _) _ (H.out.alloc _).rd (by simp) (by simp)).mono ?_
    rw [any_one, HS.out]
    rintro e w1 ⟨rfl, hb1⟩
    have P1 := hideP ((H.out.alloc _).below hb1)
    have HB1 := hideP (below_next (bl_alloc _ _) hb1)
    clear hb1
    go_wp2_with fail
    refine (wrong_c pb tb cap a d ts _ P1.out 7).mono ?_
    rintro e w2 ⟨rfl, hb2⟩
    have HB2 := hideP (below_next HB1.out hb2)
    clear hb2
    go_wp2_with fail
    exact ⟨rfl, Stay.of H.out.ltp HB2.out, rfl⟩

set_option maxRecDepth 100000 in
set_option maxHeartbeats 2000000 in
theorem pname_c (pb tb cap a d : Nat) (ts : List Tok) (w : World) (h : Ps w pb tb cap ts a d) (ok : ToksOk ts) :
    Calls Tryz.prog 80 #[.pointer (some ⟨pb, 0, none⟩)] w (PPost pb tb cap ts d w (fun _ _ v x => v = .string ⟨x.toArray⟩) (nameA ts a)) := by
  have H := hideP h
  have OK := hideP ok
  have HK := hideP (peek_c pb tb cap a d ts w h)
  have HP := hideP (fun wx (hx : Ps wx pb tb cap ts a d) (hb : a + 1 < ts.length) => pass_c pb tb cap a d ts wx hx hb ok.len)
  have HN : Hid ((tkA ts a).kind = 1 → a + 1 < ts.length) := fun e => ok.ends a h.lt (by rw [e]; decide)
  have HV : Hid (∀ wx (hx : Ps wx pb tb cap ts a d), Calls Tryz.prog 55 #[.pointer (some ⟨pb, 0, none⟩), .int .i64 7] wx fun e w' => e = gaveWith (tkA ts a) 7 ∧ Below wx.heap.size wx w') := fun wx hx => wrong_c pb tb cap a d ts wx hx 7
  clear h ok
  unfold nameA badA
  obtain ⟨t, ht⟩ : ∃ t, t = tkA ts a := ⟨_, rfl⟩
  rw [← ht] at HK HP HV HN ⊢
  clear ht
  obtain ⟨k, x, li, co⟩ := t
  have hf0 := tok_field0
  have hf1 := tok_field1
  by_cases hk : k = 1
  · have n1 : (k != 1) = false := by simp [hk]
    rw [if_pos (by simp [hk])]
    have HN1 := hideP (HN.out hk)
    clear hk
    go_enter Tryz.func80, Tryz.ntmps80
    go_wp2_with fail
    refine HK.out.mono ?_
    rintro e w1 ⟨rfl, hb1⟩
    have HB1 := hideP hb1
    clear hb1
    go_wp2_with fail
    refine (HP.out _ (by first | exact H.out.below HB1.out | exact (H.out.below HB1.out).alloc _) HN1.out).mono ?_
    rintro e w2 ⟨rfl, hst, hps⟩
    have HP2 := hideP hps
    have HST := hideP hst
    clear hst hps
    go_wp2_with fail
    go_ret
    exact ⟨(Stay.of H.out.ltp HB1.out).trans HST.out, HP2.out, _, rfl, rfl⟩
  · have n1 : (k != 1) = true := by simp [hk]
    rw [if_neg (by simp [hk])]
    clear hk
    go_enter Tryz.func80, Tryz.ntmps80
    go_wp2_with fail
    refine HK.out.mono ?_
    rintro e w1 ⟨rfl, hb1⟩
    have HB1 := hideP hb1
    clear hb1
    go_wp2_with fail
    refine (HV.out _ (H.out.below HB1.out)).mono ?_
    rintro e w2 ⟨rfl, hb2⟩
    have HB2 := hideP (below_next HB1.out hb2)
    clear hb2
    go_wp2_with fail
    exact ⟨rfl, Stay.of H.out.ltp HB2.out, rfl⟩
end Go.Proofs.YthieoabbjekpkabGreatDoor

/- The reader of tokens: end, goesOn, beginsField. -/
namespace Go.Proofs.YthieoabbjekpkabGreatDoor
open Go.RowKit

set_option maxRecDepth 100000 in
set_option maxHeartbeats 2000000 in
theorem end_c (pb tb cap a d : Nat) (ts : List Tok) (w : World) (h : Ps w pb tb cap ts a d) :
    Calls Tryz.prog 26 #[.pointer (some ⟨pb, 0, none⟩)] w (PPost pb tb cap ts d w (fun _ _ v _ => v = .tuple #[]) (if (tkA ts a).kind == 0 then .inl ((), a) else badA ts 7 a : Pr Unit)) := by
  have H := hideP h
  have HK := hideP (peek_c pb tb cap a d ts w h)
  have HV : Hid (∀ wx (hx : Ps wx pb tb cap ts a d), Calls Tryz.prog 55 #[.pointer (some ⟨pb, 0, none⟩), .int .i64 7] wx fun e w' => e = gaveWith (tkA ts a) 7 ∧ Below wx.heap.size wx w') := fun wx hx => wrong_c pb tb cap a d ts wx hx 7
  clear h
  unfold badA
  obtain ⟨t, ht⟩ : ∃ t, t = tkA ts a := ⟨_, rfl⟩
  rw [← ht] at HK HV ⊢
  clear ht
  obtain ⟨k, x, li, co⟩ := t
  have hf0 := tok_field0
  by_cases hk : k = 0
  · have n1 : (k != 0) = false := by simp [hk]
    rw [if_pos (by simp [hk])]
    clear hk
    go_enter Tryz.func26, Tryz.ntmps26
    go_wp2_with fail
    refine HK.out.mono ?_
    rintro e w1 ⟨rfl, hb1⟩
    have HB1 := hideP hb1
    clear hb1
    go_wp2_with fail
    go_end0
    exact ⟨Stay.of H.out.ltp HB1.out, H.out.below HB1.out, _, rfl, rfl⟩
  · have n1 : (k != 0) = true := by simp [hk]
    rw [if_neg (by simp [hk])]
    clear hk
    go_enter Tryz.func26, Tryz.ntmps26
    go_wp2_with fail
    refine HK.out.mono ?_
    rintro e w1 ⟨rfl, hb1⟩
    have HB1 := hideP hb1
    clear hb1
    go_wp2_with fail
    refine (HV.out _ (H.out.below HB1.out)).mono ?_
    rintro e w2 ⟨rfl, hb2⟩
    have HB2 := hideP (below_next HB1.out hb2)
    clear hb2
    go_wp2_with fail
    exact ⟨rfl, Stay.of H.out.ltp HB2.out, rfl⟩

/-- The one of two (true: the former), or what is wrong. -/
def goesA (ts : List Tok) (a : Nat) (f s : List UInt8) : Pr Bool := if seesA ts a f then .inl (true, a + 1) else (wantA ts a s).go fun _ b => .inl (false, b)

set_option maxRecDepth 100000 in
set_option maxHeartbeats 2000000 in
theorem goesOn_c (pb tb cap a d : Nat) (ts : List Tok) (f s : List UInt8) (w : World) (h : Ps w pb tb cap ts a d) (ok : ToksOk ts) :
    Calls Tryz.prog 135 #[.pointer (some ⟨pb, 0, none⟩), .string ⟨f.toArray⟩, .string ⟨s.toArray⟩] w (PPost pb tb cap ts d w (fun _ _ v b => v = .bool b) (goesA ts a f s)) := by
  have H := hideP h
  have HT := hideP (take_c pb tb cap a d ts f w h ok)
  have HM := hideP (fun wx (hx : Ps wx pb tb cap ts a d) => must_c pb tb cap a d ts s wx hx ok)
  clear h ok
  unfold goesA
  cases hs : seesA ts a f with
  | true =>
    rw [if_pos rfl]
    rw [hs, if_pos rfl] at HT
    clear hs
    go_enter Tryz.func135, Tryz.ntmps135
    go_wp2_with fail
    refine HT.out.mono ?_
    rintro e w1 ⟨rfl, hst, hps⟩
    have HST := hideP hst
    have HP := hideP hps
    clear hst hps
    go_wp2_with fail
    go_ret
    exact ⟨HST.out, HP.out, _, rfl, rfl⟩
  | false =>
    rw [if_neg (by simp)]
    rw [hs, if_neg (by simp)] at HT
    clear hs
    cases hw : wantA ts a s with
    | inl x =>
      obtain ⟨_, b⟩ := x
      rw [hw] at HM
      clear hw
      go_enter Tryz.func135, Tryz.ntmps135
      go_wp2_with fail
      refine HT.out.mono ?_
      rintro e w1 ⟨rfl, hst, hps⟩
      have HST := hideP hst
      have HP := hideP hps
      clear hst hps
      go_wp2_with fail
      refine (HM.out _ HP.out).mono ?_
      rintro e w2 ⟨hst, hps, v, rfl, hv⟩
      have HST2 := hideP (HST.out.trans hst)
      have HP2 := hideP hps
      clear hst hps
      go_wp2_with fail
      go_ret
      exact ⟨HST2.out, HP2.out, _, rfl, rfl⟩
    | inr x =>
      obtain ⟨er, li, co⟩ := x
      rw [hw] at HM
      clear hw
      go_enter Tryz.func135, Tryz.ntmps135
      go_wp2_with fail
      refine HT.out.mono ?_
      rintro e w1 ⟨rfl, hst, hps⟩
      have HST := hideP hst
      have HP := hideP hps
      clear hst hps
      go_wp2_with fail
      refine (HM.out _ HP.out).mono ?_
      rintro e w2 ⟨hst, rfl⟩
      have HST2 := hideP (HST.out.trans hst)
      clear hst
      go_wp2_with fail
      exact ⟨rfl, HST2.out, rfl⟩

/-- A reader that was just made, at the token behind. -/
theorem rd_new {w1 : World} {pb tb cap a d : Nat} {ts : List Tok} (h : Ps w1 pb tb cap ts a d) (hn : a + 1 < ts.length) :
    RdA ((w1.alloc (.cells #[.slice (some ⟨tb, 0, none⟩) ts.length cap, .int .i64 ((a : Int) + 1)] 73)).drew) w1.heap.size tb cap ts (a + 1) where
  c0 := by show (w1.alloc _).cell? _ = _; rw [cell_of_row _ _ _ _ _ _ (heap_alloc_last w1 _)]; rfl
  c1 := by show (w1.alloc _).cell? _ = _; rw [cell_of_row _ _ _ _ _ _ (heap_alloc_last w1 _)]; rfl
  ltp := by simp
  tlt := by have := h.rd.tlt; simp; omega
  toks := toksC_keep h.toks (Below.heap_alloc _ _ _ h.rd.tlt)
  lt := hn

set_option maxRecDepth 100000 in
set_option maxHeartbeats 2000000 in
theorem beginsField_c (pb tb cap a d : Nat) (ts : List Tok) (w : World) (h : Ps w pb tb cap ts a d) (ok : ToksOk ts) :
    Calls Tryz.prog 153 #[.pointer (some ⟨pb, 0, none⟩)] w fun e w' => e = .returned (.bool ((tkA ts a).kind == 1 && seesA ts (a + 1) [58])) ∧ Below w.heap.size w w' := by
  have H := hideP h
  have OK := hideP ok
  have HK := hideP (peek_c pb tb cap a d ts w h)
  have HN : Hid ((tkA ts a).kind = 1 → a + 1 < ts.length) := fun e => ok.ends a h.lt (by rw [e]; decide)
  clear h ok
  obtain ⟨t, ht⟩ : ∃ t, t = tkA ts a := ⟨_, rfl⟩
  rw [← ht] at HK HN ⊢
  clear ht
  obtain ⟨k, x, li, co⟩ := t
  have hf0 := tok_field0
  by_cases hk : k = 1
  · have n1 : (k != 1) = false := by simp [hk]
    have e1 : (k == 1) = true := by simp [hk]
    have HN1 := hideP (HN.out hk)
    clear hk
    rw [e1, Bool.true_and]
    go_enter Tryz.func153, Tryz.ntmps153
    go_wp2_with fail
    refine HK.out.mono ?_
    rintro e w1 ⟨rfl, hb1⟩
    have P1 := hideP (H.out.below hb1)
    have HB1 := hideP hb1
    obtain ⟨c0, c1, c2⟩ := P1.out.cells
    have hp1 := P1.out.ltp
    have ha : a ≤ 8193 := by have := OK.out.len; have := H.out.lt; omega
    clear hb1
    go_wp2_with fail
    go_region
    all_goals
      go_wp2_with fail
      refine (is_new w1.heap.size tb cap (a + 1) _ 1 ts [[58]] _ _ (rd_new P1.out HN1.out) (by simp) (by simp)).mono ?_
      rw [any_one]
      rintro e w2 ⟨rfl, hb2⟩
      have HB2 := hideP hb2
      clear hb2
      go_wp2_with fail
      go_ret
      exact ⟨rfl, below_next HB1.out (below_next (bl_alloc _ _).drew HB2.out)⟩
  · have n1 : (k != 1) = true := by simp [hk]
    have e1 : (k == 1) = false := by simp [hk]
    clear hk
    rw [e1, Bool.false_and]
    go_enter Tryz.func153, Tryz.ntmps153
    go_wp2_with fail
    refine HK.out.mono ?_
    rintro e w1 ⟨rfl, hb1⟩
    have HB1 := hideP hb1
    clear hb1
    go_wp2_with fail
    go_ret
    exact ⟨rfl, HB1.out⟩
end Go.Proofs.YthieoabbjekpkabGreatDoor
