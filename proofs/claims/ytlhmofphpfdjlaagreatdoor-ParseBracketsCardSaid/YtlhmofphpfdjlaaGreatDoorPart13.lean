/- Part. -/
import Derived.Deep.RegionWith
import Derived.RegionTactic
import Derived.Test.YtlhmofphpfdjlaaGreatDoorPart12
set_option maxRecDepth 100000
set_option maxHeartbeats 4000000
/- Where a fault lies: whatever is read goes on at a token, or is wrong at a token, with one of two errors; without a program in sight. -/
namespace Go.Proofs.YtlhmofphpfdjlaaGreatDoor
open Go.Proofs.Tryz
/-- It goes on at a token, or is wrong at one. -/
def OkP {α : Type} (ts : List Tok) (r : Pr α) : Prop :=
  match r with
  | .inl (_, a) => a < ts.length
  | .inr (e, l, c) => (e = 6 ∨ e = 7) /\ ∃ t ∈ ts, t.line = l /\ t.col = c
/-- The last token alone is the end. -/
def EndsT (ts : List Tok) : Prop := ∀ a, a < ts.length -> (tkA ts a).kind ≠ 0 -> a + 1 < ts.length
section
variable {ts : List Tok} {α β : Type}
theorem tok_in {a : Nat} (h : a < ts.length) : tkA ts a ∈ ts := by
  unfold tkA
  rw [List.getD_eq_getElem?_getD, List.getElem?_eq_getElem h]
  exact List.getElem_mem h
theorem bad_ok {e : Int} (he : e = 6 ∨ e = 7) {a : Nat} (h : a < ts.length) : OkP ts (badA ts e a : Pr α) := ⟨he, _, tok_in h, rfl, rfl⟩
theorem go_ok {r : Pr α} {f : α -> Nat -> Pr β} (h : OkP ts r) (hf : ∀ x a, a < ts.length -> OkP ts (f x a)) : OkP ts (r.go f) := by
  unfold Pr.go
  match r, h with
  | .inl (x, a), h => exact hf x a h
  | .inr _, h => exact h
theorem ite_ok {c : Prop} [Decidable c] {x y : Pr α} (h1 : c -> OkP ts x) (h2 : ¬ c -> OkP ts y) : OkP ts (if c then x else y) := by
  by_cases h : c
  · rw [if_pos h]
    exact h1 h
  · rw [if_neg h]
    exact h2 h
theorem sees_next (hE : EndsT ts) {a : Nat} {s : List UInt8} (h : a < ts.length) (hs : seesA ts a s = true) : a + 1 < ts.length := by
  refine hE a h fun h0 => ?_
  unfold seesA at hs
  rw [h0] at hs
  simp at hs
theorem want_ok (hE : EndsT ts) {a : Nat} (s : List UInt8) (h : a < ts.length) : OkP ts (wantA ts a s) := by
  unfold wantA
  split
  · rename_i hs
    exact sees_next hE h hs
  · exact bad_ok (.inr rfl) h
theorem name_ok (hE : EndsT ts) {a : Nat} (h : a < ts.length) : OkP ts (nameA ts a) := by
  unfold nameA
  split
  · rename_i hs
    exact hE a h fun h0 => by rw [h0] at hs; simp at hs
  · exact bad_ok (.inr rfl) h
theorem many_ok (hE : EndsT ts) {one : Nat -> Pr α} (hone : ∀ a, a < ts.length -> OkP ts (one a)) (sep : List UInt8) : ∀ (f a : Nat), a < ts.length -> OkP ts (manyA ts one sep f a)
  | 0, _, h => bad_ok (.inr rfl) h
  | f + 1, a, h => by
    rw [manyA]
    refine go_ok (hone a h) fun x b hb => ?_
    split
    · rename_i hs
      exact go_ok (many_ok hE hone sep f (b + 1) (sees_next hE hb hs)) fun _ _ hc => hc
    · exact hb
theorem field_ok (hE : EndsT ts) {K : Nat -> Pr α} (hK : ∀ a, a < ts.length -> OkP ts (K a)) {a : Nat} (h : a < ts.length) : OkP ts (fieldA ts K a) :=
  go_ok (name_ok hE h) fun _ _ h1 => go_ok (want_ok hE _ h1) fun _ _ h2 => go_ok (hK _ h2) fun _ _ h3 => h3
theorem prim_ok (hE : EndsT ts) {K : Nat -> Pr Ty} (hK : ∀ a, a < ts.length -> OkP ts (K a)) (f : Nat) {a : Nat} (h : a < ts.length) : OkP ts (primA ts K f a) := by
  unfold primA
  split
  · rename_i hs; exact sees_next hE h hs
  split
  · rename_i hs; exact sees_next hE h hs
  split
  · rename_i hs; exact sees_next hE h hs
  split
  · rename_i hs; exact sees_next hE h hs
  split
  · rename_i hs; exact sees_next hE h hs
  split
  · rename_i hs
    exact go_ok (hK _ (sees_next hE h hs)) fun _ _ h1 => go_ok (want_ok hE _ h1) fun _ _ h2 => h2
  split
  · rename_i hs
    have h1 := sees_next hE h hs
    split
    · rename_i hs2; exact sees_next hE h1 hs2
    · exact go_ok (many_ok hE (fun _ h => field_ok hE hK h) _ f _ h1) fun _ _ h2 => go_ok (want_ok hE _ h2) fun _ _ h3 => h3
  · exact go_ok (name_ok hE h) fun _ _ h1 => h1
theorem alt_ok (hE : EndsT ts) {K : Nat -> Pr Ty} (hK : ∀ a, a < ts.length -> OkP ts (K a)) (f : Nat) {a : Nat} (h : a < ts.length) : OkP ts (altA ts K f a) := by
  unfold altA
  refine go_ok (many_ok hE (fun _ h => prim_ok hE hK f h) _ f _ h) fun l b h1 => ?_
  split <;> exact h1
theorem kind_ok (hE : EndsT ts) (f : Nat) : ∀ (n d a : Nat), a < ts.length -> OkP ts (kindA ts f n d a)
  | 0, _, _, h => bad_ok (.inl rfl) h
  | n + 1, d, a, h => by
    rw [kindA]
    split
    · exact bad_ok (.inl rfl) h
    · refine go_ok (alt_ok hE (fun a h => kind_ok hE f n (d + 1) a h) f h) fun t b hb => ?_
      split
      · rename_i hs
        exact go_ok (kind_ok hE f n (d + 1) (b + 1) (sees_next hE hb hs)) fun _ _ hc => hc
      · exact hb
theorem note_ok (hE : EndsT ts) {K : Nat -> Pr Ty} (hK : ∀ a, a < ts.length -> OkP ts (K a)) {a : Nat} (h : a < ts.length) : OkP ts (noteA ts K a) := by
  unfold noteA
  split
  · rename_i hs
    exact go_ok (hK _ (sees_next hE h hs)) fun _ _ h1 => h1
  · exact h
theorem head_ok (hE : EndsT ts) {K : Nat -> Pr Ty} (hK : ∀ a, a < ts.length -> OkP ts (K a)) {a : Nat} (h : a < ts.length) : OkP ts (headA ts K a) :=
  go_ok (want_ok hE _ h) fun _ _ h1 => go_ok (name_ok hE h1) fun _ _ h2 => go_ok (note_ok hE hK h2) fun _ _ h3 => go_ok (want_ok hE _ h3) fun _ _ h4 => go_ok (note_ok hE hK h4) fun _ _ h5 => h5
theorem find_sees {signs : List (List UInt8)} {a : Nat} {s : List UInt8} (h : signs.find? (seesA ts a) = some s) : seesA ts a s = true := List.find?_some h
theorem left_ok (hE : EndsT ts) (signs : List (List UInt8)) {sub : Nat -> Pr Ty} (hs : ∀ a, a < ts.length -> OkP ts (sub a)) : ∀ (f : Nat) (x : Ty) (a : Nat), a < ts.length -> OkP ts (leftA ts signs sub f x a)
  | 0, _, _, h => bad_ok (.inr rfl) h
  | f + 1, x, a, h => by
    rw [leftA]
    split
    · exact h
    · rename_i s hf
      exact go_ok (hs _ (sees_next hE h (find_sees hf))) fun y b hb => left_ok hE signs hs f _ b hb
theorem cmp_ok (hE : EndsT ts) {K sub : Nat -> Pr Ty} (hK : ∀ a, a < ts.length -> OkP ts (K a)) (hs : ∀ a, a < ts.length -> OkP ts (sub a)) {a : Nat} (h : a < ts.length) : OkP ts (cmpA ts K sub a) := by
  unfold cmpA
  refine go_ok (hs _ h) fun x b hb => ?_
  split
  · rename_i s hf
    exact go_ok (hs _ (sees_next hE hb (find_sees hf))) fun _ _ hc => hc
  · split
    · rename_i h1
      exact go_ok (hK _ (sees_next hE hb h1)) fun _ _ hc => hc
    · split
      · rename_i h1
        have hb1 := sees_next hE hb h1
        split
        · rename_i i hi
          obtain ⟨hlt, h2, _⟩ := List.findIdx?_eq_some_iff_getElem.1 hi
          exact sees_next hE hb1 h2
        · exact bad_ok (.inr rfl) hb1
      · exact hb
section
variable {K E U : Nat -> Pr Ty}
theorem term_ok (hE : EndsT ts) (hU : ∀ a, a < ts.length -> OkP ts (U a)) (f : Nat) {a : Nat} (h : a < ts.length) : OkP ts (termA ts U f a) := go_ok (hU _ h) fun x b hb => left_ok hE _ hU f x b hb
theorem sum_ok (hE : EndsT ts) (hU : ∀ a, a < ts.length -> OkP ts (U a)) (f : Nat) {a : Nat} (h : a < ts.length) : OkP ts (sumA ts U f a) := go_ok (term_ok hE hU f h) fun x b hb => left_ok hE _ (fun _ h => term_ok hE hU f h) f x b hb
theorem cat_ok (hE : EndsT ts) (hU : ∀ a, a < ts.length -> OkP ts (U a)) (f : Nat) {a : Nat} (h : a < ts.length) : OkP ts (catA ts U f a) := go_ok (sum_ok hE hU f h) fun x b hb => left_ok hE _ (fun _ h => sum_ok hE hU f h) f x b hb
theorem and_ok (hE : EndsT ts) (hK : ∀ a, a < ts.length -> OkP ts (K a)) (hU : ∀ a, a < ts.length -> OkP ts (U a)) (f : Nat) {a : Nat} (h : a < ts.length) : OkP ts (andA ts K U f a) := go_ok (cmp_ok hE hK (fun _ h => cat_ok hE hU f h) h) fun x b hb => left_ok hE _ (fun _ h => cmp_ok hE hK (fun _ h => cat_ok hE hU f h) h) f x b hb
theorem or_ok (hE : EndsT ts) (hK : ∀ a, a < ts.length -> OkP ts (K a)) (hU : ∀ a, a < ts.length -> OkP ts (U a)) (f : Nat) {a : Nat} (h : a < ts.length) : OkP ts (orA ts K U f a) := go_ok (and_ok hE hK hU f h) fun x b hb => left_ok hE _ (fun _ h => and_ok hE hK hU f h) f x b hb
theorem expr_ok (hE : EndsT ts) (hK : ∀ a, a < ts.length -> OkP ts (K a)) (hX : ∀ a, a < ts.length -> OkP ts (E a)) (hU : ∀ a, a < ts.length -> OkP ts (U a)) (f : Nat) {a : Nat} (h : a < ts.length) : OkP ts (exprA ts K E U f a) := by
  unfold exprA
  split
  · rename_i hs
    exact go_ok (name_ok hE (sees_next hE h hs)) fun _ _ h1 => go_ok (note_ok hE hK h1) fun _ _ h2 => go_ok (want_ok hE _ h2) fun _ _ h3 => go_ok (hX _ h3) fun _ _ h4 => go_ok (want_ok hE _ h4) fun _ _ h5 => go_ok (hX _ h5) fun _ _ h6 => h6
  split
  · rename_i hs
    exact go_ok (hX _ (sees_next hE h hs)) fun _ _ h1 => go_ok (want_ok hE _ h1) fun _ _ h2 => go_ok (hX _ h2) fun _ _ h3 => go_ok (want_ok hE _ h3) fun _ _ h4 => go_ok (hX _ h4) fun _ _ h5 => h5
  split
  · rename_i hs
    exact go_ok (head_ok hE hK (sees_next hE h hs)) fun _ _ h1 => go_ok (want_ok hE _ h1) fun _ _ h2 => go_ok (hX _ h2) fun _ _ h3 => h3
  · exact or_ok hE hK hU f h
theorem rec_ok (hE : EndsT ts) (hX : ∀ a, a < ts.length -> OkP ts (E a)) (f : Nat) {a : Nat} (h : a + 1 < ts.length) : OkP ts (recA ts E f a) := by
  unfold recA
  split
  · rename_i hs; exact sees_next hE h hs
  split
  · exact go_ok (many_ok hE (fun _ h => field_ok hE hX h) _ f _ h) fun _ _ h1 => go_ok (want_ok hE _ h1) fun _ _ h2 => h2
  · exact go_ok (hX _ h) fun _ _ h1 => go_ok (want_ok hE _ h1) fun _ _ h2 => go_ok (name_ok hE h2) fun _ _ h3 => go_ok (want_ok hE _ h3) fun _ _ h4 => go_ok (hX _ h4) fun _ _ h5 => go_ok (want_ok hE _ h5) fun _ _ h6 => h6
theorem atom_ok (hE : EndsT ts) (hK : ∀ a, a < ts.length -> OkP ts (K a)) (hX : ∀ a, a < ts.length -> OkP ts (E a)) (f : Nat) {a : Nat} (h : a < ts.length) : OkP ts (atomA ts K E f a) := by
  unfold atomA
  refine ite_ok (fun hs => hE a h fun h0 => by rw [h0] at hs; simp at hs) fun _ => ?_
  refine ite_ok (fun hs => hE a h fun h0 => by rw [h0] at hs; simp at hs) fun _ => ?_
  refine ite_ok (fun hs => sees_next hE h hs) fun _ => ?_
  refine ite_ok (fun hs => sees_next hE h hs) fun _ => ?_
  refine ite_ok (fun hs => sees_next hE h hs) fun _ => ?_
  refine ite_ok (fun hs => go_ok (want_ok hE _ (sees_next hE h hs)) fun _ _ h1 => go_ok (want_ok hE _ h1) fun _ _ h2 => h2) fun _ => ?_
  refine ite_ok (fun hs => go_ok (want_ok hE _ (sees_next hE h hs)) fun _ _ h1 => go_ok (hX _ h1) fun _ _ h2 => go_ok (want_ok hE _ h2) fun _ _ h3 => h3) fun _ => ?_
  refine ite_ok (fun hs => go_ok (hX _ (sees_next hE h hs)) fun _ _ h1 => go_ok (want_ok hE _ h1) fun _ _ h2 => h2) fun _ => ?_
  refine ite_ok (fun hs => rec_ok hE hX f (sees_next hE h hs)) fun _ => ?_
  exact go_ok (name_ok hE h) fun s b hb => ite_ok (fun hs => go_ok (many_ok hE hK _ f _ (sees_next hE hb hs)) fun _ _ h1 => go_ok (want_ok hE _ h1) fun _ _ h2 => h2) fun _ => hb
theorem post_ok (hE : EndsT ts) (hX : ∀ a, a < ts.length -> OkP ts (E a)) : ∀ (f : Nat) (x : Ty) (a : Nat), a < ts.length -> OkP ts (postA ts E f x a)
  | 0, _, _, h => bad_ok (.inr rfl) h
  | f + 1, x, a, h => by
    rw [postA]
    split
    · rename_i hs
      exact go_ok (hX _ (sees_next hE h hs)) fun _ _ h1 => go_ok (want_ok hE _ h1) fun _ _ h2 => post_ok hE hX f _ _ h2
    split
    · rename_i hs
      exact go_ok (name_ok hE (sees_next hE h hs)) fun _ _ h1 => post_ok hE hX f _ _ h1
    · exact h
end
theorem deep_ok (hE : EndsT ts) (f : Nat) : ∀ (n : Nat) (u : Bool) (d a : Nat), a < ts.length -> OkP ts (deepA ts f n u d a)
  | 0, _, _, _, h => bad_ok (.inl rfl) h
  | n + 1, false, d, _, h => ite_ok (fun _ => bad_ok (.inl rfl) h) fun _ => expr_ok hE (fun a h => kind_ok hE f 101 (d + 1) a h) (fun a h => deep_ok hE f n false (d + 1) a h) (fun a h => deep_ok hE f n true (d + 1) a h) f h
  | n + 1, true, d, a, h => ite_ok (fun _ => bad_ok (.inl rfl) h) fun _ =>
    ite_ok (fun hs => go_ok (deep_ok hE f n true (d + 1) (a + 1) (sees_next hE h hs)) fun _ _ h1 => h1) fun _ =>
    ite_ok (fun hs => go_ok (deep_ok hE f n true (d + 1) (a + 1) (sees_next hE h hs)) fun _ _ h1 => h1) fun _ =>
    go_ok (atom_ok hE (fun a h => kind_ok hE f 101 (d + 1) a h) (fun a h => deep_ok hE f n false (d + 1) a h) f h) fun x b hb => post_ok hE (fun a h => deep_ok hE f n false (d + 1) a h) f x b hb
theorem var_ok (hE : EndsT ts) {K : Nat -> Pr Ty} (hK : ∀ a, a < ts.length -> OkP ts (K a)) {a : Nat} (h : a < ts.length) : OkP ts (varA ts K a) := by
  unfold varA
  refine go_ok (name_ok hE h) fun s b hb => ?_
  split
  · rename_i hs
    exact go_ok (hK _ (sees_next hE hb hs)) fun _ _ h1 => h1
  · exact hb
theorem vars_ok (hE : EndsT ts) {K : Nat -> Pr Ty} (hK : ∀ a, a < ts.length -> OkP ts (K a)) (f : Nat) {a : Nat} (h : a < ts.length) : OkP ts (varsA ts K f a) := by
  unfold varsA
  split
  · rename_i hs
    exact go_ok (many_ok hE (fun _ h => var_ok hE hK h) _ f _ (sees_next hE h hs)) fun _ _ h1 => go_ok (want_ok hE _ h1) fun _ _ h2 => h2
  · exact h
theorem imports_ok (hE : EndsT ts) : ∀ (f a : Nat), a < ts.length -> OkP ts (importsA ts f a)
  | 0, _, h => bad_ok (.inr rfl) h
  | f + 1, a, h => by
    rw [importsA]
    split
    · rename_i hs
      exact go_ok (name_ok hE (sees_next hE h hs)) fun _ _ h1 => go_ok (want_ok hE _ h1) fun _ _ h2 => go_ok (many_ok hE (fun _ h => name_ok hE h) _ _ _ h2) fun _ _ h3 => go_ok (want_ok hE _ h3) fun _ _ h4 => go_ok (imports_ok hE f _ h4) fun _ _ h5 => h5
    · exact h
theorem decl_ok (hE : EndsT ts) {a : Nat} (h : a < ts.length) : OkP ts (declA ts a) := by
  unfold declA
  have h0 : (if seesA ts a [101, 120, 112, 111, 114, 116] = true then a + 1 else a) < ts.length := by
    split
    · rename_i hs; exact sees_next hE h hs
    · exact h
  exact go_ok (want_ok hE _ h0) fun _ _ h1 => go_ok (name_ok hE h1) fun _ _ h2 => go_ok (vars_ok hE (fun a h => kind_ok hE _ 101 0 a h) _ h2) fun _ _ h3 => go_ok (head_ok hE (fun a h => kind_ok hE _ 101 0 a h) h3) fun _ _ h4 => go_ok (want_ok hE _ h4) fun _ _ h5 => go_ok (deep_ok hE _ 101 false 0 _ h5) fun _ _ h6 => go_ok (want_ok hE _ h6) fun _ _ h7 => h7
theorem decls_ok (hE : EndsT ts) : ∀ (f a : Nat), a < ts.length -> OkP ts (declsA ts f a)
  | 0, _, h => bad_ok (.inr rfl) h
  | f + 1, a, h => by
    rw [declsA]
    split
    · exact h
    · exact go_ok (decl_ok hE h) fun _ _ h1 => go_ok (decls_ok hE f _ h1) fun _ _ h2 => h2
theorem end_ok {r : Pr α} (h : OkP ts r) : OkP ts (endA ts r) := by
  unfold endA
  refine go_ok h fun x b hb => ?_
  split
  · exact hb
  · exact bad_ok (.inr rfl) hb
theorem module_ok (hE : EndsT ts) (h : 0 < ts.length) : OkP ts (endA ts (moduleA ts)) :=
  end_ok (go_ok (imports_ok hE _ 0 h) fun _ _ h1 => go_ok (decls_ok hE _ _ h1) fun _ _ h2 => h2)
end
end Go.Proofs.YtlhmofphpfdjlaaGreatDoor
/- The program's parser in memory, and what its calls leave. -/
namespace Go.Proofs.YtlhmofphpfdjlaaGreatDoor
open Go.Proofs.Tryz
open Go.RowKit
/-- The tokens lie in block tb. -/
def ToksC (w : World) (tb : Nat) (ts : List Tok) : Prop := ∀ a, a < ts.length ->
  w.cell? ⟨tb, a * 4, none⟩ = some (.int .i64 (tkA ts a).kind) /\ w.cell? ⟨tb, a * 4 + 1, none⟩ = some (.string ⟨(tkA ts a).text.toArray⟩) /\
  w.cell? ⟨tb, a * 4 + 2, none⟩ = some (.int .i64 (tkA ts a).line) /\ w.cell? ⟨tb, a * 4 + 3, none⟩ = some (.int .i64 (tkA ts a).col)
/-- What the parser leans on, of the tokens. -/
structure ToksOk (ts : List Tok) : Prop where
  ends : EndsT ts
  pos : 0 < ts.length
  len : ts.length <= 8193
  txt : ∀ a, (tkA ts a).text.length <= 70000
  wrd : ∀ a, a < ts.length -> (tkA ts a).kind = 2 -> (tkA ts a).text ≠ [58]
/-- The parser, in block pb: it stands at token a, d deep. -/
structure Ps (w : World) (pb tb cap : Nat) (ts : List Tok) (a d : Nat) : Prop where
  blk : w.heap[pb]? = some (.cells #[.slice (some ⟨tb, 0, none⟩) ts.length cap, .int .i64 a, .int .i64 d] 72)
  tlt : tb < pb
  toks : ToksC w tb ts
  lt : a < ts.length
/-- A reader of tokens, in block pb: it stands at token a. -/
structure RdA (w : World) (pb tb cap : Nat) (ts : List Tok) (a : Nat) : Prop where
  c0 : w.cell? ⟨pb, 0, none⟩ = some (.slice (some ⟨tb, 0, none⟩) ts.length cap)
  c1 : w.cell? ⟨pb, 1, none⟩ = some (.int .i64 a)
  ltp : pb < w.heap.size
  tlt : tb < w.heap.size
  toks : ToksC w tb ts
  lt : a < ts.length
/-- Of what there was the block pb alone may have changed. -/
structure Stay (pb : Nat) (w w' : World) : Prop where
  below : Below pb w w'
  keep : ∀ b, pb < b -> b < w.heap.size -> w'.heap[b]? = w.heap[b]?
abbrev tokV (t : Tok) : Value := .agg #[.int .i64 t.kind, .string ⟨t.text.toArray⟩, .int .i64 t.line, .int .i64 t.col]
abbrev diagV (li co e : Int) : Value := .agg #[.int .i64 0, .int .i64 li, .int .i64 co, .int .i64 e]
abbrev gaveUp (e : Int) (li co : Nat) : Ending := .panicked [{ v := .iface 30 (diagV li co e), recovered := false }]
/-- What a call leaves that reads r; what it made lies from the heap's end on. -/
def PPost {α : Type} (pb tb cap : Nat) (ts : List Tok) (d : Nat) (w : World) (rep : Nat -> World -> Value -> α -> Prop) (r : Pr α) (e : Ending) (w' : World) : Prop :=
  Stay pb w w' /\ match r with
  | .inl (x, b) => Ps w' pb tb cap ts b d /\ ∃ v, e = .returned v /\ rep w.heap.size w' v x
  | .inr (er, li, co) => e = gaveUp er li co
theorem size_set (w : World) (a : Addr) (u : Value) : (w.setCell a u).heap.size = w.heap.size := by simp [World.setCell]
theorem heap_set_alloc (w : World) (a : Addr) (u : Value) (o : Obj) : ((w.setCell a u).alloc o).heap[w.heap.size]? = some o := by
  have := heap_alloc_last (w.setCell a u) o
  rw [size_set] at this
  exact this
section
variable {w w1 w2 : World} {pb tb cap a d : Nat} {ts : List Tok}
theorem Stay.refl (pb : Nat) (w : World) : Stay pb w w := ⟨Below.refl _ _, fun _ _ _ => rfl⟩
theorem Stay.trans (h : Stay pb w w1) (k : Stay pb w1 w2) : Stay pb w w2 := ⟨h.below.trans k.below, fun b hb hl => (k.keep b hb (Nat.lt_of_lt_of_le hl h.below.size)).trans (h.keep b hb hl)⟩
theorem Stay.of (hp : pb < w.heap.size) (h : Below w.heap.size w w1) : Stay pb w w1 := ⟨h.mono (Nat.le_of_lt hp), fun b _ hl => h.block b hl⟩
theorem Stay.set (h : Stay pb w w1) (o : Nat) (u : Value) : Stay pb w (w1.setCell ⟨pb, o, none⟩ u) := ⟨h.below.setCell (Nat.le_refl _) _, fun b hb hl => (Below.heap_setCell _ _ _ _ (by show b ≠ pb; omega)).trans (h.keep b hb hl)⟩
theorem Stay.drewN (h : Stay pb w w1) (n : Nat) : Stay pb w (w1.drewN n) := ⟨⟨h.below.os, h.below.tape, h.below.output, h.below.size, h.below.block⟩, h.keep⟩
theorem Stay.drew (h : Stay pb w w1) : Stay pb w w1.drew := ⟨h.below.drew, h.keep⟩
theorem Stay.alloc (h : Stay pb w w1) (hp : pb < w.heap.size) (o : Obj) : Stay pb w (w1.alloc o) := ⟨h.below.alloc (by have := h.below.size; omega) _, fun b hb hl => (Below.heap_alloc _ _ _ (Nat.lt_of_lt_of_le hl h.below.size)).trans (h.keep b hb hl)⟩
theorem Stay.own (h : Stay pb w w1) {b : Nat} (hp : pb < w.heap.size) (hb : w.heap.size <= b) (o : Nat) (u : Value) : Stay pb w (w1.setCell ⟨b, o, none⟩ u) := ⟨h.below.setCell (by show pb <= b; omega) _, fun c _ hl => (Below.heap_setCell _ _ _ _ (by show c ≠ b; omega)).trans (h.keep c ‹_› hl)⟩
theorem Stay.undrew (h : Stay pb w.drew w1) : Stay pb w w1 := ⟨⟨h.below.os, h.below.tape, h.below.output, h.below.size, h.below.block⟩, h.keep⟩
theorem Stay.size (h : Stay pb w w1) : w.heap.size <= w1.heap.size := h.below.size
theorem Ps.ltp (h : Ps w pb tb cap ts a d) : pb < w.heap.size := lt_of_block h.blk
theorem Ps.cells (h : Ps w pb tb cap ts a d) : w.cell? ⟨pb, 0, none⟩ = some (.slice (some ⟨tb, 0, none⟩) ts.length cap) /\ w.cell? ⟨pb, 1, none⟩ = some (.int .i64 a) /\ w.cell? ⟨pb, 2, none⟩ = some (.int .i64 d) := by
  refine ⟨?_, ?_, ?_⟩ <;> (rw [cell_of_row _ _ _ _ _ _ h.blk]; rfl)
theorem Ps.fz (h : Ps w pb tb cap ts a d) (o : Nat) : w.frozen? ⟨pb, o, none⟩ = false := by simp [World.frozen?, h.blk]
theorem toksC_keep (h : ToksC w tb ts) (hk : w1.heap[tb]? = w.heap[tb]?) : ToksC w1 tb ts := fun i hi => by
  have hc : ∀ j, w1.cell? ⟨tb, j, none⟩ = w.cell? ⟨tb, j, none⟩ := fun j => World.cell?_of_block (w := w) (a := ⟨tb, j, none⟩) hk
  obtain ⟨q0, q1, q2, q3⟩ := h i hi
  exact ⟨(hc _).trans q0, (hc _).trans q1, (hc _).trans q2, (hc _).trans q3⟩
/-- Where its own block stays, it stays. -/
theorem Ps.below (h : Ps w pb tb cap ts a d) (hb : Below w.heap.size w w1) : Ps w1 pb tb cap ts a d :=
  ⟨(hb.block _ h.ltp).trans h.blk, h.tlt, toksC_keep h.toks (hb.block _ (Nat.lt_trans h.tlt h.ltp)), h.lt⟩
theorem Ps.alloc (h : Ps w pb tb cap ts a d) (o : Obj) : Ps (w.alloc o) pb tb cap ts a d := h.below (bl_alloc _ _)
theorem Ps.drew (h : Ps w pb tb cap ts a d) : Ps w.drew pb tb cap ts a d := h.below (Below.refl _ _).drew
theorem Ps.drewN (h : Ps w pb tb cap ts a d) (n : Nat) : Ps (w.drewN n) pb tb cap ts a d := ⟨h.blk, h.tlt, h.toks, h.lt⟩
theorem Ps.other (h : Ps w pb tb cap ts a d) {b : Nat} (hb : pb < b) (o : Nat) (u : Value) : Ps (w.setCell ⟨b, o, none⟩ u) pb tb cap ts a d :=
  ⟨(Below.heap_setCell _ _ _ _ (by show pb ≠ b; omega)).trans h.blk, h.tlt, toksC_keep h.toks (Below.heap_setCell _ _ _ _ (by show tb ≠ b; have := h.tlt; omega)), h.lt⟩
theorem Ps.setAt (h : Ps w pb tb cap ts a d) {b : Nat} (hb : b < ts.length) : Ps (w.setCell ⟨pb, 1, none⟩ (.int .i64 b)) pb tb cap ts b d :=
  ⟨cells_setCell h.blk, h.tlt, toksC_keep h.toks (Below.heap_setCell _ _ _ _ (by show tb ≠ pb; have := h.tlt; omega)), hb⟩
theorem Ps.setDeep (h : Ps w pb tb cap ts a d) (b : Nat) : Ps (w.setCell ⟨pb, 2, none⟩ (.int .i64 b)) pb tb cap ts a b :=
  ⟨cells_setCell h.blk, h.tlt, toksC_keep h.toks (Below.heap_setCell _ _ _ _ (by show tb ≠ pb; have := h.tlt; omega)), h.lt⟩
theorem Ps.rd (h : Ps w pb tb cap ts a d) : RdA w pb tb cap ts a := ⟨h.cells.1, h.cells.2.1, h.ltp, Nat.lt_trans h.tlt h.ltp, h.toks, h.lt⟩
theorem RdA.below (h : RdA w pb tb cap ts a) (hb : Below w.heap.size w w1) : RdA w1 pb tb cap ts a :=
  ⟨(hb.cell (p := ⟨pb, 0, none⟩) h.ltp).trans h.c0, (hb.cell (p := ⟨pb, 1, none⟩) h.ltp).trans h.c1, Nat.lt_of_lt_of_le h.ltp hb.size, Nat.lt_of_lt_of_le h.tlt hb.size, toksC_keep h.toks (hb.block _ h.tlt), h.lt⟩
theorem Ps.tok (h : Ps w pb tb cap ts a d) : w.cell? ⟨tb, a * 4, none⟩ = some (.int .i64 (tkA ts a).kind) /\ w.cell? ⟨tb, a * 4 + 1, none⟩ = some (.string ⟨(tkA ts a).text.toArray⟩) /\
  w.cell? ⟨tb, a * 4 + 2, none⟩ = some (.int .i64 (tkA ts a).line) /\ w.cell? ⟨tb, a * 4 + 3, none⟩ = some (.int .i64 (tkA ts a).col) := h.toks a h.lt
end
end Go.Proofs.YtlhmofphpfdjlaaGreatDoor
/- The reader of tokens: peek, pass, wrong, which, is. -/
namespace Go.Proofs.YtlhmofphpfdjlaaGreatDoor
open Go.Proofs.Tryz
open Go.RowKit
theorem peek_r (pb tb cap a : Nat) (ts : List Tok) (w : World) (h : RdA w pb tb cap ts a) :
    Calls prog 52 #[.pointer (some ⟨pb, 0, none⟩)] w fun e w' => e = .returned (tokV (tkA ts a)) /\ Below w.heap.size w w' := by
  have c0 := h.c0
  have c1 := h.c1
  obtain ⟨t0, t1, t2, t3⟩ := h.toks a h.lt
  have hlt : (a : Int) < (ts.length : Int) := by have := h.lt; omega
  generalize tkA ts a = t at t0 t1 t2 t3 ⊢
  have hp := h.ltp
  have htb : tb < w.heap.size := h.tlt
  clear h
  go_enter func52, ntmps52
  go_wp2
  go_region
  all_goals
    go_wp2
    refine bodyPost_ret (results_cell_row rfl _ _ w.heap.size 98 #[.int .i64 t.kind, .string ⟨t.text.toArray⟩, .int .i64 t.line, .int .i64 t.col] (0, 0) _ rfl (heap_alloc_last w _) underlying98 rfl (by kernel_rfl)) rfl ⟨rfl, ?_⟩
    exact (bl_alloc _ _).drew
theorem peek_c (pb tb cap a d : Nat) (ts : List Tok) (w : World) (h : Ps w pb tb cap ts a d) :
    Calls prog 52 #[.pointer (some ⟨pb, 0, none⟩)] w fun e w' => e = .returned (tokV (tkA ts a)) /\ Below w.heap.size w w' := peek_r pb tb cap a ts w h.rd
abbrev zTok : Obj := .cells #[.int .i64 0, .string ⟨#[]⟩, .int .i64 0, .int .i64 0] 98
theorem pass_c (pb tb cap a d : Nat) (ts : List Tok) (w : World) (h : Ps w pb tb cap ts a d) (hb : a + 1 < ts.length) (hts : ts.length <= 8193) :
    Calls prog 99 #[.pointer (some ⟨pb, 0, none⟩)] w fun e w' => e = .returned (tokV (tkA ts a)) /\ Stay pb w w' /\ Ps w' pb tb cap ts (a + 1) d := by
  have H := hideP h
  clear h
  go_enter func99, ntmps99
  go_wp2_with fail
  refine (peek_c pb tb cap a d ts _ (H.out.below (bl_alloc _ _))).mono ?_
  rintro e w1 ⟨rfl, hb1⟩
  have P1 := hideP (H.out.below (below_next (bl_alloc _ _) hb1))
  have HB1 := hideP (below_next (bl_alloc _ _) hb1)
  have hr : w1.heap[w.heap.size]? = some zTok := (hb1.block _ (by simp)).trans (heap_alloc_last w _)
  obtain ⟨⟨r0, r1, r2, r3⟩, ⟨f0, f1, f2, f3⟩, hr1⟩ := res_facts hr
  have HR := hideP hr
  obtain ⟨c0, c1, c2⟩ := P1.out.cells
  have z1 := P1.out.fz 1
  have hp1 := P1.out.ltp
  have hpw : ¬ pb = w.heap.size := by have := H.out.ltp; omega
  have hpw' : ¬ w.heap.size = pb := by have := H.out.ltp; omega
  clear hb1 hr
  go_wp2_with fail
  have e1 : ((a : Int) + 1) = ((a + 1 : Nat) : Int) := by omega
  rw [e1]
  refine bodyPost_ret (results_cell_row rfl _ _ w.heap.size 98 #[.int .i64 (tkA ts a).kind, .string ⟨(tkA ts a).text.toArray⟩, .int .i64 (tkA ts a).line, .int .i64 (tkA ts a).col] (0, 0) _ rfl ?_ underlying98 rfl (by kernel_rfl)) rfl ⟨rfl, ?_, ?_⟩
  · rw [Below.heap_alloc _ _ _ (by simpa [World.setCell] using hr1)]
    exact set4 ((Below.heap_setCell _ _ _ _ hpw').trans HR.out) _ _ _ _
  · have hp := H.out.ltp
    exact (((((((Stay.of hp HB1.out).set 1 _).own hp (Nat.le_refl _) 0 _).own hp (Nat.le_refl _) 1 _).own hp (Nat.le_refl _) 2 _).own hp (Nat.le_refl _) 3 _).alloc hp _)
  · have hp := H.out.ltp
    exact ((((((P1.out.setAt hb).other hp 0 _).other hp 1 _).other hp 2 _).other hp 3 _).alloc _)
end Go.Proofs.YtlhmofphpfdjlaaGreatDoor
