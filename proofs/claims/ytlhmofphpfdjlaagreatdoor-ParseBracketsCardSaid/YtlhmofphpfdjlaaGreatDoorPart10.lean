/- Part. -/
import Derived.Test.YtlhmofphpfdjlaaGreatDoorPart5
set_option maxRecDepth 100000
set_option maxHeartbeats 4000000
/- The grammar of layer 5 by its own words: what a list of tokens is, or what is wrong with it first; without a program in sight. -/
namespace Go.Proofs.YtlhmofphpfdjlaaGreatDoor
open Go.Proofs.Tryz
/-- An expression: its kind, text, number, place, types, names, the expressions within it; as a tree of data. -/
def mkE (k : Int) (tx : List UInt8) (N : Int) (l c : Nat) (ts : List Ty) (ns : List (List UInt8)) (ks : List Ty) : Ty :=
  .agg [.lit (.int .i64 k), .lit (.string tx), .lit (.int .i64 N), .lit (.int .i64 l), .lit (.int .i64 c), .agg ts, .agg (ns.map fun s => .lit (.string s)), .agg ks]
/-- What is read, and where it goes on; or what is wrong, and where. -/
abbrev Pr (α : Type) := (α × Nat) ⊕ (Int × Nat × Nat)
def Pr.go {α β : Type} (r : Pr α) (f : α -> Nat -> Pr β) : Pr β :=
  match r with
  | .inl (x, a) => f x a
  | .inr e => .inr e
section
variable (ts : List Tok)
def tkA (a : Nat) : Tok := ts.getD a ⟨0, [], 0, 0⟩
def badA {α : Type} (e : Int) (a : Nat) : Pr α := .inr (e, (tkA ts a).line, (tkA ts a).col)
def seesA (a : Nat) (s : List UInt8) : Bool := ((tkA ts a).kind == 2 || (tkA ts a).kind == 5) && (tkA ts a).text == s
def wantA (a : Nat) (s : List UInt8) : Pr Unit := if seesA ts a s then .inl ((), a + 1) else badA ts 7 a
def nameA (a : Nat) : Pr (List UInt8) := if (tkA ts a).kind == 1 then .inl ((tkA ts a).text, a + 1) else badA ts 7 a
/-- One and more, with this between two. -/
def manyA {α : Type} (one : Nat -> Pr α) (sep : List UInt8) : Nat -> Nat -> Pr (List α)
  | 0, a => badA ts 7 a
  | f + 1, a => (one a).go fun x a => if seesA ts a sep then (manyA one sep f (a + 1)).go fun l a => .inl (x :: l, a) else .inl ([x], a)
def fieldA {α : Type} (K : Nat -> Pr α) (a : Nat) : Pr (List UInt8 × α) := (nameA ts a).go fun s a => (wantA ts a [58]).go fun _ a => (K a).go fun t a => .inl ((s, t), a)
def primA (K : Nat -> Pr Ty) (f a : Nat) : Pr Ty :=
  if seesA ts a (baseV 0) then .inl (mkT 0 [] [] [], a + 1)
  else if seesA ts a (baseV 1) then .inl (mkT 1 [] [] [], a + 1)
  else if seesA ts a (baseV 2) then .inl (mkT 2 [] [] [], a + 1)
  else if seesA ts a (baseV 3) then .inl (mkT 3 [] [] [], a + 1)
  else if seesA ts a (baseV 4) then .inl (mkT 4 [] [] [], a + 1)
  else if seesA ts a [40] then (K (a + 1)).go fun t a => (wantA ts a [41]).go fun _ a => .inl (t, a)
  else if seesA ts a [123] then
    if seesA ts (a + 1) [125] then .inl (mkT 5 [] [] [], a + 2)
    else (manyA ts (fieldA ts K) [44] f (a + 1)).go fun l a => (wantA ts a [125]).go fun _ a => .inl (mkT 5 [] (l.map (·.1)) (l.map (·.2)), a)
  else (nameA ts a).go fun s a => .inl (mkT 8 s [] [], a)
def altA (K : Nat -> Pr Ty) (f a : Nat) : Pr Ty := (manyA ts (primA ts K f) [124] f a).go fun l a => match l with
  | [t] => .inl (t, a)
  | l => .inl (mkT 7 [] [] l, a)
/-- type, that stands within d others; n: what is left of the depth. -/
def kindA (f : Nat) : Nat -> Nat -> Nat -> Pr Ty
  | 0, _, a => badA ts 6 a
  | n + 1, d, a => if 100 <= d then badA ts 6 a else (altA ts (kindA f n (d + 1)) f a).go fun t a => if seesA ts a [45, 62] then (kindA f n (d + 1) (a + 1)).go fun r a => .inl (mkT 6 [] [] [t, r], a) else .inl (t, a)
/-- A type behind a colon, if there is one. -/
def noteA (K : Nat -> Pr Ty) (a : Nat) : Pr (List Ty) := if seesA ts a [58] then (K (a + 1)).go fun t a => .inl ([t], a) else .inl ([], a)
def headA (K : Nat -> Pr Ty) (a : Nat) : Pr (List UInt8 × List Ty) := (wantA ts a [40]).go fun _ a => (nameA ts a).go fun s a => (noteA ts K a).go fun x a => (wantA ts a [41]).go fun _ a => (noteA ts K a).go fun y a => .inl ((s, (if x.isEmpty then [mkT 0 [] [] []] else x) ++ y), a)
def lineA (a : Nat) : Nat := (tkA ts a).line
def colA (a : Nat) : Nat := (tkA ts a).col
/-- Operations of one rank, from the left. -/
def leftA (signs : List (List UInt8)) (sub : Nat -> Pr Ty) : Nat -> Ty -> Nat -> Pr Ty
  | 0, _, a => badA ts 7 a
  | f + 1, x, a => match signs.find? (seesA ts a) with
    | none => .inl (x, a)
    | some s => (sub (a + 1)).go fun y b => leftA signs sub f (mkE 14 s 0 (lineA ts a) (colA ts a) [] [] [x, y]) b
def ranksL : List (List (List UInt8)) := [[[111, 114]], [[97, 110, 100]], [[60], [60, 61], [61, 61]], [[43, 43]], [[43], [45], [94]], [[42], [47], [37], [38], [60, 60], [62, 62]]]
def tagsA : List (List UInt8) := [[110, 117, 108, 108], [98, 111, 111, 108], [105, 110, 116], [115, 116, 114], [114, 101, 99, 111, 114, 100], [102, 117, 110, 99, 116, 105, 111, 110]]
def cmpA (K : Nat -> Pr Ty) (sub : Nat -> Pr Ty) (a : Nat) : Pr Ty := (sub a).go fun x a => match ([[60], [60, 61], [61, 61]] : List (List UInt8)).find? (seesA ts a) with
  | some s => (sub (a + 1)).go fun y b => .inl (mkE 14 s 0 (lineA ts a) (colA ts a) [] [] [x, y], b)
  | none =>
    if seesA ts a [97, 115] then (K (a + 1)).go fun t b => .inl (mkE 13 [] 0 (lineA ts a) (colA ts a) [t] [] [x], b)
    else if seesA ts a [105, 115] then match tagsA.findIdx? (seesA ts (a + 1)) with
      | some i => .inl (mkE 12 [] i (lineA ts a) (colA ts a) [] [] [x], a + 2)
      | none => badA ts 7 (a + 1)
    else .inl (x, a)
/-- or, and, cmp, cat, sum, term; U: unary. -/
def termA (U : Nat -> Pr Ty) (f a : Nat) : Pr Ty := (U a).go fun x a => leftA ts [[42], [47], [37], [38], [60, 60], [62, 62]] U f x a
def sumA (U : Nat -> Pr Ty) (f a : Nat) : Pr Ty := (termA ts U f a).go fun x a => leftA ts [[43], [45], [94]] (termA ts U f) f x a
def catA (U : Nat -> Pr Ty) (f a : Nat) : Pr Ty := (sumA ts U f a).go fun x a => leftA ts [[43, 43]] (sumA ts U f) f x a
def andA (K U : Nat -> Pr Ty) (f a : Nat) : Pr Ty := (cmpA ts K (catA ts U f) a).go fun x a => leftA ts [[97, 110, 100]] (cmpA ts K (catA ts U f)) f x a
def orA (K U : Nat -> Pr Ty) (f a : Nat) : Pr Ty := (andA ts K U f a).go fun x a => leftA ts [[111, 114]] (andA ts K U f) f x a
/-- expr, behind its depth: E: an expr within. -/
def exprA (K E U : Nat -> Pr Ty) (f a : Nat) : Pr Ty :=
  if seesA ts a [108, 101, 116] then (nameA ts (a + 1)).go fun s b => (noteA ts K b).go fun t b => (wantA ts b [61]).go fun _ b => (E b).go fun v b => (wantA ts b [59]).go fun _ b => (E b).go fun r b => .inl (mkE 5 s 0 (lineA ts a) (colA ts a) t [] [v, r], b)
  else if seesA ts a [105, 102] then (E (a + 1)).go fun c b => (wantA ts b [116, 104, 101, 110]).go fun _ b => (E b).go fun x b => (wantA ts b [101, 108, 115, 101]).go fun _ b => (E b).go fun y b => .inl (mkE 11 [] 0 (lineA ts a) (colA ts a) [] [] [c, x, y], b)
  else if seesA ts a [102, 110] then (headA ts K (a + 1)).go fun h b => (wantA ts b [61, 62]).go fun _ b => (E b).go fun x b => .inl (mkE 6 h.1 0 (lineA ts a) (colA ts a) h.2 [] [x], b)
  else orA ts K U f a
/-- A record, or a record with a field, behind its bracket, which stands at a. -/
def recA (E : Nat -> Pr Ty) (f a : Nat) : Pr Ty :=
  if seesA ts (a + 1) [125] then .inl (mkE 8 [] 0 (lineA ts a) (colA ts a) [] [] [], a + 2)
  else if (tkA ts (a + 1)).kind == 1 && ((tkA ts (a + 2)).kind == 5 && (tkA ts (a + 2)).text == [58]) then (manyA ts (fieldA ts E) [44] f (a + 1)).go fun l b => (wantA ts b [125]).go fun _ b => .inl (mkE 8 [] 0 (lineA ts a) (colA ts a) [] (l.map (·.1)) (l.map (·.2)), b)
  else (E (a + 1)).go fun x b => (wantA ts b [119, 105, 116, 104]).go fun _ b => (nameA ts b).go fun s b => (wantA ts b [58]).go fun _ b => (E b).go fun y b => (wantA ts b [125]).go fun _ b => .inl (mkE 10 s 0 (lineA ts a) (colA ts a) [] [] [x, y], b)
def atomA (K E : Nat -> Pr Ty) (f a : Nat) : Pr Ty :=
  if (tkA ts a).kind == 3 then .inl (mkE 0 [] ((parseV (tkA ts a).text).getD 0) (lineA ts a) (colA ts a) [] [] [], a + 1)
  else if (tkA ts a).kind == 4 then .inl (mkE 1 (tkA ts a).text 0 (lineA ts a) (colA ts a) [] [] [], a + 1)
  else if seesA ts a [116, 114, 117, 101] then .inl (mkE 2 [] 1 (lineA ts a) (colA ts a) [] [] [], a + 1)
  else if seesA ts a [102, 97, 108, 115, 101] then .inl (mkE 2 [] 0 (lineA ts a) (colA ts a) [] [] [], a + 1)
  else if seesA ts a [110, 117, 108, 108] then .inl (mkE 3 [] 0 (lineA ts a) (colA ts a) [] [] [], a + 1)
  else if seesA ts a [114, 101, 97, 100] then (wantA ts (a + 1) [40]).go fun _ b => (wantA ts b [41]).go fun _ b => .inl (mkE 18 [] 0 (lineA ts a) (colA ts a) [] [] [], b)
  else if seesA ts a [112, 114, 105, 110, 116] then (wantA ts (a + 1) [40]).go fun _ b => (E b).go fun x b => (wantA ts b [41]).go fun _ b => .inl (mkE 17 [] 0 (lineA ts a) (colA ts a) [] [] [x], b)
  else if seesA ts a [40] then (E (a + 1)).go fun x b => (wantA ts b [41]).go fun _ b => .inl (x, b)
  else if seesA ts a [123] then recA ts E f a
  else (nameA ts a).go fun s b => if seesA ts b [91] then (manyA ts K [44] f (b + 1)).go fun l b => (wantA ts b [93]).go fun _ b => .inl (mkE 19 s 0 (lineA ts a) (colA ts a) l [] [], b) else .inl (mkE 4 s 0 (lineA ts a) (colA ts a) [] [] [], b)
/-- What stands behind an atom. -/
def postA (E : Nat -> Pr Ty) : Nat -> Ty -> Nat -> Pr Ty
  | 0, _, a => badA ts 7 a
  | f + 1, x, a =>
    if seesA ts a [40] then (E (a + 1)).go fun y b => (wantA ts b [41]).go fun _ b => postA E f (mkE 7 [] 0 (lineA ts a) (colA ts a) [] [] [x, y]) b
    else if seesA ts a [46] then (nameA ts (a + 1)).go fun s b => postA E f (mkE 9 s 0 (lineA ts a) (colA ts a) [] [] [x]) b
    else .inl (x, a)
/-- expr (false), unary (true), that stands within d others. -/
def deepA (f : Nat) : Nat -> Bool -> Nat -> Nat -> Pr Ty
  | 0, _, _, a => badA ts 6 a
  | n + 1, u, d, a => if 100 <= d then badA ts 6 a else
    match u with
    | false => exprA ts (kindA ts f 101 (d + 1)) (deepA f n false (d + 1)) (deepA f n true (d + 1)) f a
    | true =>
      if seesA ts a [45] then (deepA f n true (d + 1) (a + 1)).go fun x b => .inl (mkE 16 [] 0 (lineA ts a) (colA ts a) [] [] [x], b)
      else if seesA ts a [110, 111, 116] then (deepA f n true (d + 1) (a + 1)).go fun x b => .inl (mkE 15 [] 0 (lineA ts a) (colA ts a) [] [] [x], b)
      else (atomA ts (kindA ts f 101 (d + 1)) (deepA f n false (d + 1)) f a).go fun x b => postA ts (deepA f n false (d + 1)) f x b
def varA (K : Nat -> Pr Ty) (a : Nat) : Pr (List UInt8 × Ty) := (nameA ts a).go fun s b => if seesA ts b [60, 58] then (K (b + 1)).go fun t b => .inl ((s, t), b) else .inl ((s, mkT 0 [] [] []), b)
def varsA (K : Nat -> Pr Ty) (f a : Nat) : Pr (List (List UInt8 × Ty)) := if seesA ts a [91] then (manyA ts (varA ts K) [44] f (a + 1)).go fun l b => (wantA ts b [93]).go fun _ b => .inl (l, b) else .inl ([], a)
/-- Imports: from, names, place. -/
def mkI (from' : List UInt8) (ns : List (List UInt8)) (l c : Nat) : Ty := .agg [.lit (.string from'), .agg (ns.map fun s => .lit (.string s)), .lit (.int .i64 l), .lit (.int .i64 c)]
/-- Functions: name, whether exported, variables, parameter, types, body, place. -/
def mkD (nm : List UInt8) (ex : Bool) (vs : List (List UInt8 × Ty)) (pm : List UInt8) (tys : List Ty) (body : Ty) (l c : Nat) : Ty := .agg [.lit (.string nm), .lit (.bool ex), .agg (vs.map fun v => .agg [.lit (.string v.1), v.2]), .lit (.string pm), .agg tys, body, .lit (.int .i64 l), .lit (.int .i64 c)]
def importsA : Nat -> Nat -> Pr (List Ty)
  | 0, a => badA ts 7 a
  | f + 1, a => if seesA ts a [105, 109, 112, 111, 114, 116] then (nameA ts (a + 1)).go fun s b => (wantA ts b [58]).go fun _ b => (manyA ts (nameA ts) [44] ts.length b).go fun l b => (wantA ts b [59]).go fun _ b => (importsA f b).go fun r b => .inl (mkI s l (lineA ts a) (colA ts a) :: r, b) else .inl ([], a)
def declA (a : Nat) : Pr Ty :=
  let ex := seesA ts a [101, 120, 112, 111, 114, 116]
  let a := if ex then a + 1 else a
  (wantA ts a [102, 110]).go fun _ b => (nameA ts b).go fun s b => (varsA ts (kindA ts ts.length 101 0) ts.length b).go fun vs b => (headA ts (kindA ts ts.length 101 0) b).go fun h b => (wantA ts b [61]).go fun _ b => (deepA ts ts.length 101 false 0 b).go fun x b => (wantA ts b [59]).go fun _ b =>
    .inl (mkD s ex vs h.1 (if h.2.length = 1 then h.2 ++ [mkT 0 [] [] []] else h.2) x (lineA ts a) (colA ts a), b)
def declsA : Nat -> Nat -> Pr (List Ty)
  | 0, a => badA ts 7 a
  | f + 1, a => if (tkA ts a).kind == 0 then .inl ([], a) else (declA ts a).go fun d b => (declsA f b).go fun r b => .inl (d :: r, b)
def moduleA : Pr (List Ty × List Ty) := (importsA ts ts.length 0).go fun i a => (declsA ts (ts.length + 1) a).go fun d a => .inl ((i, d), a)
def endA {α : Type} (r : Pr α) : Pr α := r.go fun x a => if (tkA ts a).kind == 0 then .inl (x, a) else badA ts 7 a
end
/-- A whole text that is one type, or one expression. -/
def typeTextV (l : List UInt8) : Ty ⊕ (Int × Nat × Nat) := match lexV l with
  | .inr e => .inr e
  | .inl ts => match endA ts (kindA ts ts.length 101 0 0) with
    | .inl (t, _) => .inl t
    | .inr e => .inr e
def exprTextV (l : List UInt8) : Ty ⊕ (Int × Nat × Nat) := match lexV l with
  | .inr e => .inr e
  | .inl ts => match endA ts (deepA ts ts.length 101 false 0 0) with
    | .inl (t, _) => .inl t
    | .inr e => .inr e
def moduleTextV (l : List UInt8) : (List Ty × List Ty) ⊕ (Int × Nat × Nat) := match lexV l with
  | .inr e => .inr e
  | .inl ts => match endA ts (moduleA ts) with
    | .inl (t, _) => .inl t
    | .inr e => .inr e
end Go.Proofs.YtlhmofphpfdjlaaGreatDoor
/- Expressions that lie in memory that was made from some block on, in full: places, Types, Names, Kids. -/
namespace Go.Proofs.YtlhmofphpfdjlaaGreatDoor
open Go.Proofs.Tryz
open Go.RowKit
/-- The parts of a node. -/
structure NV where
  k : Int
  tx : ByteArray
  N : Int
  li : Nat
  co : Nat
  ta : Option Addr
  tl : Nat
  tc : Nat
  na : Option Addr
  nl : Nat
  nc : Nat
  ka : Option Addr
  kl : Nat
  kc : Nat
abbrev NV.val (x : NV) : Value := .agg #[.int .i64 x.k, .string x.tx, .int .i64 x.N, .int .i64 x.li, .int .i64 x.co, .slice x.ta x.tl x.tc, .slice x.na x.nl x.nc, .slice x.ka x.kl x.kc]
abbrev NV.obj (x : NV) : Obj := .cells #[.int .i64 x.k, .string x.tx, .int .i64 x.N, .int .i64 x.li, .int .i64 x.co, .slice x.ta x.tl x.tc, .slice x.na x.nl x.nc, .slice x.ka x.kl x.kc] 27
/-- Its eight cells. -/
def NVCells (w : World) (b o : Nat) (x : NV) : Prop :=
  w.cell? ⟨b, o, none⟩ = some (.int .i64 x.k) /\ w.cell? ⟨b, o + 1, none⟩ = some (.string x.tx) /\ w.cell? ⟨b, o + 2, none⟩ = some (.int .i64 x.N) /\ w.cell? ⟨b, o + 3, none⟩ = some (.int .i64 x.li) /\ w.cell? ⟨b, o + 4, none⟩ = some (.int .i64 x.co) /\
  w.cell? ⟨b, o + 5, none⟩ = some (.slice x.ta x.tl x.tc) /\ w.cell? ⟨b, o + 6, none⟩ = some (.slice x.na x.nl x.nc) /\ w.cell? ⟨b, o + 7, none⟩ = some (.slice x.ka x.kl x.kc)
def NVRow (w : World) (lo : Nat) (T : NV -> Ty -> Prop) (ka : Option Addr) (ks : List Ty) : Prop :=
  ks = [] ∨ ∃ b o, ka = some ⟨b, o, none⟩ /\ lo <= b /\ CleanB w b /\ ∀ i (h : i < ks.length), ∃ x, NVCells w b (o + i * 8) x /\ T x ks[i]
/-- The parts x are an expression, at most n deep (its types at most n deep too), whose tree is D, in memory from block lo on. -/
def NodeF (w : World) (lo : Nat) : Nat -> NV -> Ty -> Prop
  | 0, _, _ => False
  | n + 1, x, D => ∃ (tys : List Ty) (ns : List (List UInt8)) (ks : List Ty), D = mkE x.k x.tx.data.toList x.N x.li x.co tys ns ks /\ (x.tl = tys.length /\ x.nl = ns.length /\ x.kl = ks.length) /\
    (tys.length <= 100000 /\ ns.length <= 100000 /\ ks.length <= 100000) /\ KidsF w lo n x.ta tys /\ NamesF w lo x.na ns /\ NVRow w lo (NodeF w lo n) x.ka ks
abbrev NodesF (w : World) (lo n : Nat) (ka : Option Addr) (ks : List Ty) : Prop := NVRow w lo (NodeF w lo n) ka ks
section
variable {w w' : World} {lo lo' n m : Nat} {x : NV} {D : Ty} {ka : Option Addr} {ks : List Ty}
theorem NVCells.keep {b o : Nat} (h : NVCells w b o x) (hk : w'.heap[b]? = w.heap[b]?) : NVCells w' b o x := by
  have hc : ∀ j, w'.cell? ⟨b, j, none⟩ = w.cell? ⟨b, j, none⟩ := fun j => World.cell?_of_block (w := w) (a := ⟨b, j, none⟩) hk
  obtain ⟨h0, h1, h2, h3, h4, h5, h6, h7⟩ := h
  exact ⟨(hc _).trans h0, (hc _).trans h1, (hc _).trans h2, (hc _).trans h3, (hc _).trans h4, (hc _).trans h5, (hc _).trans h6, (hc _).trans h7⟩
theorem namesF_keep {a : Option Addr} {ns : List (List UInt8)} (h : NamesF w lo a ns) (hsz : w.heap.size <= w'.heap.size) (hk : ∀ b, lo <= b -> b < w.heap.size -> w'.heap[b]? = w.heap[b]?) : NamesF w' lo a ns := by
  rcases h with h8 | ⟨b, o, e, hl, hlt, hc⟩
  · exact .inl h8
  · exact .inr ⟨b, o, e, hl, Nat.lt_of_lt_of_le hlt hsz, fun i hi => (World.cell?_of_block (w := w) (a := ⟨b, o + i, none⟩) (hk b hl hlt)).trans (hc i hi)⟩
theorem kidsF_keep (h : KidsF w lo n ka ks) (hsz : w.heap.size <= w'.heap.size) (hk : ∀ b, lo <= b -> b < w.heap.size -> w'.heap[b]? = w.heap[b]?) : KidsF w' lo n ka ks := by
  rcases h with h9 | ⟨b, o, e, hl, hcl, hc⟩
  · exact .inl h9
  · have hlt := clean_lt hcl
    have hcl' : CleanB w' b := by
      obtain ⟨cs, t, hh⟩ := hcl
      exact ⟨cs, t, (hk b hl hlt).trans hh⟩
    refine .inr ⟨b, o, e, hl, hcl', fun i hi => ?_⟩
    obtain ⟨c0, c1, c2, c3, e0, e1, e2, e3, ht⟩ := hc i hi
    have hcell : ∀ j, w'.cell? ⟨b, j, none⟩ = w.cell? ⟨b, j, none⟩ := fun j => World.cell?_of_block (w := w) (a := ⟨b, j, none⟩) (hk b hl hlt)
    exact ⟨c0, c1, c2, c3, (hcell _).trans e0, (hcell _).trans e1, (hcell _).trans e2, (hcell _).trans e3, tyF_keep ht hsz hk⟩
/-- It stays while blocks from lo on stay. -/
theorem nodeF_keep (h : NodeF w lo n x D) (hsz : w.heap.size <= w'.heap.size) (hk : ∀ b, lo <= b -> b < w.heap.size -> w'.heap[b]? = w.heap[b]?) : NodeF w' lo n x D := by
  induction n generalizing x D with
  | zero => exact h.elim
  | succ n ih =>
    obtain ⟨tys, ns, ks, e, h1, h2, h3, h4, h5⟩ := h
    refine ⟨tys, ns, ks, e, h1, h2, kidsF_keep h3 hsz hk, namesF_keep h4 hsz hk, ?_⟩
    rcases h5 with h5 | ⟨b, o, e, hl, hcl, hc⟩
    · exact .inl h5
    · have hlt := clean_lt hcl
      have hcl' : CleanB w' b := by
        obtain ⟨cs, t, hh⟩ := hcl
        exact ⟨cs, t, (hk b hl hlt).trans hh⟩
      refine .inr ⟨b, o, e, hl, hcl', fun i hi => ?_⟩
      obtain ⟨y, hy, ht⟩ := hc i hi
      exact ⟨y, hy.keep (hk b hl hlt), ih ht⟩
theorem nodeF_below (h : NodeF w lo n x D) (hb : Below w.heap.size w w') : NodeF w' lo n x D := nodeF_keep h hb.size fun b _ hlt => hb.block b hlt
theorem nodesF_keep (h : NodesF w lo n ka ks) (hsz : w.heap.size <= w'.heap.size) (hk : ∀ b, lo <= b -> b < w.heap.size -> w'.heap[b]? = w.heap[b]?) : NodesF w' lo n ka ks := by
  rcases h with h5 | ⟨b, o, e, hl, hcl, hc⟩
  · exact .inl h5
  · have hlt := clean_lt hcl
    have hcl' : CleanB w' b := by
      obtain ⟨cs, t, hh⟩ := hcl
      exact ⟨cs, t, (hk b hl hlt).trans hh⟩
    refine .inr ⟨b, o, e, hl, hcl', fun i hi => ?_⟩
    obtain ⟨y, hy, ht⟩ := hc i hi
    exact ⟨y, hy.keep (hk b hl hlt), nodeF_keep ht hsz hk⟩
theorem nodesF_below (h : NodesF w lo n ka ks) (hb : Below w.heap.size w w') : NodesF w' lo n ka ks := nodesF_keep h hb.size fun b _ hlt => hb.block b hlt
theorem kidsF_stay (h : KidsF w lo n ka ks) (hb : Below w.heap.size w w') : KidsF w' lo n ka ks := kidsF_keep h hb.size fun b _ hlt => hb.block b hlt
theorem namesF_stay {a : Option Addr} {ns : List (List UInt8)} (h : NamesF w lo a ns) (hb : Below w.heap.size w w') : NamesF w' lo a ns := namesF_keep h hb.size fun b _ hlt => hb.block b hlt
theorem node_at (h : NodesF w lo n ka ks) {i : Nat} (hi : i < ks.length) : ∃ b o y, ka = some ⟨b, o, none⟩ /\ b < w.heap.size /\ NVCells w b (o + i * 8) y /\ NodeF w lo n y ks[i] := by
  rcases h with rfl | ⟨b, o, rfl, _, hcl, hc⟩
  · cases hi
  · obtain ⟨y, hy, ht⟩ := hc i hi
    exact ⟨b, o, y, rfl, clean_lt hcl, hy, ht⟩
end
theorem mkE_inj {k k' : Int} {tx tx' : List UInt8} {N N' : Int} {l l' c c' : Nat} {ts ts' : List Ty} {ns ns' : List (List UInt8)} {ks ks' : List Ty} (h : mkE k tx N l c ts ns ks = mkE k' tx' N' l' c' ts' ns' ks') : k = k' /\ tx = tx' /\ N = N' /\ l = l' /\ c = c' /\ ts = ts' /\ ns = ns' /\ ks = ks' := by
  unfold mkE at h
  simp only [DataW.agg.injEq, List.cons.injEq, DataW.lit.injEq, Lit.int.injEq, Lit.string.injEq, true_and, and_true] at h
  obtain ⟨h1, h2, h3, h4, h5, h6, h7, h8⟩ := h
  refine ⟨h1, h2, h3, by omega, by omega, h6, ?_, h8⟩
  have := congrArg (List.map strD) h7
  rw [List.map_map, List.map_map] at this
  have hid : ∀ l : List (List UInt8), l.map (strD ∘ fun s => (DataW.lit (.string s) : Ty)) = l := fun l => List.map_id _
  rw [hid, hid] at this
  exact this
/-- The cells of a box that holds a node. -/
theorem nv_facts {w1 : World} {b : Nat} {x : NV} (h : w1.heap[b]? = some x.obj) : NVCells w1 b 0 x /\ b < w1.heap.size := by
  refine ⟨⟨?_, ?_, ?_, ?_, ?_, ?_, ?_, ?_⟩, lt_of_block h⟩
  all_goals (rw [cell_of_row _ _ _ _ _ _ h]; rfl)
end Go.Proofs.YtlhmofphpfdjlaaGreatDoor
/- Where a fault lies: whatever is read goes on at a token, or is wrong at a token, with one of two errors; without a program in sight. -/
namespace Go.Proofs.YtlhmofphpfdjlaaGreatDoor
open Go.Proofs.Tryz
/-- It goes on at a token, or is wrong at one. -/
def OkP {α : Type} (ts : List Tok) (r : Pr α) : Prop :=
  match r with
  | .inl (_, a) => a < ts.length
  | .inr (e, l, c) => (e = 6 ∨ e = 7) /\ ∃ t ∈ ts, t.line = l /\ t.col = c
/-- The last token alone is the end. -/
def EndsT (ts : List Tok) : Prop := ∀ a, a < ts.length -> (tkA ts a).kind ≠ 0 -> a + 1 < ts.length
section
variable {ts : List Tok} {α β : Type}
theorem tok_in {a : Nat} (h : a < ts.length) : tkA ts a ∈ ts := by
  unfold tkA
  rw [List.getD_eq_getElem?_getD, List.getElem?_eq_getElem h]
  exact List.getElem_mem h
theorem bad_ok {e : Int} (he : e = 6 ∨ e = 7) {a : Nat} (h : a < ts.length) : OkP ts (badA ts e a : Pr α) := ⟨he, _, tok_in h, rfl, rfl⟩
theorem go_ok {r : Pr α} {f : α -> Nat -> Pr β} (h : OkP ts r) (hf : ∀ x a, a < ts.length -> OkP ts (f x a)) : OkP ts (r.go f) := by
  unfold Pr.go
  match r, h with
  | .inl (x, a), h => exact hf x a h
  | .inr _, h => exact h
theorem ite_ok {c : Prop} [Decidable c] {x y : Pr α} (h1 : c -> OkP ts x) (h2 : ¬ c -> OkP ts y) : OkP ts (if c then x else y) := by
  by_cases h : c
  · rw [if_pos h]
    exact h1 h
  · rw [if_neg h]
    exact h2 h
theorem sees_next (hE : EndsT ts) {a : Nat} {s : List UInt8} (h : a < ts.length) (hs : seesA ts a s = true) : a + 1 < ts.length := by
  refine hE a h fun h0 => ?_
  unfold seesA at hs
  rw [h0] at hs
  simp at hs
theorem want_ok (hE : EndsT ts) {a : Nat} (s : List UInt8) (h : a < ts.length) : OkP ts (wantA ts a s) := by
  unfold wantA
  split
  · rename_i hs
    exact sees_next hE h hs
  · exact bad_ok (.inr rfl) h
theorem name_ok (hE : EndsT ts) {a : Nat} (h : a < ts.length) : OkP ts (nameA ts a) := by
  unfold nameA
  split
  · rename_i hs
    exact hE a h fun h0 => by rw [h0] at hs; simp at hs
  · exact bad_ok (.inr rfl) h
theorem many_ok (hE : EndsT ts) {one : Nat -> Pr α} (hone : ∀ a, a < ts.length -> OkP ts (one a)) (sep : List UInt8) : ∀ (f a : Nat), a < ts.length -> OkP ts (manyA ts one sep f a)
  | 0, _, h => bad_ok (.inr rfl) h
  | f + 1, a, h => by
    rw [manyA]
    refine go_ok (hone a h) fun x b hb => ?_
    split
    · rename_i hs
      exact go_ok (many_ok hE hone sep f (b + 1) (sees_next hE hb hs)) fun _ _ hc => hc
    · exact hb
theorem field_ok (hE : EndsT ts) {K : Nat -> Pr α} (hK : ∀ a, a < ts.length -> OkP ts (K a)) {a : Nat} (h : a < ts.length) : OkP ts (fieldA ts K a) :=
  go_ok (name_ok hE h) fun _ _ h1 => go_ok (want_ok hE _ h1) fun _ _ h2 => go_ok (hK _ h2) fun _ _ h3 => h3
theorem prim_ok (hE : EndsT ts) {K : Nat -> Pr Ty} (hK : ∀ a, a < ts.length -> OkP ts (K a)) (f : Nat) {a : Nat} (h : a < ts.length) : OkP ts (primA ts K f a) := by
  unfold primA
  split
  · rename_i hs; exact sees_next hE h hs
  split
  · rename_i hs; exact sees_next hE h hs
  split
  · rename_i hs; exact sees_next hE h hs
  split
  · rename_i hs; exact sees_next hE h hs
  split
  · rename_i hs; exact sees_next hE h hs
  split
  · rename_i hs
    exact go_ok (hK _ (sees_next hE h hs)) fun _ _ h1 => go_ok (want_ok hE _ h1) fun _ _ h2 => h2
  split
  · rename_i hs
    have h1 := sees_next hE h hs
    split
    · rename_i hs2; exact sees_next hE h1 hs2
    · exact go_ok (many_ok hE (fun _ h => field_ok hE hK h) _ f _ h1) fun _ _ h2 => go_ok (want_ok hE _ h2) fun _ _ h3 => h3
  · exact go_ok (name_ok hE h) fun _ _ h1 => h1
theorem alt_ok (hE : EndsT ts) {K : Nat -> Pr Ty} (hK : ∀ a, a < ts.length -> OkP ts (K a)) (f : Nat) {a : Nat} (h : a < ts.length) : OkP ts (altA ts K f a) := by
  unfold altA
  refine go_ok (many_ok hE (fun _ h => prim_ok hE hK f h) _ f _ h) fun l b h1 => ?_
  split <;> exact h1
theorem kind_ok (hE : EndsT ts) (f : Nat) : ∀ (n d a : Nat), a < ts.length -> OkP ts (kindA ts f n d a)
  | 0, _, _, h => bad_ok (.inl rfl) h
  | n + 1, d, a, h => by
    rw [kindA]
    split
    · exact bad_ok (.inl rfl) h
    · refine go_ok (alt_ok hE (fun a h => kind_ok hE f n (d + 1) a h) f h) fun t b hb => ?_
      split
      · rename_i hs
        exact go_ok (kind_ok hE f n (d + 1) (b + 1) (sees_next hE hb hs)) fun _ _ hc => hc
      · exact hb
theorem note_ok (hE : EndsT ts) {K : Nat -> Pr Ty} (hK : ∀ a, a < ts.length -> OkP ts (K a)) {a : Nat} (h : a < ts.length) : OkP ts (noteA ts K a) := by
  unfold noteA
  split
  · rename_i hs
    exact go_ok (hK _ (sees_next hE h hs)) fun _ _ h1 => h1
  · exact h
theorem head_ok (hE : EndsT ts) {K : Nat -> Pr Ty} (hK : ∀ a, a < ts.length -> OkP ts (K a)) {a : Nat} (h : a < ts.length) : OkP ts (headA ts K a) :=
  go_ok (want_ok hE _ h) fun _ _ h1 => go_ok (name_ok hE h1) fun _ _ h2 => go_ok (note_ok hE hK h2) fun _ _ h3 => go_ok (want_ok hE _ h3) fun _ _ h4 => go_ok (note_ok hE hK h4) fun _ _ h5 => h5
theorem find_sees {signs : List (List UInt8)} {a : Nat} {s : List UInt8} (h : signs.find? (seesA ts a) = some s) : seesA ts a s = true := List.find?_some h
theorem left_ok (hE : EndsT ts) (signs : List (List UInt8)) {sub : Nat -> Pr Ty} (hs : ∀ a, a < ts.length -> OkP ts (sub a)) : ∀ (f : Nat) (x : Ty) (a : Nat), a < ts.length -> OkP ts (leftA ts signs sub f x a)
  | 0, _, _, h => bad_ok (.inr rfl) h
  | f + 1, x, a, h => by
    rw [leftA]
    split
    · exact h
    · rename_i s hf
      exact go_ok (hs _ (sees_next hE h (find_sees hf))) fun y b hb => left_ok hE signs hs f _ b hb
theorem cmp_ok (hE : EndsT ts) {K sub : Nat -> Pr Ty} (hK : ∀ a, a < ts.length -> OkP ts (K a)) (hs : ∀ a, a < ts.length -> OkP ts (sub a)) {a : Nat} (h : a < ts.length) : OkP ts (cmpA ts K sub a) := by
  unfold cmpA
  refine go_ok (hs _ h) fun x b hb => ?_
  split
  · rename_i s hf
    exact go_ok (hs _ (sees_next hE hb (find_sees hf))) fun _ _ hc => hc
  · split
    · rename_i h1
      exact go_ok (hK _ (sees_next hE hb h1)) fun _ _ hc => hc
    · split
      · rename_i h1
        have hb1 := sees_next hE hb h1
        split
        · rename_i i hi
          obtain ⟨hlt, h2, _⟩ := List.findIdx?_eq_some_iff_getElem.1 hi
          exact sees_next hE hb1 h2
        · exact bad_ok (.inr rfl) hb1
      · exact hb
section
variable {K E U : Nat -> Pr Ty}
theorem term_ok (hE : EndsT ts) (hU : ∀ a, a < ts.length -> OkP ts (U a)) (f : Nat) {a : Nat} (h : a < ts.length) : OkP ts (termA ts U f a) := go_ok (hU _ h) fun x b hb => left_ok hE _ hU f x b hb
theorem sum_ok (hE : EndsT ts) (hU : ∀ a, a < ts.length -> OkP ts (U a)) (f : Nat) {a : Nat} (h : a < ts.length) : OkP ts (sumA ts U f a) := go_ok (term_ok hE hU f h) fun x b hb => left_ok hE _ (fun _ h => term_ok hE hU f h) f x b hb
theorem cat_ok (hE : EndsT ts) (hU : ∀ a, a < ts.length -> OkP ts (U a)) (f : Nat) {a : Nat} (h : a < ts.length) : OkP ts (catA ts U f a) := go_ok (sum_ok hE hU f h) fun x b hb => left_ok hE _ (fun _ h => sum_ok hE hU f h) f x b hb
theorem and_ok (hE : EndsT ts) (hK : ∀ a, a < ts.length -> OkP ts (K a)) (hU : ∀ a, a < ts.length -> OkP ts (U a)) (f : Nat) {a : Nat} (h : a < ts.length) : OkP ts (andA ts K U f a) := go_ok (cmp_ok hE hK (fun _ h => cat_ok hE hU f h) h) fun x b hb => left_ok hE _ (fun _ h => cmp_ok hE hK (fun _ h => cat_ok hE hU f h) h) f x b hb
theorem or_ok (hE : EndsT ts) (hK : ∀ a, a < ts.length -> OkP ts (K a)) (hU : ∀ a, a < ts.length -> OkP ts (U a)) (f : Nat) {a : Nat} (h : a < ts.length) : OkP ts (orA ts K U f a) := go_ok (and_ok hE hK hU f h) fun x b hb => left_ok hE _ (fun _ h => and_ok hE hK hU f h) f x b hb
theorem expr_ok (hE : EndsT ts) (hK : ∀ a, a < ts.length -> OkP ts (K a)) (hX : ∀ a, a < ts.length -> OkP ts (E a)) (hU : ∀ a, a < ts.length -> OkP ts (U a)) (f : Nat) {a : Nat} (h : a < ts.length) : OkP ts (exprA ts K E U f a) := by
  unfold exprA
  split
  · rename_i hs
    exact go_ok (name_ok hE (sees_next hE h hs)) fun _ _ h1 => go_ok (note_ok hE hK h1) fun _ _ h2 => go_ok (want_ok hE _ h2) fun _ _ h3 => go_ok (hX _ h3) fun _ _ h4 => go_ok (want_ok hE _ h4) fun _ _ h5 => go_ok (hX _ h5) fun _ _ h6 => h6
  split
  · rename_i hs
    exact go_ok (hX _ (sees_next hE h hs)) fun _ _ h1 => go_ok (want_ok hE _ h1) fun _ _ h2 => go_ok (hX _ h2) fun _ _ h3 => go_ok (want_ok hE _ h3) fun _ _ h4 => go_ok (hX _ h4) fun _ _ h5 => h5
  split
  · rename_i hs
    exact go_ok (head_ok hE hK (sees_next hE h hs)) fun _ _ h1 => go_ok (want_ok hE _ h1) fun _ _ h2 => go_ok (hX _ h2) fun _ _ h3 => h3
  · exact or_ok hE hK hU f h
theorem rec_ok (hE : EndsT ts) (hX : ∀ a, a < ts.length -> OkP ts (E a)) (f : Nat) {a : Nat} (h : a + 1 < ts.length) : OkP ts (recA ts E f a) := by
  unfold recA
  split
  · rename_i hs; exact sees_next hE h hs
  split
  · exact go_ok (many_ok hE (fun _ h => field_ok hE hX h) _ f _ h) fun _ _ h1 => go_ok (want_ok hE _ h1) fun _ _ h2 => h2
  · exact go_ok (hX _ h) fun _ _ h1 => go_ok (want_ok hE _ h1) fun _ _ h2 => go_ok (name_ok hE h2) fun _ _ h3 => go_ok (want_ok hE _ h3) fun _ _ h4 => go_ok (hX _ h4) fun _ _ h5 => go_ok (want_ok hE _ h5) fun _ _ h6 => h6
theorem atom_ok (hE : EndsT ts) (hK : ∀ a, a < ts.length -> OkP ts (K a)) (hX : ∀ a, a < ts.length -> OkP ts (E a)) (f : Nat) {a : Nat} (h : a < ts.length) : OkP ts (atomA ts K E f a) := by
  unfold atomA
  refine ite_ok (fun hs => hE a h fun h0 => by rw [h0] at hs; simp at hs) fun _ => ?_
  refine ite_ok (fun hs => hE a h fun h0 => by rw [h0] at hs; simp at hs) fun _ => ?_
  refine ite_ok (fun hs => sees_next hE h hs) fun _ => ?_
  refine ite_ok (fun hs => sees_next hE h hs) fun _ => ?_
  refine ite_ok (fun hs => sees_next hE h hs) fun _ => ?_
  refine ite_ok (fun hs => go_ok (want_ok hE _ (sees_next hE h hs)) fun _ _ h1 => go_ok (want_ok hE _ h1) fun _ _ h2 => h2) fun _ => ?_
  refine ite_ok (fun hs => go_ok (want_ok hE _ (sees_next hE h hs)) fun _ _ h1 => go_ok (hX _ h1) fun _ _ h2 => go_ok (want_ok hE _ h2) fun _ _ h3 => h3) fun _ => ?_
  refine ite_ok (fun hs => go_ok (hX _ (sees_next hE h hs)) fun _ _ h1 => go_ok (want_ok hE _ h1) fun _ _ h2 => h2) fun _ => ?_
  refine ite_ok (fun hs => rec_ok hE hX f (sees_next hE h hs)) fun _ => ?_
  exact go_ok (name_ok hE h) fun s b hb => ite_ok (fun hs => go_ok (many_ok hE hK _ f _ (sees_next hE hb hs)) fun _ _ h1 => go_ok (want_ok hE _ h1) fun _ _ h2 => h2) fun _ => hb
theorem post_ok (hE : EndsT ts) (hX : ∀ a, a < ts.length -> OkP ts (E a)) : ∀ (f : Nat) (x : Ty) (a : Nat), a < ts.length -> OkP ts (postA ts E f x a)
  | 0, _, _, h => bad_ok (.inr rfl) h
  | f + 1, x, a, h => by
    rw [postA]
    split
    · rename_i hs
      exact go_ok (hX _ (sees_next hE h hs)) fun _ _ h1 => go_ok (want_ok hE _ h1) fun _ _ h2 => post_ok hE hX f _ _ h2
    split
    · rename_i hs
      exact go_ok (name_ok hE (sees_next hE h hs)) fun _ _ h1 => post_ok hE hX f _ _ h1
    · exact h
end
theorem deep_ok (hE : EndsT ts) (f : Nat) : ∀ (n : Nat) (u : Bool) (d a : Nat), a < ts.length -> OkP ts (deepA ts f n u d a)
  | 0, _, _, _, h => bad_ok (.inl rfl) h
  | n + 1, false, d, _, h => ite_ok (fun _ => bad_ok (.inl rfl) h) fun _ => expr_ok hE (fun a h => kind_ok hE f 101 (d + 1) a h) (fun a h => deep_ok hE f n false (d + 1) a h) (fun a h => deep_ok hE f n true (d + 1) a h) f h
  | n + 1, true, d, a, h => ite_ok (fun _ => bad_ok (.inl rfl) h) fun _ =>
    ite_ok (fun hs => go_ok (deep_ok hE f n true (d + 1) (a + 1) (sees_next hE h hs)) fun _ _ h1 => h1) fun _ =>
    ite_ok (fun hs => go_ok (deep_ok hE f n true (d + 1) (a + 1) (sees_next hE h hs)) fun _ _ h1 => h1) fun _ =>
    go_ok (atom_ok hE (fun a h => kind_ok hE f 101 (d + 1) a h) (fun a h => deep_ok hE f n false (d + 1) a h) f h) fun x b hb => post_ok hE (fun a h => deep_ok hE f n false (d + 1) a h) f x b hb
theorem var_ok (hE : EndsT ts) {K : Nat -> Pr Ty} (hK : ∀ a, a < ts.length -> OkP ts (K a)) {a : Nat} (h : a < ts.length) : OkP ts (varA ts K a) := by
  unfold varA
  refine go_ok (name_ok hE h) fun s b hb => ?_
  split
  · rename_i hs
    exact go_ok (hK _ (sees_next hE hb hs)) fun _ _ h1 => h1
  · exact hb
theorem vars_ok (hE : EndsT ts) {K : Nat -> Pr Ty} (hK : ∀ a, a < ts.length -> OkP ts (K a)) (f : Nat) {a : Nat} (h : a < ts.length) : OkP ts (varsA ts K f a) := by
  unfold varsA
  split
  · rename_i hs
    exact go_ok (many_ok hE (fun _ h => var_ok hE hK h) _ f _ (sees_next hE h hs)) fun _ _ h1 => go_ok (want_ok hE _ h1) fun _ _ h2 => h2
  · exact h
theorem imports_ok (hE : EndsT ts) : ∀ (f a : Nat), a < ts.length -> OkP ts (importsA ts f a)
  | 0, _, h => bad_ok (.inr rfl) h
  | f + 1, a, h => by
    rw [importsA]
    split
    · rename_i hs
      exact go_ok (name_ok hE (sees_next hE h hs)) fun _ _ h1 => go_ok (want_ok hE _ h1) fun _ _ h2 => go_ok (many_ok hE (fun _ h => name_ok hE h) _ _ _ h2) fun _ _ h3 => go_ok (want_ok hE _ h3) fun _ _ h4 => go_ok (imports_ok hE f _ h4) fun _ _ h5 => h5
    · exact h
theorem decl_ok (hE : EndsT ts) {a : Nat} (h : a < ts.length) : OkP ts (declA ts a) := by
  unfold declA
  have h0 : (if seesA ts a [101, 120, 112, 111, 114, 116] = true then a + 1 else a) < ts.length := by
    split
    · rename_i hs; exact sees_next hE h hs
    · exact h
  exact go_ok (want_ok hE _ h0) fun _ _ h1 => go_ok (name_ok hE h1) fun _ _ h2 => go_ok (vars_ok hE (fun a h => kind_ok hE _ 101 0 a h) _ h2) fun _ _ h3 => go_ok (head_ok hE (fun a h => kind_ok hE _ 101 0 a h) h3) fun _ _ h4 => go_ok (want_ok hE _ h4) fun _ _ h5 => go_ok (deep_ok hE _ 101 false 0 _ h5) fun _ _ h6 => go_ok (want_ok hE _ h6) fun _ _ h7 => h7
theorem decls_ok (hE : EndsT ts) : ∀ (f a : Nat), a < ts.length -> OkP ts (declsA ts f a)
  | 0, _, h => bad_ok (.inr rfl) h
  | f + 1, a, h => by
    rw [declsA]
    split
    · exact h
    · exact go_ok (decl_ok hE h) fun _ _ h1 => go_ok (decls_ok hE f _ h1) fun _ _ h2 => h2
theorem end_ok {r : Pr α} (h : OkP ts r) : OkP ts (endA ts r) := by
  unfold endA
  refine go_ok h fun x b hb => ?_
  split
  · exact hb
  · exact bad_ok (.inr rfl) hb
theorem module_ok (hE : EndsT ts) (h : 0 < ts.length) : OkP ts (endA ts (moduleA ts)) :=
  end_ok (go_ok (imports_ok hE _ 0 h) fun _ _ h1 => go_ok (decls_ok hE _ _ h1) fun _ _ h2 => h2)
end
end Go.Proofs.YtlhmofphpfdjlaaGreatDoor
