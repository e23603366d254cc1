/- Part. -/
import Derived.Test.YtlhmofphpfdjlaaGreatDoorPart11
set_option maxRecDepth 100000
set_option maxHeartbeats 4000000
/- Names and operations of two: that they fit, and their texts. -/
namespace Go.Proofs.YtlhmofphpfdjlaaGreatDoor
open Go.Proofs.Tryz
open Go.RowKit
/-- Names, and operations of two of these, at most n deep. -/
def NamesOps : Nat -> Ty -> Prop
  | 0, _ => False
  | n + 1, D => (∃ s, D = mkN 4 s 0 [] /\ nameV s = true /\ s.length <= 100) ∨ ∃ o x y, D = mkN 14 o 0 [x, y] /\ opsV.contains o = true /\ o.length <= 100 /\ NamesOps n x /\ NamesOps n y
def SetN (D : Ty) : Prop := ∃ n, NamesOps n D
theorem mkN_inj {k k' : Nat} {a b : List UInt8} {N N' : Nat} {ks ks' : List Ty} (h : mkN k a N ks = mkN k' b N' ks') : k = k' /\ a = b /\ N = N' /\ ks = ks' := by
  obtain ⟨h1, h2, h3, h4⟩ := mkT_inj h
  have := congrArg List.length h3
  simp at this
  exact ⟨by omega, h2, this, h4⟩
theorem setN_kids (D : Ty) (h : SetN D) : ∀ x ∈ kidsT D, SetN x := by
  intro x hx
  obtain ⟨n, h⟩ := h
  cases n with
  | zero => exact h.elim
  | succ n =>
    rcases h with ⟨s, rfl, _⟩ | ⟨o, y, z, rfl, _, _, hy, hz⟩
    · rw [mkN, kids_mk] at hx; cases hx
    · rw [mkN, kids_mk] at hx
      simp at hx
      rcases hx with rfl | rfl
      · exact ⟨n, hy⟩
      · exact ⟨n, hz⟩
theorem strB_of {tx : ByteArray} {a : List UInt8} (h : tx.data.toList = a) : tx = ⟨a.toArray⟩ := by cases tx; cases h; rfl
theorem nd_parts {w : World} {n k : Nat} {tx : ByteArray} {N : Nat} {pq : PX} {ka : Option Addr} {kl kc : Nat} {k' : Nat} {a : List UInt8} {N' : Nat} {ks : List Ty} (h : NdAt w n k tx N pq ka kl kc (mkN k' a N' ks)) : k = k' /\ tx = ⟨a.toArray⟩ /\ N = N' /\ kl = ks.length := by
  cases n with
  | zero => exact h.elim
  | succ n =>
    obtain ⟨ks', e1, e2, _⟩ := h
    obtain ⟨h1, h2, h3, h4⟩ := mkN_inj e2
    exact ⟨h1.symm, strB_of h2.symm, h3.symm, by rw [e1, h4]⟩
theorem fit_all (w : World) (hf : FormsN w) (hw : Words w) (ho : OpsN w) : NFit w SetN fun _ => true := by
  intro n k tx N pq ka kl kc D wx hwx hS hD
  obtain ⟨m, hS⟩ := hS
  cases m with
  | zero => exact hS.elim
  | succ m =>
    rcases hS with ⟨s, rfl, hs, hl⟩ | ⟨o, y, z, rfl, hs, hl, _, _⟩
    · obtain ⟨rfl, rfl, rfl, rfl⟩ := nd_parts hD
      exact fitsN_one 4 _ 0 pq ka 0 kc true wx (by decide) (hf.below hwx) (by decide) rfl (by decide) (by decide) rfl (by decide) (by decide) fun wy hwy => by
        have := text_name ⟨s.toArray⟩ (by show s.length <= 1000; omega) wy ((hw.below hwx).below hwy)
        rw [show nameV (⟨s.toArray⟩ : ByteArray).data.toList = true from hs] at this
        exact this
    · obtain ⟨rfl, rfl, rfl, rfl⟩ := nd_parts hD
      exact fitsN_one 14 _ 0 pq ka 2 kc true wx (by decide) (hf.below hwx) (by decide) rfl (by decide) (by decide) rfl (by decide) (by decide) fun wy hwy => by
        have := text_op ⟨o.toArray⟩ wy ((ho.below hwx).below hwy)
        rw [show opsV.contains (⟨o.toArray⟩ : ByteArray).data.toList = true from hs] at this
        exact this
/-- What tree.Expr leaves. -/
def TxPost (w : World) (t : List UInt8) (e : Ending) (w' : World) : Prop := (∃ s : ByteArray, e = .returned (.string s) /\ s.data.toList = t) /\ Below w.heap.size w w'
theorem trExpr_c (k : Nat) (tx : ByteArray) (N : Nat) (pq : PX) (ka : Option Addr) (kl kc : Nat) (t : List UInt8) (w : World) (h : ∀ wx, Below w.heap.size w wx -> Calls prog 20 #[ndV k tx N pq ka kl kc] wx fun e w' => e = .returned (.bool true) /\ Below wx.heap.size wx w') (hx : ExprIs w k tx N pq ka kl kc t) :
    Calls prog 10 #[ndV k tx N pq ka kl kc] w (TxPost w t) := by
  have hb := bl_alloc w (ndO k tx N pq ka kl kc)
  have HBX : Hid ((w.alloc (ndO k tx N pq ka kl kc)).heap[w.heap.size]? = some (ndO k tx N pq ka kl kc)) := heap_alloc_last w _
  have HC := hideP (h _ hb)
  have HX := hideP hx
  have HB := hideP hb
  clear hb h hx
  go_enter func10, ntmps10
  go_wp2_with fail
  refine HC.out.mono ?_
  rintro e w1 ⟨rfl, hb1⟩
  have hb2 := below_next HB.out hb1
  obtain ⟨⟨x0, x1, x2, x3, x4, x5, x6, x7⟩, hltx⟩ := nd_facts ((hb1.block _ (lt_of_block HBX.out)).trans HBX.out)
  simp only [Nat.zero_add] at x0 x1 x2 x3 x4 x5 x6 x7
  have HC2 := hideP (HX.out _ hb2)
  have HB2 := hideP hb2
  clear hb1 hb2
  go_wp2_with fail
  refine HC2.out.mono ?_
  rintro e w2 ⟨⟨s, rfl, hs, _⟩, hb3⟩
  have HS := hideP hs
  have HB3 := hideP (below_next HB2.out hb3)
  clear hs hb3
  go_wp2_with fail
  go_ret
  exact ⟨⟨_, rfl, HS.out⟩, HB3.out⟩
/-- All that is asked of memory. -/
structure Base (w : World) : Prop where
  ff : FormsN w
  ww : Words w
  oo : OpsN w
theorem Base.below {w w' : World} (h : Base w) (hb : Below w.heap.size w w') : Base w' := ⟨h.ff.below hb, h.ww.below hb, h.oo.below hb⟩
theorem isN {w : World} (hB : Base w) {n k : Nat} {tx : ByteArray} {N : Nat} {pq : PX} {ka : Option Addr} {kl kc : Nat} {D : Ty} (hD : SetN D) (h : NdAt w (n + 1) k tx N pq ka kl kc D) (hs : sizeT (n + 1) D <= 1000) (hh : heightT (n + 1) D <= 25) : ∀ wx, Below w.heap.size w wx -> Calls prog 20 #[ndV k tx N pq ka kl kc] wx fun e w' => e = .returned (.bool true) /\ Below wx.heap.size wx w' := fun wx hwx =>
  isExpr_c k tx N pq ka kl kc true wx fun wy hwy => everyN_c n k tx N pq ka kl kc D SetN (fun _ => true) wy (nd_below (nd_below h hwx) hwy) hs hh hD setN_kids (fun _ _ => rfl) (fit_all wy ((hB.below hwx).below hwy).ff ((hB.below hwx).below hwy).ww ((hB.below hwx).below hwy).oo)
theorem kid_is {w : World} {n : Nat} {ka : Option Addr} {ks : List Ty} {i : Nat} {t : List UInt8} (h : NKids w n ka ks) (hi : i < ks.length) (hl : ks.length <= 1000) (ht : ∀ k tx N pq la ll lc, NdAt w n k tx N pq la ll lc ks[i] -> ExprIs w k tx N pq la ll lc t) : KidIs w ka ks.length i t := by
  obtain ⟨b, o, k, tx, N, pq, la, ll, lc, e, hlt, q, hd⟩ := nkid_at h hi
  exact ⟨hi, hl, b, o, k, tx, N, pq, la, ll, lc, e, hlt, q, ht k tx N pq la ll lc hd⟩
/-- The text of names and operations. -/
def textN : Nat -> Ty -> List UInt8
  | 0, _ => []
  | n + 1, D => match kidsT D with
    | [x, y] => 40 :: textN n x ++ 32 :: nameT D ++ 32 :: textN n y ++ [41]
    | _ => nameT D
theorem textN_name (n : Nat) (s : List UInt8) : textN (n + 1) (mkN 4 s 0 []) = s := rfl
theorem textN_op (n : Nat) (o : List UInt8) (x y : Ty) : textN (n + 1) (mkN 14 o 0 [x, y]) = 40 :: textN n x ++ 32 :: o ++ 32 :: textN n y ++ [41] := rfl
theorem texts_is {w : World} : ∀ (n m k : Nat) (tx : ByteArray) (N : Nat) (pq : PX) (ka : Option Addr) (kl kc : Nat) (D : Ty), NamesOps m D -> m <= n -> NdAt w n k tx N pq ka kl kc D -> (textN m D).length <= 900 -> ExprIs w k tx N pq ka kl kc (textN m D)
  | 0, m, _, _, _, _, _, _, _, _, hS, hm, _, _ => by
    obtain rfl : m = 0 := by omega
    exact hS.elim
  | n + 1, 0, _, _, _, _, _, _, _, _, hS, _, _, _ => hS.elim
  | n + 1, m + 1, k, tx, N, pq, ka, kl, kc, D, hS, hm, hD, hl => by
    rcases hS with ⟨s, rfl, hs, hl⟩ | ⟨o, y, z, rfl, hs, hlo, hy, hz⟩
    · obtain ⟨rfl, rfl, rfl, rfl⟩ := nd_parts hD
      exact expr_name ⟨s.toArray⟩ (by show s.length <= 1000; omega) 0 pq ka 0 kc w
    · have hp := nd_parts hD
      obtain ⟨rfl, rfl, rfl, rfl⟩ := hp
      obtain ⟨ks', e1, e2, _, _, _, _, _, hr⟩ := hD
      obtain ⟨_, _, _, h4⟩ := mkN_inj e2
      subst h4
      rw [textN_op] at hl ⊢
      simp only [List.length_append, List.length_cons, List.length_nil] at hl
      have h0 := kid_is (i := 0) hr (by simp) (by simp) fun k tx N pq la ll lc h => texts_is n m k tx N pq la ll lc y hy (by omega) h (by omega)
      have h1 := kid_is (i := 1) hr (by simp) (by simp) fun k tx N pq la ll lc h => texts_is n m k tx N pq la ll lc z hz (by omega) h (by omega)
      exact expr_op ⟨o.toArray⟩ 0 pq ka 2 kc (textN m y) (textN m z) w h0 h1 (by show _ + _ + o.length <= _; omega)
/-- tree.Expr of names and operations. -/
theorem names_expr {w : World} (hB : Base w) {n m k : Nat} {tx : ByteArray} {N : Nat} {pq : PX} {ka : Option Addr} {kl kc : Nat} {D : Ty} (hS : NamesOps m D) (hm : m <= n + 1) (h : NdAt w (n + 1) k tx N pq ka kl kc D) (hs : sizeT (n + 1) D <= 1000) (hh : heightT (n + 1) D <= 25) (hl : (textN m D).length <= 900) :
    Calls prog 10 #[ndV k tx N pq ka kl kc] w (TxPost w (textN m D)) :=
  trExpr_c k tx N pq ka kl kc _ w (isN hB ⟨m, hS⟩ h hs hh) (texts_is (n + 1) m k tx N pq ka kl kc D hS hm h hl)
end Go.Proofs.YtlhmofphpfdjlaaGreatDoor
/- The grammar of layer 5 by its own words: what a list of tokens is, or what is wrong with it first; without a program in sight. -/
namespace Go.Proofs.YtlhmofphpfdjlaaGreatDoor
open Go.Proofs.Tryz
/-- An expression: its kind, text, number, place, types, names, the expressions within it; as a tree of data. -/
def mkE (k : Int) (tx : List UInt8) (N : Int) (l c : Nat) (ts : List Ty) (ns : List (List UInt8)) (ks : List Ty) : Ty :=
  .agg [.lit (.int .i64 k), .lit (.string tx), .lit (.int .i64 N), .lit (.int .i64 l), .lit (.int .i64 c), .agg ts, .agg (ns.map fun s => .lit (.string s)), .agg ks]
/-- What is read, and where it goes on; or what is wrong, and where. -/
abbrev Pr (α : Type) := (α × Nat) ⊕ (Int × Nat × Nat)
def Pr.go {α β : Type} (r : Pr α) (f : α -> Nat -> Pr β) : Pr β :=
  match r with
  | .inl (x, a) => f x a
  | .inr e => .inr e
section
variable (ts : List Tok)
def tkA (a : Nat) : Tok := ts.getD a ⟨0, [], 0, 0⟩
def badA {α : Type} (e : Int) (a : Nat) : Pr α := .inr (e, (tkA ts a).line, (tkA ts a).col)
def seesA (a : Nat) (s : List UInt8) : Bool := ((tkA ts a).kind == 2 || (tkA ts a).kind == 5) && (tkA ts a).text == s
def wantA (a : Nat) (s : List UInt8) : Pr Unit := if seesA ts a s then .inl ((), a + 1) else badA ts 7 a
def nameA (a : Nat) : Pr (List UInt8) := if (tkA ts a).kind == 1 then .inl ((tkA ts a).text, a + 1) else badA ts 7 a
/-- One and more, with this between two. -/
def manyA {α : Type} (one : Nat -> Pr α) (sep : List UInt8) : Nat -> Nat -> Pr (List α)
  | 0, a => badA ts 7 a
  | f + 1, a => (one a).go fun x a => if seesA ts a sep then (manyA one sep f (a + 1)).go fun l a => .inl (x :: l, a) else .inl ([x], a)
def fieldA {α : Type} (K : Nat -> Pr α) (a : Nat) : Pr (List UInt8 × α) := (nameA ts a).go fun s a => (wantA ts a [58]).go fun _ a => (K a).go fun t a => .inl ((s, t), a)
def primA (K : Nat -> Pr Ty) (f a : Nat) : Pr Ty :=
  if seesA ts a (baseV 0) then .inl (mkT 0 [] [] [], a + 1)
  else if seesA ts a (baseV 1) then .inl (mkT 1 [] [] [], a + 1)
  else if seesA ts a (baseV 2) then .inl (mkT 2 [] [] [], a + 1)
  else if seesA ts a (baseV 3) then .inl (mkT 3 [] [] [], a + 1)
  else if seesA ts a (baseV 4) then .inl (mkT 4 [] [] [], a + 1)
  else if seesA ts a [40] then (K (a + 1)).go fun t a => (wantA ts a [41]).go fun _ a => .inl (t, a)
  else if seesA ts a [123] then
    if seesA ts (a + 1) [125] then .inl (mkT 5 [] [] [], a + 2)
    else (manyA ts (fieldA ts K) [44] f (a + 1)).go fun l a => (wantA ts a [125]).go fun _ a => .inl (mkT 5 [] (l.map (·.1)) (l.map (·.2)), a)
  else (nameA ts a).go fun s a => .inl (mkT 8 s [] [], a)
def altA (K : Nat -> Pr Ty) (f a : Nat) : Pr Ty := (manyA ts (primA ts K f) [124] f a).go fun l a => match l with
  | [t] => .inl (t, a)
  | l => .inl (mkT 7 [] [] l, a)
/-- type, that stands within d others; n: what is left of the depth. -/
def kindA (f : Nat) : Nat -> Nat -> Nat -> Pr Ty
  | 0, _, a => badA ts 6 a
  | n + 1, d, a => if 100 <= d then badA ts 6 a else (altA ts (kindA f n (d + 1)) f a).go fun t a => if seesA ts a [45, 62] then (kindA f n (d + 1) (a + 1)).go fun r a => .inl (mkT 6 [] [] [t, r], a) else .inl (t, a)
/-- A type behind a colon, if there is one. -/
def noteA (K : Nat -> Pr Ty) (a : Nat) : Pr (List Ty) := if seesA ts a [58] then (K (a + 1)).go fun t a => .inl ([t], a) else .inl ([], a)
def headA (K : Nat -> Pr Ty) (a : Nat) : Pr (List UInt8 × List Ty) := (wantA ts a [40]).go fun _ a => (nameA ts a).go fun s a => (noteA ts K a).go fun x a => (wantA ts a [41]).go fun _ a => (noteA ts K a).go fun y a => .inl ((s, (if x.isEmpty then [mkT 0 [] [] []] else x) ++ y), a)
def lineA (a : Nat) : Nat := (tkA ts a).line
def colA (a : Nat) : Nat := (tkA ts a).col
/-- Operations of one rank, from the left. -/
def leftA (signs : List (List UInt8)) (sub : Nat -> Pr Ty) : Nat -> Ty -> Nat -> Pr Ty
  | 0, _, a => badA ts 7 a
  | f + 1, x, a => match signs.find? (seesA ts a) with
    | none => .inl (x, a)
    | some s => (sub (a + 1)).go fun y b => leftA signs sub f (mkE 14 s 0 (lineA ts a) (colA ts a) [] [] [x, y]) b
def ranksL : List (List (List UInt8)) := [[[111, 114]], [[97, 110, 100]], [[60], [60, 61], [61, 61]], [[43, 43]], [[43], [45], [94]], [[42], [47], [37], [38], [60, 60], [62, 62]]]
def tagsA : List (List UInt8) := [[110, 117, 108, 108], [98, 111, 111, 108], [105, 110, 116], [115, 116, 114], [114, 101, 99, 111, 114, 100], [102, 117, 110, 99, 116, 105, 111, 110]]
def cmpA (K : Nat -> Pr Ty) (sub : Nat -> Pr Ty) (a : Nat) : Pr Ty := (sub a).go fun x a => match ([[60], [60, 61], [61, 61]] : List (List UInt8)).find? (seesA ts a) with
  | some s => (sub (a + 1)).go fun y b => .inl (mkE 14 s 0 (lineA ts a) (colA ts a) [] [] [x, y], b)
  | none =>
    if seesA ts a [97, 115] then (K (a + 1)).go fun t b => .inl (mkE 13 [] 0 (lineA ts a) (colA ts a) [t] [] [x], b)
    else if seesA ts a [105, 115] then match tagsA.findIdx? (seesA ts (a + 1)) with
      | some i => .inl (mkE 12 [] i (lineA ts a) (colA ts a) [] [] [x], a + 2)
      | none => badA ts 7 (a + 1)
    else .inl (x, a)
/-- or, and, cmp, cat, sum, term; U: unary. -/
def termA (U : Nat -> Pr Ty) (f a : Nat) : Pr Ty := (U a).go fun x a => leftA ts [[42], [47], [37], [38], [60, 60], [62, 62]] U f x a
def sumA (U : Nat -> Pr Ty) (f a : Nat) : Pr Ty := (termA ts U f a).go fun x a => leftA ts [[43], [45], [94]] (termA ts U f) f x a
def catA (U : Nat -> Pr Ty) (f a : Nat) : Pr Ty := (sumA ts U f a).go fun x a => leftA ts [[43, 43]] (sumA ts U f) f x a
def andA (K U : Nat -> Pr Ty) (f a : Nat) : Pr Ty := (cmpA ts K (catA ts U f) a).go fun x a => leftA ts [[97, 110, 100]] (cmpA ts K (catA ts U f)) f x a
def orA (K U : Nat -> Pr Ty) (f a : Nat) : Pr Ty := (andA ts K U f a).go fun x a => leftA ts [[111, 114]] (andA ts K U f) f x a
/-- expr, behind its depth: E: an expr within. -/
def exprA (K E U : Nat -> Pr Ty) (f a : Nat) : Pr Ty :=
  if seesA ts a [108, 101, 116] then (nameA ts (a + 1)).go fun s b => (noteA ts K b).go fun t b => (wantA ts b [61]).go fun _ b => (E b).go fun v b => (wantA ts b [59]).go fun _ b => (E b).go fun r b => .inl (mkE 5 s 0 (lineA ts a) (colA ts a) t [] [v, r], b)
  else if seesA ts a [105, 102] then (E (a + 1)).go fun c b => (wantA ts b [116, 104, 101, 110]).go fun _ b => (E b).go fun x b => (wantA ts b [101, 108, 115, 101]).go fun _ b => (E b).go fun y b => .inl (mkE 11 [] 0 (lineA ts a) (colA ts a) [] [] [c, x, y], b)
  else if seesA ts a [102, 110] then (headA ts K (a + 1)).go fun h b => (wantA ts b [61, 62]).go fun _ b => (E b).go fun x b => .inl (mkE 6 h.1 0 (lineA ts a) (colA ts a) h.2 [] [x], b)
  else orA ts K U f a
/-- A record, or a record with a field, behind its bracket, which stands at a. -/
def recA (E : Nat -> Pr Ty) (f a : Nat) : Pr Ty :=
  if seesA ts (a + 1) [125] then .inl (mkE 8 [] 0 (lineA ts a) (colA ts a) [] [] [], a + 2)
  else if (tkA ts (a + 1)).kind == 1 && ((tkA ts (a + 2)).kind == 5 && (tkA ts (a + 2)).text == [58]) then (manyA ts (fieldA ts E) [44] f (a + 1)).go fun l b => (wantA ts b [125]).go fun _ b => .inl (mkE 8 [] 0 (lineA ts a) (colA ts a) [] (l.map (·.1)) (l.map (·.2)), b)
  else (E (a + 1)).go fun x b => (wantA ts b [119, 105, 116, 104]).go fun _ b => (nameA ts b).go fun s b => (wantA ts b [58]).go fun _ b => (E b).go fun y b => (wantA ts b [125]).go fun _ b => .inl (mkE 10 s 0 (lineA ts a) (colA ts a) [] [] [x, y], b)
def atomA (K E : Nat -> Pr Ty) (f a : Nat) : Pr Ty :=
  if (tkA ts a).kind == 3 then .inl (mkE 0 [] ((parseV (tkA ts a).text).getD 0) (lineA ts a) (colA ts a) [] [] [], a + 1)
  else if (tkA ts a).kind == 4 then .inl (mkE 1 (tkA ts a).text 0 (lineA ts a) (colA ts a) [] [] [], a + 1)
  else if seesA ts a [116, 114, 117, 101] then .inl (mkE 2 [] 1 (lineA ts a) (colA ts a) [] [] [], a + 1)
  else if seesA ts a [102, 97, 108, 115, 101] then .inl (mkE 2 [] 0 (lineA ts a) (colA ts a) [] [] [], a + 1)
  else if seesA ts a [110, 117, 108, 108] then .inl (mkE 3 [] 0 (lineA ts a) (colA ts a) [] [] [], a + 1)
  else if seesA ts a [114, 101, 97, 100] then (wantA ts (a + 1) [40]).go fun _ b => (wantA ts b [41]).go fun _ b => .inl (mkE 18 [] 0 (lineA ts a) (colA ts a) [] [] [], b)
  else if seesA ts a [112, 114, 105, 110, 116] then (wantA ts (a + 1) [40]).go fun _ b => (E b).go fun x b => (wantA ts b [41]).go fun _ b => .inl (mkE 17 [] 0 (lineA ts a) (colA ts a) [] [] [x], b)
  else if seesA ts a [40] then (E (a + 1)).go fun x b => (wantA ts b [41]).go fun _ b => .inl (x, b)
  else if seesA ts a [123] then recA ts E f a
  else (nameA ts a).go fun s b => if seesA ts b [91] then (manyA ts K [44] f (b + 1)).go fun l b => (wantA ts b [93]).go fun _ b => .inl (mkE 19 s 0 (lineA ts a) (colA ts a) l [] [], b) else .inl (mkE 4 s 0 (lineA ts a) (colA ts a) [] [] [], b)
/-- What stands behind an atom. -/
def postA (E : Nat -> Pr Ty) : Nat -> Ty -> Nat -> Pr Ty
  | 0, _, a => badA ts 7 a
  | f + 1, x, a =>
    if seesA ts a [40] then (E (a + 1)).go fun y b => (wantA ts b [41]).go fun _ b => postA E f (mkE 7 [] 0 (lineA ts a) (colA ts a) [] [] [x, y]) b
    else if seesA ts a [46] then (nameA ts (a + 1)).go fun s b => postA E f (mkE 9 s 0 (lineA ts a) (colA ts a) [] [] [x]) b
    else .inl (x, a)
/-- expr (false), unary (true), that stands within d others. -/
def deepA (f : Nat) : Nat -> Bool -> Nat -> Nat -> Pr Ty
  | 0, _, _, a => badA ts 6 a
  | n + 1, u, d, a => if 100 <= d then badA ts 6 a else
    match u with
    | false => exprA ts (kindA ts f 101 (d + 1)) (deepA f n false (d + 1)) (deepA f n true (d + 1)) f a
    | true =>
      if seesA ts a [45] then (deepA f n true (d + 1) (a + 1)).go fun x b => .inl (mkE 16 [] 0 (lineA ts a) (colA ts a) [] [] [x], b)
      else if seesA ts a [110, 111, 116] then (deepA f n true (d + 1) (a + 1)).go fun x b => .inl (mkE 15 [] 0 (lineA ts a) (colA ts a) [] [] [x], b)
      else (atomA ts (kindA ts f 101 (d + 1)) (deepA f n false (d + 1)) f a).go fun x b => postA ts (deepA f n false (d + 1)) f x b
def varA (K : Nat -> Pr Ty) (a : Nat) : Pr (List UInt8 × Ty) := (nameA ts a).go fun s b => if seesA ts b [60, 58] then (K (b + 1)).go fun t b => .inl ((s, t), b) else .inl ((s, mkT 0 [] [] []), b)
def varsA (K : Nat -> Pr Ty) (f a : Nat) : Pr (List (List UInt8 × Ty)) := if seesA ts a [91] then (manyA ts (varA ts K) [44] f (a + 1)).go fun l b => (wantA ts b [93]).go fun _ b => .inl (l, b) else .inl ([], a)
/-- Imports: from, names, place. -/
def mkI (from' : List UInt8) (ns : List (List UInt8)) (l c : Nat) : Ty := .agg [.lit (.string from'), .agg (ns.map fun s => .lit (.string s)), .lit (.int .i64 l), .lit (.int .i64 c)]
/-- Functions: name, whether exported, variables, parameter, types, body, place. -/
def mkD (nm : List UInt8) (ex : Bool) (vs : List (List UInt8 × Ty)) (pm : List UInt8) (tys : List Ty) (body : Ty) (l c : Nat) : Ty := .agg [.lit (.string nm), .lit (.bool ex), .agg (vs.map fun v => .agg [.lit (.string v.1), v.2]), .lit (.string pm), .agg tys, body, .lit (.int .i64 l), .lit (.int .i64 c)]
def importsA : Nat -> Nat -> Pr (List Ty)
  | 0, a => badA ts 7 a
  | f + 1, a => if seesA ts a [105, 109, 112, 111, 114, 116] then (nameA ts (a + 1)).go fun s b => (wantA ts b [58]).go fun _ b => (manyA ts (nameA ts) [44] ts.length b).go fun l b => (wantA ts b [59]).go fun _ b => (importsA f b).go fun r b => .inl (mkI s l (lineA ts a) (colA ts a) :: r, b) else .inl ([], a)
def declA (a : Nat) : Pr Ty :=
  let ex := seesA ts a [101, 120, 112, 111, 114, 116]
  let a := if ex then a + 1 else a
  (wantA ts a [102, 110]).go fun _ b => (nameA ts b).go fun s b => (varsA ts (kindA ts ts.length 101 0) ts.length b).go fun vs b => (headA ts (kindA ts ts.length 101 0) b).go fun h b => (wantA ts b [61]).go fun _ b => (deepA ts ts.length 101 false 0 b).go fun x b => (wantA ts b [59]).go fun _ b =>
    .inl (mkD s ex vs h.1 (if h.2.length = 1 then h.2 ++ [mkT 0 [] [] []] else h.2) x (lineA ts a) (colA ts a), b)
def declsA : Nat -> Nat -> Pr (List Ty)
  | 0, a => badA ts 7 a
  | f + 1, a => if (tkA ts a).kind == 0 then .inl ([], a) else (declA ts a).go fun d b => (declsA f b).go fun r b => .inl (d :: r, b)
def moduleA : Pr (List Ty × List Ty) := (importsA ts ts.length 0).go fun i a => (declsA ts (ts.length + 1) a).go fun d a => .inl ((i, d), a)
def endA {α : Type} (r : Pr α) : Pr α := r.go fun x a => if (tkA ts a).kind == 0 then .inl (x, a) else badA ts 7 a
end
/-- A whole text that is one type, or one expression. -/
def typeTextV (l : List UInt8) : Ty ⊕ (Int × Nat × Nat) := match lexV l with
  | .inr e => .inr e
  | .inl ts => match endA ts (kindA ts ts.length 101 0 0) with
    | .inl (t, _) => .inl t
    | .inr e => .inr e
def exprTextV (l : List UInt8) : Ty ⊕ (Int × Nat × Nat) := match lexV l with
  | .inr e => .inr e
  | .inl ts => match endA ts (deepA ts ts.length 101 false 0 0) with
    | .inl (t, _) => .inl t
    | .inr e => .inr e
def moduleTextV (l : List UInt8) : (List Ty × List Ty) ⊕ (Int × Nat × Nat) := match lexV l with
  | .inr e => .inr e
  | .inl ts => match endA ts (moduleA ts) with
    | .inl (t, _) => .inl t
    | .inr e => .inr e
end Go.Proofs.YtlhmofphpfdjlaaGreatDoor
/- Expressions that lie in memory that was made from some block on, in full: places, Types, Names, Kids. -/
namespace Go.Proofs.YtlhmofphpfdjlaaGreatDoor
open Go.Proofs.Tryz
open Go.RowKit
/-- The parts of a node. -/
structure NV where
  k : Int
  tx : ByteArray
  N : Int
  li : Nat
  co : Nat
  ta : Option Addr
  tl : Nat
  tc : Nat
  na : Option Addr
  nl : Nat
  nc : Nat
  ka : Option Addr
  kl : Nat
  kc : Nat
abbrev NV.val (x : NV) : Value := .agg #[.int .i64 x.k, .string x.tx, .int .i64 x.N, .int .i64 x.li, .int .i64 x.co, .slice x.ta x.tl x.tc, .slice x.na x.nl x.nc, .slice x.ka x.kl x.kc]
abbrev NV.obj (x : NV) : Obj := .cells #[.int .i64 x.k, .string x.tx, .int .i64 x.N, .int .i64 x.li, .int .i64 x.co, .slice x.ta x.tl x.tc, .slice x.na x.nl x.nc, .slice x.ka x.kl x.kc] 27
/-- Its eight cells. -/
def NVCells (w : World) (b o : Nat) (x : NV) : Prop :=
  w.cell? ⟨b, o, none⟩ = some (.int .i64 x.k) /\ w.cell? ⟨b, o + 1, none⟩ = some (.string x.tx) /\ w.cell? ⟨b, o + 2, none⟩ = some (.int .i64 x.N) /\ w.cell? ⟨b, o + 3, none⟩ = some (.int .i64 x.li) /\ w.cell? ⟨b, o + 4, none⟩ = some (.int .i64 x.co) /\
  w.cell? ⟨b, o + 5, none⟩ = some (.slice x.ta x.tl x.tc) /\ w.cell? ⟨b, o + 6, none⟩ = some (.slice x.na x.nl x.nc) /\ w.cell? ⟨b, o + 7, none⟩ = some (.slice x.ka x.kl x.kc)
def NVRow (w : World) (lo : Nat) (T : NV -> Ty -> Prop) (ka : Option Addr) (ks : List Ty) : Prop :=
  ks = [] ∨ ∃ b o, ka = some ⟨b, o, none⟩ /\ lo <= b /\ CleanB w b /\ ∀ i (h : i < ks.length), ∃ x, NVCells w b (o + i * 8) x /\ T x ks[i]
/-- The parts x are an expression, at most n deep (its types at most n deep too), whose tree is D, in memory from block lo on. -/
def NodeF (w : World) (lo : Nat) : Nat -> NV -> Ty -> Prop
  | 0, _, _ => False
  | n + 1, x, D => ∃ (tys : List Ty) (ns : List (List UInt8)) (ks : List Ty), D = mkE x.k x.tx.data.toList x.N x.li x.co tys ns ks /\ (x.tl = tys.length /\ x.nl = ns.length /\ x.kl = ks.length) /\
    (tys.length <= 100000 /\ ns.length <= 100000 /\ ks.length <= 100000) /\ KidsF w lo n x.ta tys /\ NamesF w lo x.na ns /\ NVRow w lo (NodeF w lo n) x.ka ks
abbrev NodesF (w : World) (lo n : Nat) (ka : Option Addr) (ks : List Ty) : Prop := NVRow w lo (NodeF w lo n) ka ks
section
variable {w w' : World} {lo lo' n m : Nat} {x : NV} {D : Ty} {ka : Option Addr} {ks : List Ty}
theorem NVCells.keep {b o : Nat} (h : NVCells w b o x) (hk : w'.heap[b]? = w.heap[b]?) : NVCells w' b o x := by
  have hc : ∀ j, w'.cell? ⟨b, j, none⟩ = w.cell? ⟨b, j, none⟩ := fun j => World.cell?_of_block (w := w) (a := ⟨b, j, none⟩) hk
  obtain ⟨h0, h1, h2, h3, h4, h5, h6, h7⟩ := h
  exact ⟨(hc _).trans h0, (hc _).trans h1, (hc _).trans h2, (hc _).trans h3, (hc _).trans h4, (hc _).trans h5, (hc _).trans h6, (hc _).trans h7⟩
theorem namesF_keep {a : Option Addr} {ns : List (List UInt8)} (h : NamesF w lo a ns) (hsz : w.heap.size <= w'.heap.size) (hk : ∀ b, lo <= b -> b < w.heap.size -> w'.heap[b]? = w.heap[b]?) : NamesF w' lo a ns := by
  rcases h with h8 | ⟨b, o, e, hl, hlt, hc⟩
  · exact .inl h8
  · exact .inr ⟨b, o, e, hl, Nat.lt_of_lt_of_le hlt hsz, fun i hi => (World.cell?_of_block (w := w) (a := ⟨b, o + i, none⟩) (hk b hl hlt)).trans (hc i hi)⟩
theorem kidsF_keep (h : KidsF w lo n ka ks) (hsz : w.heap.size <= w'.heap.size) (hk : ∀ b, lo <= b -> b < w.heap.size -> w'.heap[b]? = w.heap[b]?) : KidsF w' lo n ka ks := by
  rcases h with h9 | ⟨b, o, e, hl, hcl, hc⟩
  · exact .inl h9
  · have hlt := clean_lt hcl
    have hcl' : CleanB w' b := by
      obtain ⟨cs, t, hh⟩ := hcl
      exact ⟨cs, t, (hk b hl hlt).trans hh⟩
    refine .inr ⟨b, o, e, hl, hcl', fun i hi => ?_⟩
    obtain ⟨c0, c1, c2, c3, e0, e1, e2, e3, ht⟩ := hc i hi
    have hcell : ∀ j, w'.cell? ⟨b, j, none⟩ = w.cell? ⟨b, j, none⟩ := fun j => World.cell?_of_block (w := w) (a := ⟨b, j, none⟩) (hk b hl hlt)
    exact ⟨c0, c1, c2, c3, (hcell _).trans e0, (hcell _).trans e1, (hcell _).trans e2, (hcell _).trans e3, tyF_keep ht hsz hk⟩
/-- It stays while blocks from lo on stay. -/
theorem nodeF_keep (h : NodeF w lo n x D) (hsz : w.heap.size <= w'.heap.size) (hk : ∀ b, lo <= b -> b < w.heap.size -> w'.heap[b]? = w.heap[b]?) : NodeF w' lo n x D := by
  induction n generalizing x D with
  | zero => exact h.elim
  | succ n ih =>
    obtain ⟨tys, ns, ks, e, h1, h2, h3, h4, h5⟩ := h
    refine ⟨tys, ns, ks, e, h1, h2, kidsF_keep h3 hsz hk, namesF_keep h4 hsz hk, ?_⟩
    rcases h5 with h5 | ⟨b, o, e, hl, hcl, hc⟩
    · exact .inl h5
    · have hlt := clean_lt hcl
      have hcl' : CleanB w' b := by
        obtain ⟨cs, t, hh⟩ := hcl
        exact ⟨cs, t, (hk b hl hlt).trans hh⟩
      refine .inr ⟨b, o, e, hl, hcl', fun i hi => ?_⟩
      obtain ⟨y, hy, ht⟩ := hc i hi
      exact ⟨y, hy.keep (hk b hl hlt), ih ht⟩
theorem nodeF_below (h : NodeF w lo n x D) (hb : Below w.heap.size w w') : NodeF w' lo n x D := nodeF_keep h hb.size fun b _ hlt => hb.block b hlt
theorem nodesF_keep (h : NodesF w lo n ka ks) (hsz : w.heap.size <= w'.heap.size) (hk : ∀ b, lo <= b -> b < w.heap.size -> w'.heap[b]? = w.heap[b]?) : NodesF w' lo n ka ks := by
  rcases h with h5 | ⟨b, o, e, hl, hcl, hc⟩
  · exact .inl h5
  · have hlt := clean_lt hcl
    have hcl' : CleanB w' b := by
      obtain ⟨cs, t, hh⟩ := hcl
      exact ⟨cs, t, (hk b hl hlt).trans hh⟩
    refine .inr ⟨b, o, e, hl, hcl', fun i hi => ?_⟩
    obtain ⟨y, hy, ht⟩ := hc i hi
    exact ⟨y, hy.keep (hk b hl hlt), nodeF_keep ht hsz hk⟩
theorem nodesF_below (h : NodesF w lo n ka ks) (hb : Below w.heap.size w w') : NodesF w' lo n ka ks := nodesF_keep h hb.size fun b _ hlt => hb.block b hlt
theorem kidsF_stay (h : KidsF w lo n ka ks) (hb : Below w.heap.size w w') : KidsF w' lo n ka ks := kidsF_keep h hb.size fun b _ hlt => hb.block b hlt
theorem namesF_stay {a : Option Addr} {ns : List (List UInt8)} (h : NamesF w lo a ns) (hb : Below w.heap.size w w') : NamesF w' lo a ns := namesF_keep h hb.size fun b _ hlt => hb.block b hlt
theorem node_at (h : NodesF w lo n ka ks) {i : Nat} (hi : i < ks.length) : ∃ b o y, ka = some ⟨b, o, none⟩ /\ b < w.heap.size /\ NVCells w b (o + i * 8) y /\ NodeF w lo n y ks[i] := by
  rcases h with rfl | ⟨b, o, rfl, _, hcl, hc⟩
  · cases hi
  · obtain ⟨y, hy, ht⟩ := hc i hi
    exact ⟨b, o, y, rfl, clean_lt hcl, hy, ht⟩
end
theorem mkE_inj {k k' : Int} {tx tx' : List UInt8} {N N' : Int} {l l' c c' : Nat} {ts ts' : List Ty} {ns ns' : List (List UInt8)} {ks ks' : List Ty} (h : mkE k tx N l c ts ns ks = mkE k' tx' N' l' c' ts' ns' ks') : k = k' /\ tx = tx' /\ N = N' /\ l = l' /\ c = c' /\ ts = ts' /\ ns = ns' /\ ks = ks' := by
  unfold mkE at h
  simp only [DataW.agg.injEq, List.cons.injEq, DataW.lit.injEq, Lit.int.injEq, Lit.string.injEq, true_and, and_true] at h
  obtain ⟨h1, h2, h3, h4, h5, h6, h7, h8⟩ := h
  refine ⟨h1, h2, h3, by omega, by omega, h6, ?_, h8⟩
  have := congrArg (List.map strD) h7
  rw [List.map_map, List.map_map] at this
  have hid : ∀ l : List (List UInt8), l.map (strD ∘ fun s => (DataW.lit (.string s) : Ty)) = l := fun l => List.map_id _
  rw [hid, hid] at this
  exact this
/-- The cells of a box that holds a node. -/
theorem nv_facts {w1 : World} {b : Nat} {x : NV} (h : w1.heap[b]? = some x.obj) : NVCells w1 b 0 x /\ b < w1.heap.size := by
  refine ⟨⟨?_, ?_, ?_, ?_, ?_, ?_, ?_, ?_⟩, lt_of_block h⟩
  all_goals (rw [cell_of_row _ _ _ _ _ _ h]; rfl)
end Go.Proofs.YtlhmofphpfdjlaaGreatDoor
