/- Part. -/
import Derived.Maps.AppendAt
import Derived.Maps.OwnSet
import Derived.Test.YtgblonhfidoleaaDoorPart7
set_option maxRecDepth 100000
set_option maxHeartbeats 4000000
/- Rows that a call fills, one by one, with what it has made on the way. -/
namespace Go.Proofs.YtgblonhfidoleaaDoor
open Go.Proofs.Tryd
open Go.RowKit
/-- A reading of what lies from block lo on: it stays while that stays, and lies from any smaller block on. -/
structure RepK {α : Type} (rep : Nat -> World -> List Value -> α -> Prop) : Prop where
  keep : ∀ {lo w w' c x}, rep lo w c x -> w.heap.size <= w'.heap.size -> (∀ b, lo <= b -> b < w.heap.size -> w'.heap[b]? = w.heap[b]?) -> rep lo w' c x
  lower : ∀ {lo lo' w c x}, rep lo w c x -> lo' <= lo -> rep lo' w c x
section
variable {α : Type} {rep : Nat -> World -> List Value -> α -> Prop} {B et k pb : Nat} {w wx wy w4 : World} {v v' : Value} {cs : List (List Value)} {xs : List α} {c : List Value} {x : α} {g : Option Nat} {lo : Nat}
/-- It was made some time since block B, and no block of G lies in it. -/
def Made (rep : Nat -> World -> List Value -> α -> Prop) (B : Nat) (G : Nat -> Prop) (wx : World) (c : List Value) (x : α) : Prop :=
  ∃ wi lo, rep lo wi c x /\ B <= lo /\ wi.heap.size <= wx.heap.size /\ (∀ b, lo <= b -> b < wi.heap.size -> wx.heap[b]? = wi.heap[b]?) /\ ∀ k, G k -> k < lo ∨ wi.heap.size <= k
theorem Made.now {G : Nat -> Prop} (h : Made rep B G wx c x) (hk : RepK rep) : rep B wx c x := by
  obtain ⟨wi, lo, h1, h2, h3, h4, _⟩ := h
  exact hk.lower (hk.keep h1 h3 h4) h2
theorem Made.stay {G : Nat -> Prop} (h : Made rep B G wx c x) (hs : Stay pb wx wy) (hp : pb < B) : Made rep B G wy c x := by
  obtain ⟨wi, lo, h1, h2, h3, h4, h5⟩ := h
  exact ⟨wi, lo, h1, h2, Nat.le_trans h3 hs.size, fun b hb hl => (hs.keep b (by omega) (by omega)).trans (h4 b hb hl), h5⟩
theorem Made.grown {G G' : Nat -> Prop} (h : Made rep B G wx c x) (hg : wx.grownBy w4 g) (hgG : ∀ q, g = some q -> G q) (hl : ∀ q, G' q -> G q ∨ wx.heap.size <= q) : Made rep B G' w4 c x := by
  obtain ⟨wi, lo, h1, h2, h3, h4, h5⟩ := h
  refine ⟨wi, lo, h1, h2, Nat.le_trans h3 hg.size, fun b hb hl => (hg.block b (by omega) ?_).trans (h4 b hb hl), fun k hk => ?_⟩
  · intro e
    rcases h5 b (hgG b e.symm) with h | h <;> omega
  · rcases hl k hk with h | h
    · exact h5 k h
    · exact .inr (by omega)
theorem Made.new {G : Nat -> Prop} (h : rep lo wx c x) (hB : B <= lo) (hg : ∀ k, G k -> k < lo) : Made rep B G wx c x := ⟨wx, lo, h, hB, Nat.le_refl _, fun _ _ _ => rfl, fun k hk => .inl (hg k hk)⟩
/-- The row v holds the xs, each by its cells; o: another row that grows beside it. -/
structure RowsC (rep : Nat -> World -> List Value -> α -> Prop) (B et k : Nat) (o : Option Nat) (wx : World) (v : Value) (cs : List (List Value)) (xs : List α) : Prop where
  len : cs.length = xs.length
  each : ∀ c ∈ cs, c.length = k
  ow : wx.ownsRow B et k v xs.length cs.flatten
  apart : ∀ q, v.ownBlock = some q -> o ≠ some q
  olt : ∀ q, o = some q -> B <= q /\ q < wx.heap.size
  made : ∀ i (h1 : i < cs.length) (h2 : i < xs.length), Made rep B (fun q => v.ownBlock = some q ∨ o = some q) wx cs[i] xs[i]
theorem rows_nil (rep : Nat -> World -> List Value -> α -> Prop) (B et k : Nat) (w : World) : RowsC rep B et k none w (.slice none 0 0) [] [] :=
  ⟨rfl, (fun _ h => nomatch h), World.ownsRow_nil _ _ _ _, (fun _ h => nomatch h), (fun _ h => nomatch h), (fun _ h _ => nomatch h)⟩
variable {o o' : Option Nat}
theorem RowsC.own (h : RowsC rep B et k o wx v cs xs) : ∀ q, v.ownBlock = some q -> B <= q /\ q < wx.heap.size := h.ow.lt
theorem RowsC.all (h : RowsC rep B et k o wx v cs xs) : ∀ q, v.ownBlock = some q ∨ o = some q -> q < wx.heap.size := fun q hq => hq.elim (fun e => (h.own q e).2) fun e => (h.olt q e).2
theorem RowsC.stay (h : RowsC rep B et k o wx v cs xs) (hs : Stay pb wx wy) (hp : pb < B) : RowsC rep B et k o wy v cs xs := by
  refine ⟨h.len, h.each, ?_, h.apart, fun q hq => ⟨(h.olt q hq).1, Nat.lt_of_lt_of_le (h.olt q hq).2 hs.size⟩, fun i h1 h2 => (h.made i h1 h2).stay hs hp⟩
  obtain ⟨o1, o2⟩ := h.ow
  refine ⟨o1, ?_⟩
  rcases o2 with o2 | ⟨g, cap, cur, e, hg, hh, r⟩
  · exact .inl o2
  · exact .inr ⟨g, cap, cur, e, hg, (hs.keep g (by omega) (lt_of_block hh)).trans hh, r⟩
/-- The other row has grown. -/
theorem RowsC.beside (h : RowsC rep B et k o wx v cs xs) (hg : wx.grownBy w4 o) (hl : o' = o ∨ ∃ q, o' = some q /\ wx.heap.size <= q /\ q < w4.heap.size) (hB : B <= wx.heap.size) : RowsC rep B et k o' w4 v cs xs := by
  refine ⟨h.len, h.each, h.ow.kept hg ?_, fun q hq e => ?_, fun q hq => ?_, fun i h1 h2 => (h.made i h1 h2).grown hg (fun q hq => .inr hq) fun q hq => ?_⟩
  · cases hv : v.ownBlock with
    | none => exact .inl rfl
    | some q => exact .inr fun e => h.apart q hv e.symm
  · rcases hl with rfl | ⟨r, rfl, hr, _⟩
    · exact h.apart q hq e
    · injection e with e
      have := (h.own q hq).2
      omega
  · rcases hl with rfl | ⟨r, rfl, hr, hr2⟩
    · exact ⟨(h.olt q hq).1, Nat.lt_of_lt_of_le (h.olt q hq).2 hg.size⟩
    · injection hq with hq
      exact ⟨by omega, by omega⟩
  · rcases hq with hq | hq
    · exact .inl (.inl hq)
    · rcases hl with rfl | ⟨r, rfl, hr, _⟩
      · exact .inl (.inr hq)
      · injection hq with hq
        exact .inr (by omega)
theorem RowsC.put (h : RowsC rep B et k o wx v cs xs) (hw : w4.ownsRow B et k v' (xs.length + 1) (cs.flatten ++ c)) (hg : wy.grownBy w4 v.ownBlock) (hl' : v'.ownBlock = v.ownBlock ∨ ∃ k, v'.ownBlock = some k /\ wy.heap.size <= k)
    (hxy : Stay pb wx wy) (hp : pb < B) (hc : c.length = k) (hm : Made rep B (fun q => v.ownBlock = some q ∨ o = some q) wy c x) : RowsC rep B et k o w4 v' (cs ++ [c]) (xs ++ [x]) := by
  have hG : ∀ q, v'.ownBlock = some q ∨ o = some q -> (v.ownBlock = some q ∨ o = some q) ∨ wy.heap.size <= q := by
    intro q hq
    rcases hq with hq | hq
    · rcases hl' with e | ⟨r, e, hr⟩
      · exact .inl (.inl (e ▸ hq))
      · rw [e] at hq
        injection hq with hq
        exact .inr (by omega)
    · exact .inl (.inr hq)
  refine ⟨by simp [h.len], ?_, ?_, fun q hq e => ?_, fun q hq => ⟨(h.olt q hq).1, ?_⟩, fun i h1 h2 => ?_⟩
  · intro y hy
    rcases List.mem_append.1 hy with hy | hy
    · exact h.each y hy
    · rw [List.mem_singleton.1 hy]
      exact hc
  · rw [List.length_append, List.flatten_append]
    simpa using hw
  · rcases hl' with e' | ⟨r, e', hr⟩
    · exact h.apart q (e' ▸ hq) e
    · rw [e'] at hq
      injection hq with hq
      have := (h.olt q e).2
      have := hxy.size
      omega
  · have := (h.olt q hq).2
    have := hxy.size
    have := hg.size
    omega
  · by_cases hi : i < cs.length
    · rw [List.getElem_append_left hi, List.getElem_append_left (by rw [<- h.len]; exact hi)]
      exact ((h.made i hi (by rw [<- h.len]; exact hi)).stay hxy hp).grown hg (fun q hq => .inl hq) hG
    · have hi' : i = cs.length := by simp at h1; omega
      have e1 : (cs ++ [c])[i] = c := by
        rw [List.getElem_append_right (by omega)]
        simp
      have e2 : (xs ++ [x])[i] = x := by
        rw [List.getElem_append_right (by rw [<- h.len]; omega)]
        simp
      rw [e1, e2]
      exact hm.grown hg (fun q hq => .inl hq) hG
theorem Stay.grown {w : World} (h : Stay pb w wx) (hg : wx.grownBy w4 g) (hp : pb < w.heap.size) (hr : ∀ k, g = some k -> w.heap.size <= k) : Stay pb w w4 where
  below := h.below.grown hg (by have := h.size; omega) fun k hk => by have := hr k hk; omega
  keep := fun b hb hl => (hg.block b (by have := h.size; omega) (fun e => by have := hr b e.symm; omega)).trans (h.keep b hb hl)
theorem Ps.grown {tb cap a d : Nat} {ts : List Tok} (h : Ps wx pb tb cap ts a d) (hg : wx.grownBy w4 g) (hr : ∀ k, g = some k -> pb < k) : Ps w4 pb tb cap ts a d :=
  ⟨(hg.block _ h.ltp (fun e => by have := hr _ e.symm; omega)).trans h.blk, h.tlt, toksC_keep h.toks (hg.block _ (Nat.lt_trans h.tlt h.ltp) (fun e => by have := hr _ e.symm; have := h.tlt; omega)), h.lt⟩
/-- The row that a literal of one makes. -/
theorem rows_one (h : rep lo wx c x) (hB : B <= lo) (hBw : B <= wx.heap.size) (hc : c.length = k) : RowsC rep B et k none (wx.alloc (.cells c.toArray et)) (.slice (some ⟨wx.heap.size, 0, none⟩) 1 1) [c] [x] := by
  refine ⟨rfl, fun y hy => by rw [List.mem_singleton.1 hy]; exact hc, ⟨by simp [hc], .inr ⟨_, 1, c.toArray, rfl, hBw, heap_alloc_last _ _, Nat.le_refl _, by unfold maxLen; omega, by simp [hc], by simp [<- hc]⟩⟩, (fun _ _ h => nomatch h), (fun _ h => nomatch h), fun i h1 h2 => ?_⟩
  have hi : i = 0 := by simp at h1; exact h1
  subst hi
  exact ⟨wx, lo, h, hB, by simp, fun b _ hl => Below.heap_alloc _ _ _ hl, fun q hq => by
    rcases hq with hq | hq
    · simp [Value.ownBlock] at hq
      exact .inr (by omega)
    · cases hq⟩
theorem row_shape {n z : Nat} {ys : List Value} (h : wx.ownsRow B et z v n ys) : ∃ a cap, v = .slice a n cap := by
  rcases h.2 with ⟨h1, h2⟩ | ⟨g, cap, cur, h1, _⟩
  · exact ⟨none, 0, by rw [h1, h2]⟩
  · exact ⟨_, _, h1⟩
/-- The cells of a row that was just made. -/
theorem cells_newK (W : World) (c : List Value) (t : TypeId) : ∀ j u, c[j]? = some u -> (W.alloc (.cells c.toArray t)).cell? ((⟨W.heap.size, 0, none⟩ : Addr).add j) = some u := by
  intro j u hj
  have hadd : (⟨W.heap.size, 0, none⟩ : Addr).add j = ⟨W.heap.size, j, none⟩ := by unfold Addr.add; split <;> simp_all
  rw [hadd, cell_of_row _ _ j _ t (0, 0) (heap_alloc_last W _)]
  simpa using hj
theorem cells_flatK : ∀ (cs : List (List Value)), (∀ c ∈ cs, c.length = k) -> ∀ (i : Nat) (hi : i < cs.length) (j : Nat), j < k -> cs.flatten[i * k + j]? = cs[i][j]?
  | [], _, _, hi, _, _ => by cases hi
  | c :: cs, h, 0, _, j, hj => by
    rw [List.flatten_cons, List.getElem?_append_left (by rw [h c (List.mem_cons_self ..)]; omega)]
    simp
  | c :: cs, h, i + 1, hi, j, hj => by
    have hc := h c (List.mem_cons_self ..)
    have e : (i + 1) * k + j = k + (i * k + j) := by rw [Nat.add_mul, Nat.one_mul]; omega
    rw [List.flatten_cons, List.getElem?_append_right (by rw [hc, e]; omega), hc, e, Nat.add_sub_cancel_left]
    exact cells_flatK cs (fun c hc => h c (List.mem_cons_of_mem _ hc)) i (by simpa using hi) j hj
/-- What a full row says of memory. -/
theorem RowsC.form (h : RowsC rep B et k o wx v cs xs) (hk : RepK rep) : ∃ (a : Option Addr) (cap : Nat), v = .slice a xs.length cap /\ xs.length <= cap /\ (xs = [] ∨ ∃ g, a = some ⟨g, 0, none⟩ /\ B <= g /\ CleanB wx g /\
    ∀ i (hi : i < xs.length), ∃ c : List Value, c.length = k /\ (∀ j, j < k -> wx.cell? ⟨g, i * k + j, none⟩ = c[j]?) /\ rep B wx c xs[i]) := by
  rcases h.ow.2 with ⟨rfl, h0⟩ | ⟨g, cap, cur, rfl, hg, hh, hcap, _, _, hcur⟩
  · exact ⟨none, 0, by rw [h0], by omega, .inl (List.length_eq_zero_iff.1 h0)⟩
  · refine ⟨_, cap, rfl, hcap, .inr ⟨g, rfl, hg, ⟨_, _, hh⟩, fun i hi => ?_⟩⟩
    have hi' : i < cs.length := by rw [h.len]; exact hi
    refine ⟨cs[i], h.each _ (List.getElem_mem hi'), fun j hj => ?_, (h.made i hi' hi).now hk⟩
    have hlt : i * k + j < xs.length * k := by
      have : (i + 1) * k <= xs.length * k := Nat.mul_le_mul_right _ hi
      rw [Nat.add_mul, Nat.one_mul] at this
      omega
    rw [h.ow.cellAt (i * k + j) hlt]
    exact cells_flatK cs h.each i hi' j hj
end
end Go.Proofs.YtgblonhfidoleaaDoor
/- Modules put together, as the chapter says: no program. -/
namespace Go.Proofs.YtgblonhfidoleaaDoor
open Go.Proofs.Tryd
open Go.RowKit
abbrev Bs := List UInt8
/-- A Diag: the module, the place, the error. -/
structure Dg where
  m : Nat
  li : Nat
  co : Nat
  er : Int
/-- An import: from where, which names, its place. -/
structure Imp where
  fr : Bs
  ns : List Bs
  li : Nat
  co : Nat
/-- A function: its name, whether it is exported, how many variables for types it has, its place. -/
structure Dec where
  nm : Bs
  ex : Bool
  vs : Nat
  li : Nat
  co : Nat
structure Mo where
  is : List Imp
  ds : List Dec
structure En where
  nm : Bs
  m : Nat
  d : Nat
abbrev Num := List (Bs × Nat)
def look : Num -> Bs -> Option Nat
  | [], _ => none
  | p :: l, s => if p.1 == s then some p.2 else look l s
def txtOf : Ty -> Bs
  | .lit (.string s) => s
  | _ => []
def natOf : Ty -> Nat
  | .lit (.int _ z) => z.toNat
  | _ => 0
def kidOf : Ty -> List Ty
  | .agg l => l
  | _ => []
def bitOf : Ty -> Bool
  | .lit (.bool b) => b
  | _ => false
def impOf (t : Ty) : Imp := ⟨txtOf ((kidOf t).getD 0 (.agg [])), (kidOf ((kidOf t).getD 1 (.agg []))).map txtOf, natOf ((kidOf t).getD 2 (.agg [])), natOf ((kidOf t).getD 3 (.agg []))⟩
def decOf (t : Ty) : Dec := ⟨txtOf ((kidOf t).getD 0 (.agg [])), bitOf ((kidOf t).getD 1 (.agg [])), (kidOf ((kidOf t).getD 2 (.agg []))).length, natOf ((kidOf t).getD 6 (.agg [])), natOf ((kidOf t).getD 7 (.agg []))⟩
def moOf (D : List Ty × List Ty) : Mo := ⟨D.1.map impOf, D.2.map decOf⟩
theorem impOf_mk (s : Bs) (l : List Bs) (a b : Nat) : impOf (mkI s l a b) = ⟨s, l, a, b⟩ := by
  simp [impOf, mkI, kidOf, txtOf, natOf, Function.comp_def]
theorem decOf_mk (s : Bs) (ex : Bool) (vs : List (List UInt8 × Ty)) (pm : Bs) (tys : List Ty) (x : Ty) (a b : Nat) : decOf (mkD s ex vs pm tys x a b) = ⟨s, ex, vs.length, a, b⟩ := by
  simp [decOf, mkD, kidOf, txtOf, natOf, bitOf]
/-- The first turn. -/
structure L1 where
  num : Num
  names : List Bs
  mods : List Mo
  ds : List Dg
def lreadV (m : Nat) (nm tx : Bs) (s : L1) : L1 :=
  if nameV nm = false then { s with ds := s.ds ++ [⟨m, 1, 1, 10⟩] }
  else match look s.num nm with
  | some _ => { s with ds := s.ds ++ [⟨m, 1, 1, 8⟩] }
  | none => match moduleTextV tx with
    | .inr (e, li, co) => { s with num := (nm, m) :: s.num, ds := s.ds ++ [⟨m, li, co, e⟩] }
    | .inl D => { num := (nm, m) :: s.num, names := s.names ++ [nm], mods := s.mods ++ [moOf D], ds := s.ds }
def readFrom : Nat -> List (Bs × Bs) -> L1 -> L1
  | _, [], s => s
  | m, x :: l, s => readFrom (m + 1) l (lreadV m x.1 x.2 s)
def readAllV (l : List (Bs × Bs)) : L1 := if 16 < l.length then ⟨[], [], [], [⟨16, 1, 1, 19⟩]⟩ else readFrom 0 l ⟨[], [], [], []⟩
/-- The first function of a name. -/
def firstV : Nat -> List Dec -> Num -> Num
  | _, [], a => a
  | i, d :: l, a => firstV (i + 1) l (match look a d.nm with | some _ => a | none => (d.nm, i) :: a)
abbrev firsts (o : Mo) : Num := firstV 0 o.ds []
/-- The second turn. -/
def inE (es : List En) (s : Bs) : Bool := es.any fun e => e.nm == s
abbrev Sc := List En × List Dg
def noMo : Mo := ⟨[], []⟩
def noDec : Dec := ⟨[], false, 0, 0, 0⟩
def nameStep (o : Mo) (f m li co : Nat) (n : Bs) (s : Sc) : Sc :=
  match look (firsts o) n with
  | none => (s.1, s.2 ++ [⟨m, li, co, 12⟩])
  | some j => if (o.ds.getD j noDec).ex = false then (s.1, s.2 ++ [⟨m, li, co, 12⟩]) else if inE s.1 n then (s.1, s.2 ++ [⟨m, li, co, 8⟩]) else (s.1 ++ [⟨n, f, j⟩], s.2)
def namesV (o : Mo) (f m li co : Nat) : List Bs -> Sc -> Sc
  | [], s => s
  | n :: r, s => namesV o f m li co r (nameStep o f m li co n s)
def impV (num : Num) (mods : List Mo) (m : Nat) (i : Imp) (s : Sc) : Sc :=
  match look num i.fr with
  | none => (s.1, s.2 ++ [⟨m, i.li, i.co, 11⟩])
  | some f => namesV (mods.getD f noMo) f m i.li i.co i.ns s
def impsV (num : Num) (mods : List Mo) (m : Nat) : List Imp -> Sc -> Sc
  | [], s => s
  | i :: r, s => impsV num mods m r (impV num mods m i s)
def declStep (m i : Nat) (d : Dec) (s : Sc) : Sc := if inE s.1 d.nm then (s.1, s.2 ++ [⟨m, d.li, d.co, 8⟩]) else (s.1 ++ [⟨d.nm, m, i⟩], s.2)
def declsV (m : Nat) : Nat -> List Dec -> Sc -> Sc
  | _, [], s => s
  | i, d :: r, s => declsV m (i + 1) r (declStep m i d s)
def scopeV (num : Num) (mods : List Mo) (m : Nat) (o : Mo) (ds : List Dg) : Sc := declsV m 0 o.ds (impsV num mods m o.is ([], ds))
def scopesV (num : Num) (mods : List Mo) : Nat -> List Mo -> List (List En) -> List Dg -> List (List En) × List Dg
  | _, [], ess, ds => (ess, ds)
  | m, o :: r, ess, ds => scopesV num mods (m + 1) r (ess ++ [(scopeV num mods m o ds).1]) (scopeV num mods m o ds).2
/-- The third turn. -/
abbrev numOf (num : Num) (s : Bs) : Nat := (look num s).getD 0
def directV (num : Num) : List Imp -> List Bool -> List Bool
  | [], r => r
  | i :: l, r => directV num l (r.set (numOf num i.fr) true)
def none16 : List Bool := List.replicate 16 false
def directsV (num : Num) (mods : List Mo) : List (List Bool) := mods.map fun o => directV num o.is none16
/-- From 'at' on: what is reached, with what was reached before. -/
def visitV (dir : List (List Bool)) : Nat -> Nat -> List Bool -> List Bool
  | 0, _, r => r
  | f + 1, at', r => if r.getD at' false then r else (List.range 16).foldl (fun r k => if (dir.getD at' none16).getD k false then visitV dir f k r else r) (r.set at' true)
def reachV (dir : List (List Bool)) : List (List Bool) := (List.range dir.length).map fun m => visitV dir 17 m none16
def cycV (num : Num) (reach : List (List Bool)) (m : Nat) : List Imp -> List Dg -> List Dg
  | [], ds => ds
  | i :: l, ds => cycV num reach m l (if (reach.getD (numOf num i.fr) none16).getD m false then ds ++ [⟨m, i.li, i.co, 13⟩] else ds)
def cyclesV (num : Num) (reach : List (List Bool)) : Nat -> List Mo -> List Dg -> List Dg
  | _, [], ds => ds
  | m, o :: l, ds => cyclesV num reach (m + 1) l (cycV num reach m o.is ds)
/-- The fourth turn. -/
def mainB : Bs := [109, 97, 105, 110]
def mainV (num : Num) (mods : List Mo) : (Nat × Nat) ⊕ Dg :=
  match look num mainB with
  | none => .inr ⟨0, 1, 1, 14⟩
  | some m => match look (firsts (mods.getD m noMo)) mainB with
    | none => .inr ⟨m, 1, 1, 14⟩
    | some i => if 0 < ((mods.getD m noMo).ds.getD i noDec).vs then .inr ⟨m, ((mods.getD m noMo).ds.getD i noDec).li, ((mods.getD m noMo).ds.getD i noDec).co, 14⟩ else .inl (m, i)
/-- What is put together. -/
structure Lk where
  names : List Bs
  mods : List Mo
  scopes : List (List En)
  main : Nat × Nat
def linkV (l : List (Bs × Bs)) : Lk ⊕ List Dg :=
  let s := readAllV l
  if s.ds.length ≠ 0 then .inr s.ds else
  let c := scopesV s.num s.mods 0 s.mods [] []
  if c.2.length ≠ 0 then .inr c.2 else
  let y := cyclesV s.num (reachV (directsV s.num s.mods)) 0 s.mods []
  if y.length ≠ 0 then .inr y else
  match mainV s.num s.mods with
  | .inr d => .inr [d]
  | .inl m => .inl ⟨s.names, s.mods, c.1, m⟩
/-- The chapter's examples. -/
def exOne : List (Bs × Bs) := [([109, 97, 105, 110], [105, 109, 112, 111, 114, 116, 32, 97, 58, 32, 102, 59, 32, 102, 110, 32, 109, 97, 105, 110, 40, 120, 41, 32, 61, 32, 102, 40, 120, 41, 59]), ([97], [101, 120, 112, 111, 114, 116, 32, 102, 110, 32, 102, 40, 120, 41, 32, 61, 32, 120, 59])]
def exTwo : List (Bs × Bs) := [([109, 97, 105, 110], [105, 109, 112, 111, 114, 116, 32, 97, 58, 32, 102, 59, 32, 102, 110, 32, 109, 97, 105, 110, 40, 120, 41, 32, 61, 32, 120, 59]), ([97], [105, 109, 112, 111, 114, 116, 32, 109, 97, 105, 110, 58, 32, 109, 97, 105, 110, 59, 32, 101, 120, 112, 111, 114, 116, 32, 102, 110, 32, 102, 40, 120, 41, 32, 61, 32, 120, 59])]
theorem link_one : linkV exOne = .inl ⟨[[109, 97, 105, 110], [97]], [⟨[⟨[97], [[102]], 1, 1⟩], [⟨[109, 97, 105, 110], false, 0, 1, 14⟩]⟩, ⟨[], [⟨[102], true, 0, 1, 8⟩]⟩], [[⟨[102], 1, 0⟩, ⟨[109, 97, 105, 110], 0, 0⟩], [⟨[102], 1, 0⟩]], (0, 0)⟩ := by kernel_rfl
theorem link_two : linkV exTwo = .inr [⟨1, 1, 1, 12⟩] := by kernel_rfl
end Go.Proofs.YtgblonhfidoleaaDoor
/- The linker in memory; what has turned. -/
namespace Go.Proofs.YtgblonhfidoleaaDoor
open Go.Proofs.Tryd
open Go.RowKit Go.Maps
/-- Only blocks of S have turned, none of them below B; there may be new ones. -/
structure Chg (B : Nat) (S : Nat -> Prop) (w w' : World) : Prop where
  below : Below B w w'
  keep : ∀ b, b < w.heap.size -> ¬ S b -> w'.heap[b]? = w.heap[b]?
section
variable {B : Nat} {S S' : Nat -> Prop} {w w1 w2 : World}
theorem Chg.refl (B : Nat) (S : Nat -> Prop) (w : World) : Chg B S w w := ⟨Below.refl _ _, fun _ _ _ => rfl⟩
theorem Chg.size (h : Chg B S w w1) : w.heap.size <= w1.heap.size := h.below.size
theorem Chg.trans (h : Chg B S w w1) (k : Chg B S' w1 w2) (hs : ∀ b, b < w.heap.size -> S' b -> S b) : Chg B S w w2 :=
  ⟨h.below.trans k.below, fun b hb hn => (k.keep b (Nat.lt_of_lt_of_le hb h.size) fun e => hn (hs b hb e)).trans (h.keep b hb hn)⟩
theorem Chg.mono (h : Chg B S w w1) (hs : ∀ b, b < w.heap.size -> S b -> S' b) : Chg B S' w w1 := ⟨h.below, fun b hb hn => h.keep b hb fun e => hn (hs b hb e)⟩
theorem Chg.of (h : Below w.heap.size w w1) (hB : B <= w.heap.size) : Chg B S w w1 := ⟨h.mono hB, fun b hb _ => h.block b hb⟩
theorem Chg.alloc (h : Chg B S w w1) (hB : B <= w1.heap.size) (o : Obj) : Chg B S w (w1.alloc o) := ⟨h.below.alloc hB o, fun b hb hn => (Below.heap_alloc _ _ _ (Nat.lt_of_lt_of_le hb h.size)).trans (h.keep b hb hn)⟩
theorem Chg.drew (h : Chg B S w w1) : Chg B S w w1.drew := ⟨h.below.drew, h.keep⟩
theorem Chg.undrew (h : Chg B S w.drew w1) : Chg B S w w1 := ⟨⟨h.below.os, h.below.tape, h.below.output, h.below.size, h.below.block⟩, h.keep⟩
theorem Chg.set (h : Chg B S w w1) {b : Nat} (hB : B <= b) (hS : b < w.heap.size -> S b) (o : Nat) (u : Value) : Chg B S w (w1.setCell ⟨b, o, none⟩ u) :=
  ⟨h.below.setCell hB _, fun c hc hn => (Below.heap_setCell _ _ _ _ (by show c ≠ b; rintro rfl; exact hn (hS hc))).trans (h.keep c hc hn)⟩
theorem Chg.grown (h : Chg B S w w1) {g : Option Nat} (hg : w1.grownBy w2 g) (hB : B <= w1.heap.size) (hr : ∀ q, g = some q -> B <= q /\ (q < w.heap.size -> S q)) : Chg B S w w2 :=
  ⟨h.below.grown hg hB fun q e => (hr q e).1, fun c hc hn => (hg.block c (Nat.lt_of_lt_of_le hc h.size) fun e => hn ((hr c e.symm).2 hc)).trans (h.keep c hc hn)⟩
theorem Chg.row (h : Chg B S w w1) {base et k n : Nat} {v : Value} {xs : List Value} (ho : w.ownsRow base et k v n xs) (hv : ∀ q, v.ownBlock = some q -> ¬ S q) : w1.ownsRow base et k v n xs := by
  refine ⟨ho.1, ?_⟩
  rcases ho.2 with h2 | ⟨g, cap, cur, e, hg, hh, r⟩
  · exact .inl h2
  · exact .inr ⟨g, cap, cur, e, hg, (h.keep g (lt_of_block hh) (hv g (by rw [e]; rfl))).trans hh, r⟩
theorem Chg.obj (h : Chg B S w w1) {b : Nat} {o : Obj} (ho : w.heap[b]? = some o) (hb : ¬ S b) : w1.heap[b]? = some o := (h.keep b (lt_of_block ho) hb).trans ho
theorem Chg.cell (h : Chg B S w w1) {a : Addr} {u : Value} (ho : w.cell? a = some u) (hb : ¬ S a.block) : w1.cell? a = some u := (World.cell?_of_block (h.keep a.block (World.block_lt_of_cell? w a ho) hb)).trans ho
/-- Rows of two sorts lie apart. -/
theorem rows_apart {b1 b2 e1 e2 k1 k2 n1 n2 : Nat} {v1 v2 : Value} {x1 x2 : List Value} (h1 : w.ownsRow b1 e1 k1 v1 n1 x1) (h2 : w.ownsRow b2 e2 k2 v2 n2 x2) (hne : e1 ≠ e2) : ∀ q, v1.ownBlock = some q -> v2.ownBlock ≠ some q := by
  intro q e e'
  rcases h1.2 with ⟨rfl, _⟩ | ⟨g, cap, cur, rfl, _, hh, _⟩
  · cases e
  · rcases h2.2 with ⟨rfl, _⟩ | ⟨g', cap', cur', rfl, _, hh', _⟩
    · cases e'
    · injection e with e
      injection e' with e'
      simp only at e e'
      rw [e] at hh
      rw [e', hh] at hh'
      injection hh' with hh'
      injection hh' with _ hh'
      exact hne hh'
theorem row_obj {b1 e1 k1 n1 : Nat} {v1 : Value} {x1 : List Value} (h1 : w.ownsRow b1 e1 k1 v1 n1 x1) {q : Nat} (hq : v1.ownBlock = some q) : ∃ cur, w.heap[q]? = some (.cells cur e1 (0, 0)) := by
  rcases h1.2 with ⟨rfl, _⟩ | ⟨g, cap, cur, rfl, _, hh, _⟩
  · cases hq
  · injection hq with hq
    simp only at hq
    exact ⟨cur, hq ▸ hh⟩
end
/-- A region is walked in every order, and left in one way: what lies behind it is walked once. -/
theorem once0 {P : Program} {c : Code} {K : Act -> World -> Prop} {Q : Exit -> Act -> World -> Prop} {a : Act} {w : World} (W : World) {A : Act} (h1 : Code.wp P c (Exit.then (fun a' w' => a' = A /\ w' = W) Q) a w) (h2 : K A W) : Code.wp P c (Exit.then K Q) a w :=
  Code.wp_mono (fun e a' w' h => by
    cases e with
    | normal => obtain ⟨rfl, rfl⟩ := h; exact h2
    | _ => exact h) h1
theorem once3 {P : Program} {c : Code} {K : Act -> World -> Prop} {Q : Exit -> Act -> World -> Prop} {a : Act} {w : World} (F : Option Addr -> Nat -> World -> Prop) (G : Option Addr -> Nat -> World -> World) {A : Option Addr -> Nat -> World -> Act}
    (h1 : Code.wp P c (Exit.then (fun a' w' => ∃ p n y, F p n y /\ a' = A p n y /\ w' = G p n y) Q) a w) (h2 : ∀ p n y, F p n y -> K (A p n y) (G p n y)) : Code.wp P c (Exit.then K Q) a w :=
  Code.wp_mono (fun e a' w' h => by
    cases e with
    | normal => obtain ⟨p, n, y, hf, rfl, rfl⟩ := h; exact h2 p n y hf
    | _ => exact h) h1
theorem once4 {P : Program} {c : Code} {K : Act -> World -> Prop} {Q : Exit -> Act -> World -> Prop} {a : Act} {w : World} (F : World -> Option Addr -> Nat -> World -> Prop) (G : World -> Option Addr -> Nat -> World -> World) {A : World -> Option Addr -> Nat -> World -> Act}
    (h1 : Code.wp P c (Exit.then (fun a' w' => ∃ x p n y, F x p n y /\ a' = A x p n y /\ w' = G x p n y) Q) a w) (h2 : ∀ x p n y, F x p n y -> K (A x p n y) (G x p n y)) : Code.wp P c (Exit.then K Q) a w :=
  Code.wp_mono (fun e a' w' h => by
    cases e with
    | normal => obtain ⟨x, p, n, y, hf, rfl, rfl⟩ := h; exact h2 x p n y hf
    | _ => exact h) h1
/-- The linker's cells. -/
abbrev lkO (c0 c1 c2 c3 c4 c5 c6 c7 c8 : Value) : Obj := .cells #[c0, c1, c2, c3, c4, c5, c6, c7, c8] 58
theorem box9 {W : World} {b : Nat} {c0 c1 c2 c3 c4 c5 c6 c7 c8 : Value} {t : TypeId} (h : W.heap[b]? = some (.cells #[c0, c1, c2, c3, c4, c5, c6, c7, c8] t)) :
    (W.cell? ⟨b, 0, none⟩ = some c0 /\ W.cell? ⟨b, 1, none⟩ = some c1 /\ W.cell? ⟨b, 2, none⟩ = some c2 /\ W.cell? ⟨b, 3, none⟩ = some c3 /\ W.cell? ⟨b, 4, none⟩ = some c4 /\ W.cell? ⟨b, 5, none⟩ = some c5 /\ W.cell? ⟨b, 6, none⟩ = some c6 /\ W.cell? ⟨b, 7, none⟩ = some c7 /\ W.cell? ⟨b, 8, none⟩ = some c8) /\
    (∀ o, W.frozen? ⟨b, o, none⟩ = false) /\ b < W.heap.size := by
  refine ⟨⟨?_, ?_, ?_, ?_, ?_, ?_, ?_, ?_, ?_⟩, fun o => by simp [World.frozen?, h], lt_of_block h⟩ <;> simp [World.cell?, h]
abbrev dgC (d : Dg) : List Value := [.int .i64 d.m, .int .i64 d.li, .int .i64 d.co, .int .i64 d.er]
theorem info_dg : (prog.info? 37).map (fun i => (i.zero, i.size, i.bytes)) = some (some (.agg #[.int .i64 0, .int .i64 0, .int .i64 0, .int .i64 0]), 4, 32) := by kernel_rfl
/-- A Diag is told. -/
theorem tell_c (kb lo n : Nat) (d : Dg) (xs : List Value) (w : World) (c0 c1 c2 c3 c4 c5 c6 c7 vD : Value) (h : w.heap[kb]? = some (lkO c0 c1 c2 c3 c4 c5 c6 c7 vD)) (own : w.ownsRow lo 37 4 vD n xs) (hk : kb < lo) (hl : lo <= w.heap.size) (hn : n <= 1000000000000) :
    Calls prog 16 #[.pointer (some ⟨kb, 0, none⟩), .int .i64 d.m, .int .i64 d.li, .int .i64 d.co, .int .i64 d.er] w fun e w' => e = .returned (.tuple #[]) /\ ∃ vD', w'.heap[kb]? = some (lkO c0 c1 c2 c3 c4 c5 c6 c7 vD') /\
      w'.ownsRow lo 37 4 vD' (n + 1) (xs ++ dgC d) /\ (vD'.ownBlock = vD.ownBlock ∨ ∃ q, vD'.ownBlock = some q /\ w.heap.size <= q) /\ Chg kb (fun b => b = kb ∨ vD.ownBlock = some b) w w' := by
  obtain ⟨i0, hi, hz0, hz1, hz2⟩ := info_parts info_dg
  obtain ⟨⟨p0, p1, p2, p3, p4, p5, p6, p7, p8⟩, hfr, hkl⟩ := box9 h
  have H := hideP h
  have OW := hideP own
  obtain ⟨av, cv, rfl⟩ := row_shape own
  clear h own p0 p1 p2 p3 p4 p5 p6 p7
  go_enter func16, ntmps16
  go_wp2_with (at_builtin; refine wpList_append_own_at _ rfl (.tmp 14) (.tmp 20) 32 rfl lo 37 i0 _ 4 32 underlying32 hi hz0 hz1 hz2 rfl (by decide) _ _ _ rfl (OW.out.alloc _) ⟨_, 0, none⟩ 1 1 [.int .i64 d.m, .int .i64 d.li, .int .i64 d.co, .int .i64 d.er] rfl rfl (cells_newK _ _ _) (by simp [Value.oneCell']) (by unfold maxLen; omega) (by omega) (by simp; omega) ?_)
  intro v' w4 hown' hgrow _ hloc
  obtain ⟨av', cv', rfl⟩ := row_shape hown'
  have HO := hideP hown'
  have HG := hideP hgrow
  have HL := hideP hloc
  have HK4 := hideP ((hgrow.block kb (by rw [World.size_alloc]; omega) (fun e => by have := (OW.out.lt kb e.symm).1; omega)).trans ((Below.heap_alloc _ _ _ hkl).trans H.out))
  obtain ⟨⟨p0, p1, p2, p3, p4, p5, p6, p7, p8'⟩, hfr', hkl'⟩ := box9 HK4.out
  clear hown' hgrow hloc p0 p1 p2 p3 p4 p5 p6 p7
  go_wp2_with fail
  refine bodyPost_end (results_none rfl _ _ _) rfl ⟨rfl, .slice av' (n + 1) cv', ?_, ?_, ?_, ?_⟩
  · have := cells_setCell (o := 8) (u := .slice av' (n + 1) cv') HK4.out
    simpa using this
  · exact ownsRow_setCell_below HO.out (a := ⟨kb, 8, none⟩) hk _
  · rcases HL.out with e | e
    · exact .inl e
    · exact .inr ⟨_, e, by omega⟩
  · refine Chg.set ?_ (Nat.le_refl _) (fun _ => .inl rfl) 8 _
    refine Chg.grown (Chg.alloc (Chg.refl _ _ _) (by omega) _) HG.out (by rw [World.size_alloc]; omega) fun q e => ⟨by have := (OW.out.lt q e).1; omega, fun _ => .inr e⟩
end Go.Proofs.YtgblonhfidoleaaDoor
