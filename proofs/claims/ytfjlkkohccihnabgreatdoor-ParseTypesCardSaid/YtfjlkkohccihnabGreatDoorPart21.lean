/- Part of the proof of ParseTypes: the texts that follow, in build order. -/
import Derived.Test.YtfjlkkohccihnabGreatDoorPart20
import Derived.Test.YtfjlkkohccihnabGreatDoorPart18
import Derived.Deep.RegionLaw
import Derived.Test.YtfjlkkohccihnabGreatDoorPart3

/- A module. -/
namespace Go.Proofs.YtfjlkkohccihnabGreatDoor
open Go.RowKit
attribute [local go_sem ↓] Go.wp_at_zero Go.wp_at_succ

/-- Functions, as the program looks for them: it goes on while one begins. -/
def declsP (ts : List Tok) : Nat → Nat → Pr (List Ty)
  | 0, a => badA ts 7 a
  | f + 1, a => if seesA ts a [101, 120, 112, 111, 114, 116] || seesA ts a [102, 110] then (declA ts a).go fun d b => (declsP ts f b).go fun r b => .inl (d :: r, b) else .inl ([], a)
def moduleP (ts : List Tok) : Pr (List Ty × List Ty) := (importsA ts ts.length 0).go fun i a => (declsP ts (ts.length + 1) a).go fun d a => .inl ((i, d), a)

theorem sees_end {ts : List Tok} {a : Nat} {s : List UInt8} (h : ((tkA ts a).kind == 0) = true) : seesA ts a s = false := by
  have h0 : (tkA ts a).kind = 0 := by simpa using h
  unfold seesA
  rw [h0]
  rfl

theorem declsP_or (ts : List Tok) : ∀ f a, declsP ts f a = declsA ts f a ∨ ∃ l b, declsP ts f a = .inl (l, b) ∧ ((tkA ts b).kind == 0) = false ∧ declsA ts f a = badA ts 7 b
  | 0, a => .inl rfl
  | f + 1, a => by
    unfold declsP declsA
    cases hk : ((tkA ts a).kind == 0) with
    | true =>
      rw [sees_end hk, sees_end hk]
      exact .inl rfl
    | false =>
      cases hs : (seesA ts a [101, 120, 112, 111, 114, 116] || seesA ts a [102, 110]) with
      | false =>
        obtain ⟨h1, h2⟩ := Bool.or_eq_false_iff.1 hs
        refine .inr ⟨[], a, rfl, hk, ?_⟩
        rw [if_neg (by simp), declA_eq, h1, if_neg (by simp), wantA, h2]
        rfl
      | true =>
        rw [if_pos rfl, if_neg (by simp)]
        cases hd : declA ts a with
        | inr e => exact .inl rfl
        | inl p =>
          obtain ⟨d, b⟩ := p
          show Pr.go (declsP ts f b) _ = Pr.go (declsA ts f b) _ ∨ ∃ l c, Pr.go (declsP ts f b) _ = _ ∧ _ ∧ Pr.go (declsA ts f b) _ = _
          rcases declsP_or ts f b with h | ⟨l, c, h1, h2, h3⟩
          · exact .inl (by rw [h])
          · exact .inr ⟨d :: l, c, by rw [h1]; rfl, h2, by rw [h3]; rfl⟩

theorem moduleP_end (ts : List Tok) : endA ts (moduleP ts) = endA ts (moduleA ts) := by
  unfold moduleP moduleA
  cases importsA ts ts.length 0 with
  | inr e => rfl
  | inl p =>
    obtain ⟨i, a⟩ := p
    show endA ts (Pr.go (declsP ts (ts.length + 1) a) _) = endA ts (Pr.go (declsA ts (ts.length + 1) a) _)
    rcases declsP_or ts (ts.length + 1) a with h | ⟨l, b, h1, h2, h3⟩
    · rw [h]
    · rw [h1, h3]
      show (if ((tkA ts b).kind == 0) = true then _ else _) = _
      rw [h2]
      rfl

theorem imports_step {ts : List Tok} {f a : Nat} (h : seesA ts a [105, 109, 112, 111, 114, 116] = true) : importsA ts (f + 1) a = (importA ts a).go fun d b => (importsA ts f b).go fun r b => .inl (d :: r, b) := by
  rw [importsA, if_pos h, importA, wantA, if_pos h]
  show Pr.go (nameA ts (a + 1)) _ = Pr.go (Pr.go (nameA ts (a + 1)) _) _
  cases nameA ts (a + 1) with
  | inr e => rfl
  | inl p =>
    show Pr.go (wantA ts p.2 [58]) _ = Pr.go (Pr.go (wantA ts p.2 [58]) _) _
    cases wantA ts p.2 [58] with
    | inr e => rfl
    | inl q =>
      show Pr.go (manyA ts (nameA ts) [44] ts.length q.2) _ = Pr.go (Pr.go (manyA ts (nameA ts) [44] ts.length q.2) _) _
      cases manyA ts (nameA ts) [44] ts.length q.2 with
      | inr e => rfl
      | inl r =>
        show Pr.go (wantA ts r.2 [59]) _ = Pr.go (Pr.go (wantA ts r.2 [59]) _) _
        cases wantA ts r.2 [59] <;> rfl

/-- Where the program stands among the imports, and among the functions. -/
def AtI (ts : List Tok) (R : Pr (List Ty × List Ty)) (acc : List Ty) (m b : Nat) : Prop := R = (importsA ts m b).go fun r c => (declsP ts (ts.length + 1) c).go fun d c => .inl ((acc ++ r, d), c)
def AtD (ts : List Tok) (R : Pr (List Ty × List Ty)) (is acc : List Ty) (m b : Nat) : Prop := R = (declsP ts m b).go fun r c => .inl ((is, acc ++ r), c)
theorem atI_start (ts : List Tok) : AtI ts (moduleP ts) [] ts.length 0 := rfl
theorem atI_next {ts : List Tok} {R : Pr (List Ty × List Ty)} {acc : List Ty} {m b c : Nat} {D : Ty} (h : AtI ts R acc (m + 1) b) (hs : seesA ts b [105, 109, 112, 111, 114, 116] = true) (hi : importA ts b = .inl (D, c)) : AtI ts R (acc ++ [D]) m c := by
  unfold AtI at h ⊢
  rw [h, imports_step hs, hi]
  show Pr.go (Pr.go (importsA ts m c) _) _ = _
  cases importsA ts m c with
  | inr e => rfl
  | inl p =>
    show Pr.go (declsP ts (ts.length + 1) p.2) _ = Pr.go (declsP ts (ts.length + 1) p.2) _
    simp
theorem atI_fail {ts : List Tok} {R : Pr (List Ty × List Ty)} {acc : List Ty} {m b : Nat} {e : Int × Nat × Nat} (h : AtI ts R acc (m + 1) b) (hs : seesA ts b [105, 109, 112, 111, 114, 116] = true) (hi : importA ts b = .inr e) : R = .inr e := by
  rw [h, imports_step hs, hi]
  rfl
theorem atI_end {ts : List Tok} {R : Pr (List Ty × List Ty)} {acc : List Ty} {m b : Nat} (h : AtI ts R acc (m + 1) b) (hs : seesA ts b [105, 109, 112, 111, 114, 116] = false) : AtD ts R acc [] (ts.length + 1) b := by
  unfold AtD
  rw [h, importsA, if_neg (by simp [hs])]
  simp [Pr.go]
theorem atD_next {ts : List Tok} {R : Pr (List Ty × List Ty)} {is acc : List Ty} {m b c : Nat} {D : Ty} (h : AtD ts R is acc (m + 1) b) (hs : (seesA ts b [101, 120, 112, 111, 114, 116] || seesA ts b [102, 110]) = true) (hi : declA ts b = .inl (D, c)) : AtD ts R is (acc ++ [D]) m c := by
  unfold AtD at h ⊢
  rw [h, declsP, if_pos hs, hi]
  show Pr.go (Pr.go (declsP ts m c) _) _ = _
  cases declsP ts m c with
  | inr e => rfl
  | inl p => simp [Pr.go]
theorem atD_fail {ts : List Tok} {R : Pr (List Ty × List Ty)} {is acc : List Ty} {m b : Nat} {e : Int × Nat × Nat} (h : AtD ts R is acc (m + 1) b) (hs : (seesA ts b [101, 120, 112, 111, 114, 116] || seesA ts b [102, 110]) = true) (hi : declA ts b = .inr e) : R = .inr e := by
  rw [h, declsP, if_pos hs, hi]
  rfl
theorem atD_end {ts : List Tok} {R : Pr (List Ty × List Ty)} {is acc : List Ty} {m b : Nat} (h : AtD ts R is acc (m + 1) b) (hs : (seesA ts b [101, 120, 112, 111, 114, 116] || seesA ts b [102, 110]) = false) : R = .inl ((is, acc), b) := by
  rw [h, declsP, if_neg (by simp [hs])]
  simp [Pr.go]

/-- Whatever is read, the parser goes on. -/
theorem import_up {ts : List Tok} {a : Nat} : UpP (a + 1) (importA ts a) := by
  unfold importA
  exact up_go (up_ite (up_now (Nat.le_refl _) _) (up_bad _ _)) fun _ _ h => up_go (up_name h) fun _ _ h => up_go (up_want h _) fun _ _ h => up_go (up_many (fun a x b h => by rw [name_up h]; omega) _ h) fun _ _ h => up_go (up_want h _) fun _ _ h => up_now h _
theorem up_behind {ts : List Tok} {K : Nat → Pr Ty} (hK : ∀ a x b, K a = .inl (x, b) → a ≤ b) {a c : Nat} (h : a ≤ c) (s : List UInt8) : UpP a (behindA ts K s c) := up_ite (up_go (up_at hK (by omega)) fun _ _ h => up_now h _) (up_now h _)
theorem decl_up {ts : List Tok} {a : Nat} : UpP (a + 1) (declA ts a) := by
  have hK : ∀ a x b, kindA ts ts.length 101 0 a = .inl (x, b) → a ≤ b := fun a x b h => kind_up h
  rw [declA_eq]
  refine up_go (up_ite (up_now (by split <;> omega) _) (up_bad _ _)) fun _ _ h => up_go (up_name h) fun _ _ h => up_go (?_ : UpP _ (varsA ts _ _ _)) fun _ _ h => up_go (?_ : UpP _ (paramA ts _ _)) fun _ _ h => up_go (up_behind hK h _) fun _ _ h => up_go (up_want h _) fun _ _ h => up_go (up_at (fun a x b h => deep_up ts _ _ _ _ a x b h) h) fun _ _ h => up_go (up_want h _) fun _ _ h => up_now h _
  · refine up_ite (up_go (up_many (fun a x b h => ?_) _ (by omega)) fun _ _ h => up_go (up_want h _) fun _ _ h => up_now h _) (up_now h _)
    exact (up_go (up_name (Nat.le_refl _)) fun _ _ h => up_ite (up_go (up_at hK (by omega)) fun _ _ h => up_now h _) (up_now h _) : UpP a (varA ts _ a)) x b h
  · exact up_go (up_want h _) fun _ _ h => up_go (up_name h) fun _ _ h => up_go (up_behind hK h _) fun _ _ h => up_go (up_want h _) fun _ _ h => up_now h _

/-- Rows that the module's box holds. -/
theorem impC_k : RepK ImpC where
  keep := fun h hs hk => by
    obtain ⟨s, l, na, nc, li, co, e1, e2, e3, e4⟩ := h
    exact ⟨s, l, na, nc, li, co, e1, e2, e3, namesF_keep e4 hs hk⟩
  lower := fun h hl => by
    obtain ⟨s, l, na, nc, li, co, e1, e2, e3, e4⟩ := h
    exact ⟨s, l, na, nc, li, co, e1, e2, e3, namesF_lower e4 hl⟩
theorem declC_k : RepK DeclC where
  keep := fun h hs hk => by
    obtain ⟨s, ex, vs, va, vc, pm, ta, tc, tys, x, B, li, co, m, e1, e2, e3, e4, e5, e6, e7⟩ := h
    exact ⟨s, ex, vs, va, vc, pm, ta, tc, tys, x, B, li, co, m, e1, e2, e3, e4, varsF_keep e5 hs hk, kidsF_keep e6 hs hk, e7.keep hs hk⟩
  lower := fun h hl => by
    obtain ⟨s, ex, vs, va, vc, pm, ta, tc, tys, x, B, li, co, m, e1, e2, e3, e4, e5, e6, e7⟩ := h
    exact ⟨s, ex, vs, va, vc, pm, ta, tc, tys, x, B, li, co, m, e1, e2, e3, e4, varsF_lower e5 hl, kidsF_lower e6 hl, e7.lower hl⟩
theorem info_imp : (Tryz.prog.info? 68).map (fun i => (i.zero, i.size, i.bytes)) = some (some (.agg #[.string ⟨#[]⟩, .slice none 0 0, .int .i64 0, .int .i64 0]), 4, 56) := by kernel_rfl
theorem info_dec : (Tryz.prog.info? 52).map (fun i => (i.zero, i.size, i.bytes)) = some (some (.agg #[.string ⟨#[]⟩, .bool false, .slice none 0 0, .string ⟨#[]⟩, .slice none 0 0, .int .i64 0, .string ⟨#[]⟩, .int .i64 0, .int .i64 0, .int .i64 0, .slice none 0 0, .slice none 0 0, .slice none 0 0, .int .i64 0, .int .i64 0]), 15, 224) := by kernel_rfl

/-- A row as it is left: each of the xs by its k cells. -/
def RowQ {α : Type} (rep : Nat → World → List Value → α → Prop) (k lo : Nat) (w : World) (a : Option Addr) (xs : List α) : Prop := xs = [] ∨ ∃ g, a = some ⟨g, 0, none⟩ ∧ lo ≤ g ∧ CleanB w g ∧
    ∀ i (hi : i < xs.length), ∃ c : List Value, c.length = k ∧ (∀ j, j < k → w.cell? ⟨g, i * k + j, none⟩ = c[j]?) ∧ rep lo w c xs[i]
section
variable {α : Type} {rep : Nat → World → List Value → α → Prop} {k lo lo' : Nat} {w w' : World} {a : Option Addr} {xs : List α}
theorem rowQ_lower (hK : RepK rep) (h : RowQ rep k lo w a xs) (hl : lo' ≤ lo) : RowQ rep k lo' w a xs := by
  rcases h with h | ⟨g, e, hg, hc, hr⟩
  · exact .inl h
  · refine .inr ⟨g, e, Nat.le_trans hl hg, hc, fun i hi => ?_⟩
    obtain ⟨c, h1, h2, h3⟩ := hr i hi
    exact ⟨c, h1, h2, hK.lower h3 hl⟩
theorem rowQ_keep (hK : RepK rep) (h : RowQ rep k lo w a xs) (hs : w.heap.size ≤ w'.heap.size) (hk : ∀ b, lo ≤ b → b < w.heap.size → w'.heap[b]? = w.heap[b]?) : RowQ rep k lo w' a xs := by
  rcases h with h | ⟨g, e, hg, hc, hr⟩
  · exact .inl h
  · obtain ⟨cs, ty, hh⟩ := hc
    have hgk := hk g hg (lt_of_block hh)
    refine .inr ⟨g, e, hg, ⟨cs, ty, hgk.trans hh⟩, fun i hi => ?_⟩
    obtain ⟨c, h1, h2, h3⟩ := hr i hi
    refine ⟨c, h1, fun j hj => ?_, hK.keep h3 hs hk⟩
    have := h2 j hj
    unfold World.cell? at this ⊢
    simp only at this ⊢
    rw [hgk]
    exact this
end
/-- A module that was read. -/
def ModE (lo : Nat) (w : World) (v : Value) (x : List Ty × List Ty) : Prop := ∃ ia ic da dc, v = .agg #[.slice ia x.1.length ic, .slice da x.2.length dc] ∧ x.1.length ≤ 8193 ∧ x.2.length ≤ 8193 ∧ RowQ ImpC 4 lo w ia x.1 ∧ RowQ DeclC 15 lo w da x.2

/-- append to a row of one's own, as one step of a region that draws; and where the row lies then. -/
theorem step_append_at {P : Program} {ops : Array Oper} {o : Oper} {a : Act} {w : World} {K : Act → World → Prop} {Q : Exit → Act → World → Prop} {E : Prop}
    (hg : o.guard = none) (s x : Operand) (t : TypeId) (hop : o.op = Op.call { callee := Callee.builtin Builtin.append, args := #[s, x], argTypes := #[t, t] })
    (base : Nat) (e : TypeId) (i : TypeInfo) (z : Value) (size bytes : Nat) (ht : P.underlying t = some (.slice e)) (hi : P.info? e = some i) (hz : i.zero = some z)
    (hsize : i.size = size) (hby : i.bytes = bytes) (hzs : z.cells.size = size) (hsz : 0 < size)
    (v : Value) (n : Nat) (xs : List Value) (hs : a.eval s = v) (hown : w.ownsRow base e size v n xs)
    (ad : Addr) (m c : Nat) (news : List Value) (hx : a.eval x = .slice (some ad) m c) (hl : news.length = m * size) (hnews : ∀ j u, news[j]? = some u → w.cell? (ad.add j) = some u) (h1 : ∀ u ∈ news, u.oneCell' = true)
    (h63 : n + m ≤ maxLen) (hbytes : (n + m) * bytes ≤ 140737488355328) (hbase : base ≤ w.heap.size)
    (hK : ∀ v' w', w'.ownsRow base e size v' (n + m) (xs ++ news) → w.grownBy w' v.ownBlock → (v'.ownBlock = v.ownBlock ∨ v'.ownBlock = some w.heap.size) → K (a.put o.dst v') w') :
    if Region.wanted o (yielded ops a.tmps) = true then Oper.wp P o a w K Q else E := by
  have hw : Region.wanted o (yielded ops a.tmps) = true := by simp [Region.wanted, hg]
  rw [if_pos hw]
  obtain ⟨v', w', hr, h2, h3, _, h5⟩ := run_append_own_at (P := P) w base t o.type e i z size bytes ht hi hz hsize hby hzs hsz v n xs hown ad m c news hl hnews h1 h63 hbytes hbase
  unfold Oper.wp
  simp [execOp, hop, resolve, invoke, builtin, hs, hx, hr, Result.andThen]
  exact hK v' w' h2 h3 h5

abbrev modO (vi vd : Value) : Obj := .cells #[vi, vd] 42
abbrev zMod : Obj := modO (.slice none 0 0) (.slice none 0 0)
/-- While a module is read: its box holds vi and vd. -/
structure ModX (pb tb cap : Nat) (ts : List Tok) (w0 w : World) (b : Nat) (vi vd : Value) : Prop where
  st : Stay pb w0 w
  ps : Ps w pb tb cap ts b 0
  hp : pb < w0.heap.size
  res : w.heap[w0.heap.size]? = some zMod
  box : w.heap[w0.heap.size + 1]? = some (modO vi vd)
section
variable {pb tb cap b b' : Nat} {ts : List Tok} {w0 w w' w4 : World} {vi vd : Value} {g : Option Nat}
theorem ModX.lt (h : ModX pb tb cap ts w0 w b vi vd) : w0.heap.size + 2 ≤ w.heap.size := lt_of_block h.box
theorem ModX.step (h : ModX pb tb cap ts w0 w b vi vd) (hst : Stay pb w w') (hps : Ps w' pb tb cap ts b' 0) : ModX pb tb cap ts w0 w' b' vi vd where
  st := h.st.trans hst
  ps := hps
  hp := h.hp
  res := (hst.keep _ h.hp (lt_of_block h.res)).trans h.res
  box := (hst.keep _ (by have := h.hp; omega) (lt_of_block h.box)).trans h.box
theorem ModX.below (h : ModX pb tb cap ts w0 w b vi vd) (hb : Below w.heap.size w w') : ModX pb tb cap ts w0 w' b vi vd := h.step (Stay.of h.ps.ltp hb) (h.ps.below hb)
theorem ModX.alloc (h : ModX pb tb cap ts w0 w b vi vd) (o : Obj) : ModX pb tb cap ts w0 (w.alloc o) b vi vd := h.below (bl_alloc _ _)
theorem ModX.drew (h : ModX pb tb cap ts w0 w b vi vd) : ModX pb tb cap ts w0 w.drew b vi vd := ⟨h.st.drew, h.ps.drew, h.hp, h.res, h.box⟩
theorem ModX.grown (h : ModX pb tb cap ts w0 w b vi vd) (hg : w.grownBy w4 g) (hr : ∀ k, g = some k → w0.heap.size + 2 ≤ k) : ModX pb tb cap ts w0 w4 b vi vd where
  st := h.st.grown hg h.hp fun k hk => by have := hr k hk; omega
  ps := h.ps.grown hg fun k hk => by have := hr k hk; have := h.hp; omega
  hp := h.hp
  res := (hg.block _ (lt_of_block h.res) (fun e => by have := hr _ e.symm; omega)).trans h.res
  box := (hg.block _ (lt_of_block h.box) (fun e => by have := hr _ e.symm; omega)).trans h.box
theorem ModX.set0 (h : ModX pb tb cap ts w0 w b vi vd) (u : Value) : ModX pb tb cap ts w0 (w.setCell ⟨w0.heap.size + 1, 0, none⟩ u) b u vd where
  st := h.st.own h.hp (by omega) 0 u
  ps := h.ps.other (by have := h.hp; omega) 0 u
  hp := h.hp
  res := (Below.heap_setCell _ _ _ _ (by show w0.heap.size ≠ w0.heap.size + 1; omega)).trans h.res
  box := by
    have h1 := cells_setCell (o := 0) (u := u) h.box
    simpa using h1
theorem ModX.set1 (h : ModX pb tb cap ts w0 w b vi vd) (u : Value) : ModX pb tb cap ts w0 (w.setCell ⟨w0.heap.size + 1, 1, none⟩ u) b vi u where
  st := h.st.own h.hp (by omega) 1 u
  ps := h.ps.other (by have := h.hp; omega) 1 u
  hp := h.hp
  res := (Below.heap_setCell _ _ _ _ (by show w0.heap.size ≠ w0.heap.size + 1; omega)).trans h.res
  box := by
    have h1 := cells_setCell (o := 1) (u := u) h.box
    simpa using h1
end
theorem box2 {W : World} {b : Nat} {x0 x1 : Value} {t : TypeId} (h : W.heap[b]? = some (.cells #[x0, x1] t)) : (W.cell? ⟨b, 0, none⟩ = some x0 ∧ W.cell? ⟨b, 1, none⟩ = some x1) ∧ (W.frozen? ⟨b, 0, none⟩ = false ∧ W.frozen? ⟨b, 1, none⟩ = false) ∧ b < W.heap.size := by
  refine ⟨⟨?_, ?_⟩, ⟨?_, ?_⟩, lt_of_block h⟩
  all_goals first | (rw [cell_of_row _ _ _ _ _ _ h]; rfl) | simp [World.frozen?, h]
theorem rows_set {α : Type} {rep : Nat → World → List Value → α → Prop} {B et k : Nat} {wx : World} {v : Value} {cs : List (List Value)} {xs : List α} {q : Nat} {oo : Option Nat} (h : RowsC rep B et k oo wx v cs xs) (hq : q < B) (o : Nat) (u : Value) : RowsC rep B et k oo (wx.setCell ⟨q, o, none⟩ u) v cs xs := by
  have hkeep : ∀ b, B ≤ b → (wx.setCell ⟨q, o, none⟩ u).heap[b]? = wx.heap[b]? := fun b hb => Below.heap_setCell _ _ _ _ (by show b ≠ q; omega)
  refine ⟨h.len, h.each, ?_, h.apart, fun r hr => ?_, fun i h1 h2 => ?_⟩
  · obtain ⟨o1, o2⟩ := h.ow
    refine ⟨o1, ?_⟩
    rcases o2 with o2 | ⟨g, cap, cur, e, hg, hh, r⟩
    · exact .inl o2
    · exact .inr ⟨g, cap, cur, e, hg, (hkeep g hg).trans hh, r⟩
  · rw [size_set]; exact h.olt r hr
  · obtain ⟨wi, lo, m1, m2, m3, m4, m5⟩ := h.made i h1 h2
    exact ⟨wi, lo, m1, m2, by rw [size_set]; exact m3, fun b hb hl => (hkeep b (by omega)).trans (m4 b hb hl), m5⟩

theorem put2_heap {w : World} {b : Nat} {y0 y1 : Value} {t : TypeId} (h : w.heap[b]? = some (.cells #[y0, y1] t)) (x0 x1 : Value) : ((w.setCell ⟨b, 0, none⟩ x0).setCell ⟨b, 1, none⟩ x1).heap[b]? = some (.cells #[x0, x1] t) := by
  have h0 := cells_setCell (o := 0) (u := x0) h
  have h1 := cells_setCell (o := 1) (u := x1) h0
  simpa using h1
end Go.Proofs.YtfjlkkohccihnabGreatDoor

/- A module by its contract. -/
namespace Go.Proofs.YtfjlkkohccihnabGreatDoor
open Go.RowKit
attribute [local go_sem ↓] Go.wp_at_zero Go.wp_at_succ

set_option maxRecDepth 100000 in
set_option maxHeartbeats 4000000 in
theorem module_c (pb tb cap : Nat) (ts : List Tok) (ok : ToksOk ts) (w : World) (h : Ps w pb tb cap ts 0 0) :
    Calls Tryz.prog 44 #[.pointer (some ⟨pb, 0, none⟩)] w (PPost pb tb cap ts 0 w ModE (moduleP ts)) := by
  have OK := hideP ok
  have hp := h.ltp
  have X0 : Hid (ModX pb tb cap ts w ((w.alloc zMod).alloc zMod) 0 (.slice none 0 0) (.slice none 0 0)) :=
    ⟨((Stay.refl pb w).alloc hp _).alloc hp _, (h.alloc _).alloc _, hp, (Below.heap_alloc _ _ _ (by simp)).trans (heap_alloc_last w _), heap_at1 w _ _⟩
  obtain ⟨R, hR⟩ : ∃ R : Pr (List Ty × List Ty), R = moduleP ts := ⟨_, rfl⟩
  rw [← hR]
  have HA0 : Hid (AtI ts R [] ts.length 0) := by rw [hR]; exact atI_start ts
  clear h ok hR
  go_enter Tryz.func44, Tryz.ntmps44
  go_wp2_with fail
  obtain ⟨i0, hi, hz0, hz1, hz2⟩ := info_parts info_imp
  obtain ⟨i1, hi', hz0', hz1', hz2'⟩ := info_parts info_dec
  go_loopg [4] (ts.length) (fun gk _ wr => ∃ (b m : Nat) (v : Value) (cs : List (List Value)) (acc : List Ty), Hid (ModX pb tb cap ts w wr b v (.slice none 0 0)) ∧ Hid (RowsC ImpC (w.heap.size + 2) 68 4 none wr v cs acc) ∧ Hid (AtI ts R acc m b) ∧ Hid (ts.length ≤ b + m) ∧ Hid (acc.length ≤ b) ∧ ts.length - b ≤ gk)
  case atStart => exact ⟨0, ts.length, _, [], [], X0, rows_nil _ _ _ _ _, HA0, (by show _ ≤ _; omega), Nat.le_refl _, by omega⟩
  case round =>
    clear X0 HA0
    obtain ⟨b, m, v, cs, acc, X, RW, HA, HLe, HAc, hgk⟩ := hrel
    have hbt := X.out.ps.lt
    obtain ⟨m, rfl⟩ : ∃ q, m = q + 1 := ⟨m - 1, by have := HLe.out; omega⟩
    go_wp2_with fail
    refine (is_new pb tb cap b _ 1 ts [[105, 109, 112, 111, 114, 116]] _ _ X.out.ps.rd (by simp) (by simp)).mono ?_
    rintro e w2 ⟨rfl, hb2⟩
    have X2 := hideP (X.out.below hb2)
    have RW2 := hideP (RW.out.stay (Stay.of X.out.ps.ltp hb2) (show pb < w.heap.size + 2 by omega))
    clear hb2
    simp only [List.any_cons, List.any_nil, Bool.or_false]
    cases hs : seesA ts b [105, 109, 112, 111, 114, 116] with
    | false =>
      have HD := hideP (atI_end HA.out hs)
      clear hs
      clear X RW HA HLe hbt
      obtain ⟨wo, hwo⟩ : ∃ wo, wo = w2 := ⟨_, rfl⟩
      rw [← hwo] at X2 RW2 ⊢
      clear hwo
      obtain ⟨is, his⟩ : ∃ is, is = acc := ⟨_, rfl⟩
      have hil : is.length ≤ 8193 := by have := HAc.out; have := OK.out.len; have := X2.out.ps.lt; rw [his]; omega
      rw [← his] at RW2 HD
      clear his
      obtain ⟨ia, ic, rfl⟩ := row_shape RW2.out.ow
      have hb2 := X2.out.ps.lt
      go_wp2_with fail
      go_loopg [16] (ts.length) (fun gk _ wr => ∃ (b m : Nat) (v : Value) (cd : List (List Value)) (acc : List Ty), Hid (ModX pb tb cap ts w wr b (.slice ia is.length ic) v) ∧ Hid (RowsC ImpC (w.heap.size + 2) 68 4 v.ownBlock wr (.slice ia is.length ic) cs is) ∧ Hid (RowsC DeclC (w.heap.size + 2) 52 15 none wr v cd acc) ∧ Hid (AtD ts R is acc m b) ∧ Hid (ts.length + 1 ≤ b + m) ∧ Hid (acc.length ≤ b) ∧ ts.length - b ≤ gk)
      case atStart => exact ⟨b, ts.length + 1, .slice none 0 0, [], [], X2, RW2, rows_nil _ _ _ _ _, HD, (by show _ ≤ _; omega), Nat.zero_le _, by omega⟩
      case round =>
        clear X2 RW2 HD HAc hb2
        obtain ⟨b, m, v, cd, acc, X, RI, RW, HA, HLe, HAc, hgk⟩ := hrel
        have hbt := X.out.ps.lt
        obtain ⟨m, rfl⟩ : ∃ q, m = q + 1 := ⟨m - 1, by have := HLe.out; omega⟩
        go_wp2_with fail
        refine (is_new pb tb cap b _ 2 ts [[101, 120, 112, 111, 114, 116], [102, 110]] _ _ X.out.ps.rd (by simp) (by simp)).mono ?_
        rintro e w3 ⟨rfl, hb3⟩
        have X2 := hideP (X.out.below hb3)
        have RI2 := hideP (RI.out.stay (Stay.of X.out.ps.ltp hb3) (show pb < w.heap.size + 2 by omega))
        have RW2 := hideP (RW.out.stay (Stay.of X.out.ps.ltp hb3) (show pb < w.heap.size + 2 by omega))
        clear hb3
        simp only [List.any_cons, List.any_nil, Bool.or_false]
        have hac : acc.length ≤ 8193 := by have := HAc.out; have := OK.out.len; omega
        cases hs : (seesA ts b [101, 120, 112, 111, 114, 116] || seesA ts b [102, 110]) with
        | false =>
          have HD := hideP (atD_end HA.out hs)
          clear hs X RI RW HA HLe
          obtain ⟨da, dc, rfl⟩ := row_shape RW2.out.ow
          obtain ⟨⟨c0, c1⟩, ⟨z0, z1⟩, hcl⟩ := box2 X2.out.box
          obtain ⟨⟨r0, r1⟩, ⟨f0, f1⟩, hrl⟩ := box2 X2.out.res
          go_wp2_with fail
          rw [HD.out]
          have hI := (rows_set (rows_set RI2.out (q := w.heap.size) (by omega) 0 (.slice ia is.length ic)) (q := w.heap.size) (by omega) 1 (.slice da acc.length dc)).form impC_k
          have hD := (rows_set (rows_set RW2.out (q := w.heap.size) (by omega) 0 (.slice ia is.length ic)) (q := w.heap.size) (by omega) 1 (.slice da acc.length dc)).form declC_k
          obtain ⟨ia', ic', e1, _, hI⟩ := hI
          obtain ⟨da', dc', e2, _, hD⟩ := hD
          injection e1 with e1 _ _
          injection e2 with e2 _ _
          subst e1 e2
          refine bodyPost_ret (results_cell_row rfl _ _ w.heap.size 42 _ (0, 0) _ rfl (put2_heap X2.out.res (.slice ia is.length ic) (.slice da acc.length dc)) Tryz.underlying42 rfl (by kernel_rfl)) rfl ⟨(X2.out.st.own hp (Nat.le_refl _) 0 _).own hp (Nat.le_refl _) 1 _, (X2.out.ps.other hp 0 _).other hp 1 _, _, rfl, ia, ic, da, dc, rfl, hil, hac, ?_, ?_⟩
          · exact rowQ_lower impC_k hI (by omega)
          · exact rowQ_lower declC_k hD (by omega)
        | true =>
          have HSe := hideP hs
          clear hs X RI RW
          go_wp2_with fail
          have X3 := hideP X2.out.drew
          have RI3 : Hid (RowsC ImpC (w.heap.size + 2) 68 4 v.ownBlock w3.drew (.slice ia is.length ic) cs is) := RI2.out.stay (Stay.refl pb w3).drew (show pb < w.heap.size + 2 by omega)
          have RW3 : Hid (RowsC DeclC (w.heap.size + 2) 52 15 none w3.drew v cd acc) := RW2.out.stay (Stay.refl pb w3).drew (show pb < w.heap.size + 2 by omega)
          obtain ⟨⟨c0, c1⟩, ⟨z0, z1⟩, hcl⟩ := box2 X3.out.box
          have HC : Hid (Calls Tryz.prog 85 #[.pointer (some ⟨pb, 0, none⟩)] w3.drew fun e w9 => (∃ chain, e = .panicked chain ∧ PPost pb tb cap ts 0 w ModE R e w9) ∨ ∃ (s : List UInt8) (ex : Bool) (vs : List (List UInt8 × Ty)) (va : Option Addr) (vc : Nat) (pm : List UInt8) (ta : Option Addr) (tc : Nat) (x : NV) (li co : Nat) (D : Ty) (b1 : Nat), e = .returned (.agg #[.string ⟨s.toArray⟩, .bool ex, .slice va vs.length vc, .string ⟨pm.toArray⟩, .slice ta 2 tc, .int .i64 x.k, .string x.tx, .int .i64 x.N, .int .i64 x.li, .int .i64 x.co, .slice x.ta x.tl x.tc, .slice x.na x.nl x.nc, .slice x.ka x.kl x.kc, .int .i64 li, .int .i64 co]) ∧ (w9.cell? ⟨w.heap.size + 1, 0, none⟩ = some (.slice ia is.length ic) ∧ w9.cell? ⟨w.heap.size + 1, 1, none⟩ = some v) ∧ w.heap.size + 1 < w9.heap.size ∧
              Hid (AtD ts R is (acc ++ [D]) m b1 ∧ b + 1 ≤ b1 ∧ ModX pb tb cap ts w w9 b1 (.slice ia is.length ic) v ∧ RowsC DeclC (w.heap.size + 2) 52 15 none w9 v cd acc ∧ Made DeclC (w.heap.size + 2) (fun q => v.ownBlock = some q ∨ (none : Option Nat) = some q) w9 [.string ⟨s.toArray⟩, .bool ex, .slice va vs.length vc, .string ⟨pm.toArray⟩, .slice ta 2 tc, .int .i64 x.k, .string x.tx, .int .i64 x.N, .int .i64 x.li, .int .i64 x.co, .slice x.ta x.tl x.tc, .slice x.na x.nl x.nc, .slice x.ka x.kl x.kc, .int .i64 li, .int .i64 co] D ∧ RowsC ImpC (w.heap.size + 2) 68 4 v.ownBlock w9 (.slice ia is.length ic) cs is)) := by
            refine (decl_c pb tb cap ts OK.out b _ X3.out.ps).mono ?_
            intro e w9 hpost
            rcases ppost_or hpost with ⟨er, li, co, hr, rfl, hst⟩ | ⟨D, b1, v1, hr, rfl, hst, hps, hv⟩
            · exact .inl ⟨_, rfl, X3.out.st.trans hst, by rw [atD_fail HA.out HSe.out hr]⟩
            obtain ⟨c, rfl, hc⟩ := hv
            have hc' := hc
            obtain ⟨s, ex, vs, va, vc, pm, ta, tc, tys, x, B, li, co, md, rfl, _⟩ := hc
            have XN := X3.out.step hst hps
            have hb := box2 XN.box
            exact .inr ⟨s, ex, vs, va, vc, pm, ta, tc, x, li, co, D, b1, rfl, hb.1, hb.2.2, atD_next HA.out HSe.out hr, decl_up _ _ hr, XN, RW3.out.stay hst (by omega), Made.new (rep := DeclC) hc' X3.out.lt (fun q hq => RW3.out.all q hq), RI3.out.stay hst (by omega)⟩
          go_region_law (first
            | (go_simp; go_at_call 85; refine HC.out.mono ?_; rintro e w9 (⟨ch, rfl, hf⟩ | ⟨s, ex, vs, va, vc, pm, ta, tc, x, li, co, D, b1, rfl, ⟨t0, t1⟩, hl9, HX⟩); exact ⟨rfl, hf⟩)
            | (refine step_append_at rfl (.tmp 22) (.tmp 25) 40 rfl (w.heap.size + 2) 52 i1 _ 15 224 Tryz.underlying40 hi' hz0' hz1' hz2' rfl (by decide) v _ _ (by first | rfl | simp [Act.eval, Act.put]) (HX.out.2.2.2.1.ow.alloc _) ⟨w9.heap.size, 0, none⟩ 1 1 [.string ⟨s.toArray⟩, .bool ex, .slice va vs.length vc, .string ⟨pm.toArray⟩, .slice ta 2 tc, .int .i64 x.k, .string x.tx, .int .i64 x.N, .int .i64 x.li, .int .i64 x.co, .slice x.ta x.tl x.tc, .slice x.na x.nl x.nc, .slice x.ka x.kl x.kc, .int .i64 li, .int .i64 co] (by first | rfl | simp [Act.eval, Act.put]) rfl (cells_newK _ _ _) (by simp [Value.oneCell']) (by unfold maxLen; omega) (by omega) (by rw [World.size_alloc]; omega) ?_; intro v' w4 hown' hgrow hloc; obtain ⟨av, cv, rfl⟩ := row_shape hown';
                have HN : Hid (ModX pb tb cap ts w w4 b1 (.slice ia is.length ic) v ∧ RowsC DeclC (w.heap.size + 2) 52 15 none w4 (.slice av (acc.length + 1) cv) (cd ++ [[.string ⟨s.toArray⟩, .bool ex, .slice va vs.length vc, .string ⟨pm.toArray⟩, .slice ta 2 tc, .int .i64 x.k, .string x.tx, .int .i64 x.N, .int .i64 x.li, .int .i64 x.co, .slice x.ta x.tl x.tc, .slice x.na x.nl x.nc, .slice x.ka x.kl x.kc, .int .i64 li, .int .i64 co]]) (acc ++ [D]) ∧ RowsC ImpC (w.heap.size + 2) 68 4 (Value.slice av (acc.length + 1) cv).ownBlock w4 (.slice ia is.length ic) cs is) := ⟨(HX.out.2.2.1.alloc _).grown hgrow fun q hq => (HX.out.2.2.2.1.own q hq).1, HX.out.2.2.2.1.put hown' hgrow (hloc.imp_right fun e => ⟨_, e, by simp⟩) ((Stay.refl pb w9).alloc HX.out.2.2.1.ps.ltp _) (show pb < w.heap.size + 2 by omega) rfl (HX.out.2.2.2.2.1.stay ((Stay.refl pb w9).alloc HX.out.2.2.1.ps.ltp _) (show pb < w.heap.size + 2 by omega)), (HX.out.2.2.2.2.2.stay ((Stay.refl pb w9).alloc HX.out.2.2.1.ps.ltp _) (show pb < w.heap.size + 2 by omega)).beside hgrow (hloc.imp_right fun e => ⟨_, e, Nat.le_refl _, (hown'.lt _ e).2⟩) (by rw [World.size_alloc]; omega)⟩;
                obtain ⟨⟨k0, k1⟩, ⟨f0, f1⟩, hk4⟩ := box2 HN.out.1.box; clear hown' hgrow hloc))
          all_goals
            go_wp2_with fail
            go_roundg (ts.length - b1)
            case measure => have := HX.out.2.1; omega
            case rel => exact ⟨b1, m, _, _, _, HN.out.1.set1 _, rows_set HN.out.2.2 (by omega) 1 _, rows_set HN.out.2.1 (by omega) 1 _, HX.out.1, (by have := HLe.out; have := HX.out.2.1; show _ ≤ _; omega), (by have := HAc.out; have := HX.out.2.1; show (acc ++ [D]).length ≤ _; simp; omega), Nat.le_refl _⟩
    | true =>
      have hbl : b + 1 < ts.length := sees_next OK.out.ends hbt hs
      have HSe := hideP hs
      have hac : acc.length ≤ 8193 := by have := HAc.out; have := OK.out.len; omega
      clear hs X RW
      go_wp2_with fail
      have X3 := hideP X2.out.drew
      have RW3 : Hid (RowsC ImpC (w.heap.size + 2) 68 4 none w2.drew v cs acc) := RW2.out.stay (Stay.refl pb w2).drew (show pb < w.heap.size + 2 by omega)
      obtain ⟨⟨c0, c1⟩, ⟨z0, z1⟩, hcl⟩ := box2 X3.out.box
      have HC : Hid (Calls Tryz.prog 84 #[.pointer (some ⟨pb, 0, none⟩)] w2.drew fun e w9 => (∃ chain, e = .panicked chain ∧ PPost pb tb cap ts 0 w ModE R e w9) ∨ ∃ (s : List UInt8) (l : List (List UInt8)) (na : Option Addr) (nc li co : Nat) (D : Ty) (b1 : Nat), e = .returned (.agg #[.string ⟨s.toArray⟩, .slice na l.length nc, .int .i64 li, .int .i64 co]) ∧ (w9.cell? ⟨w.heap.size + 1, 0, none⟩ = some v ∧ w9.cell? ⟨w.heap.size + 1, 1, none⟩ = some (.slice none 0 0)) ∧ w.heap.size + 1 < w9.heap.size ∧
          Hid (AtI ts R (acc ++ [D]) m b1 ∧ b + 1 ≤ b1 ∧ ModX pb tb cap ts w w9 b1 v (.slice none 0 0) ∧ RowsC ImpC (w.heap.size + 2) 68 4 none w9 v cs acc ∧ Made ImpC (w.heap.size + 2) (fun q => v.ownBlock = some q ∨ (none : Option Nat) = some q) w9 [.string ⟨s.toArray⟩, .slice na l.length nc, .int .i64 li, .int .i64 co] D)) := by
        refine (imported_c pb tb cap 0 ts OK.out b _ X3.out.ps).mono ?_
        intro e w9 hpost
        rcases ppost_or hpost with ⟨er, li, co, hr, rfl, hst⟩ | ⟨D, b1, v1, hr, rfl, hst, hps, hv⟩
        · exact .inl ⟨_, rfl, X3.out.st.trans hst, by rw [atI_fail HA.out HSe.out hr]⟩
        obtain ⟨c, rfl, hc⟩ := hv
        have hc' := hc
        obtain ⟨s, l, na, nc, li, co, rfl, _⟩ := hc
        have XN := X3.out.step hst hps
        have hb := box2 XN.box
        exact .inr ⟨s, l, na, nc, li, co, D, b1, rfl, hb.1, hb.2.2, atI_next HA.out HSe.out hr, import_up _ _ hr, XN, RW3.out.stay hst (by omega), Made.new (rep := ImpC) hc' X3.out.lt fun q hq => RW3.out.all q hq⟩
      go_region_law (first
        | (go_simp; go_at_call 84; refine HC.out.mono ?_; rintro e w9 (⟨ch, rfl, hf⟩ | ⟨s, l, na, nc, li, co, D, b1, rfl, ⟨t0, t1⟩, hl9, HX⟩); exact ⟨rfl, hf⟩)
        | (refine step_append_at rfl (.tmp 10) (.tmp 13) 39 rfl (w.heap.size + 2) 68 i0 _ 4 56 Tryz.underlying39 hi hz0 hz1 hz2 rfl (by decide) v _ _ (by first | rfl | simp [Act.eval, Act.put]) (HX.out.2.2.2.1.ow.alloc _) ⟨w9.heap.size, 0, none⟩ 1 1 [.string ⟨s.toArray⟩, .slice na l.length nc, .int .i64 li, .int .i64 co] (by first | rfl | simp [Act.eval, Act.put]) rfl (cells_newK _ _ _) (by simp [Value.oneCell']) (by unfold maxLen; omega) (by omega) (by rw [World.size_alloc]; omega) ?_; intro v' w4 hown' hgrow hloc; obtain ⟨av, cv, rfl⟩ := row_shape hown';
            have HN : Hid (ModX pb tb cap ts w w4 b1 v (.slice none 0 0) ∧ RowsC ImpC (w.heap.size + 2) 68 4 none w4 (.slice av (acc.length + 1) cv) (cs ++ [[.string ⟨s.toArray⟩, .slice na l.length nc, .int .i64 li, .int .i64 co]]) (acc ++ [D])) := ⟨(HX.out.2.2.1.alloc _).grown hgrow fun q hq => (HX.out.2.2.2.1.own q hq).1, HX.out.2.2.2.1.put hown' hgrow (hloc.imp_right fun e => ⟨_, e, by simp⟩) ((Stay.refl pb w9).alloc HX.out.2.2.1.ps.ltp _) (show pb < w.heap.size + 2 by omega) rfl (HX.out.2.2.2.2.stay ((Stay.refl pb w9).alloc HX.out.2.2.1.ps.ltp _) (show pb < w.heap.size + 2 by omega))⟩;
            obtain ⟨⟨k0, k1⟩, ⟨f0, f1⟩, hk4⟩ := box2 HN.out.1.box; clear hown' hgrow hloc))
      all_goals
        go_wp2_with fail
        go_roundg (ts.length - b1)
        case measure => have := HX.out.2.1; omega
        case rel => exact ⟨b1, m, _, _, _, HN.out.1.set0 _, rows_set HN.out.2 (by omega) 0 _, HX.out.1, (by have := HLe.out; have := HX.out.2.1; show _ ≤ _; omega), (by have := HAc.out; have := HX.out.2.1; show (acc ++ [D]).length ≤ _; simp; omega), Nat.le_refl _⟩
end Go.Proofs.YtfjlkkohccihnabGreatDoor

/- What is deferred, of modules. -/
namespace Go.Proofs.YtfjlkkohccihnabGreatDoor
open Go.RowKit

/-- The parts of a module. -/
structure MV where
  ia : Option Addr
  il : Nat
  ic : Nat
  da : Option Addr
  dl : Nat
  dc : Nat
abbrev MV.val (x : MV) : Value := .agg #[.slice x.ia x.il x.ic, .slice x.da x.dl x.dc]
abbrev MV.obj (x : MV) : Obj := .cells #[.slice x.ia x.il x.ic, .slice x.da x.dl x.dc] 42
abbrev zMV : MV := ⟨none, 0, 0, none, 0, 0⟩
abbrev putM (w : World) (b : Nat) (x : MV) : World := (w.setCell ⟨b, 0, none⟩ (.slice x.ia x.il x.ic)).setCell ⟨b, 1, none⟩ (.slice x.da x.dl x.dc)
def MdV (lo : Nat) (w : World) (x : MV) (D : List Ty × List Ty) : Prop := x.il = D.1.length ∧ x.dl = D.2.length ∧ D.1.length ≤ 8193 ∧ D.2.length ≤ 8193 ∧ RowQ ImpC 4 lo w x.ia D.1 ∧ RowQ DeclC 15 lo w x.da D.2
def MdE (lo : Nat) (w : World) (v : Value) (D : List Ty × List Ty) : Prop := ∃ x : MV, v = x.val ∧ MdV lo w x D
theorem mdE_of {lo : Nat} {w : World} {v : Value} {D : List Ty × List Ty} (h : ModE lo w v D) : MdE lo w v D := by
  obtain ⟨ia, ic, da, dc, rfl, h1, h2, h3, h4⟩ := h
  exact ⟨⟨ia, D.1.length, ic, da, D.2.length, dc⟩, rfl, rfl, rfl, h1, h2, h3, h4⟩
section
variable {w w' : World} {lo lo' b pb : Nat} {x y : MV} {D : List Ty × List Ty}
theorem putM_heap (h : w.heap[b]? = some y.obj) : (putM w b x).heap[b]? = some x.obj := put2_heap h _ _
theorem putM_size : (putM w b x).heap.size = w.heap.size := by
  unfold putM
  rw [size_set, size_set]
theorem putM_other {i : Nat} (hi : i ≠ b) : (putM w b x).heap[i]? = w.heap[i]? := by
  unfold putM
  rw [Below.heap_setCell _ _ _ _ hi, Below.heap_setCell _ _ _ _ hi]
theorem below_putM {B : Nat} {u : World} (h : Below B u w) (hb : B ≤ b) (x : MV) : Below B u (putM w b x) := (h.setCell hb _).setCell hb _
theorem boxM (h : w.heap[b]? = some x.obj) : (w.cell? ⟨b, 0, none⟩ = some (.slice x.ia x.il x.ic) ∧ w.cell? ⟨b, 1, none⟩ = some (.slice x.da x.dl x.dc)) ∧ (w.frozen? ⟨b, 0, none⟩ = false ∧ w.frozen? ⟨b, 1, none⟩ = false) ∧ b < w.heap.size := box2 h
theorem MdV.keep (h : MdV lo w x D) (hs : w.heap.size ≤ w'.heap.size) (hk : ∀ b, lo ≤ b → b < w.heap.size → w'.heap[b]? = w.heap[b]?) : MdV lo w' x D :=
  ⟨h.1, h.2.1, h.2.2.1, h.2.2.2.1, rowQ_keep impC_k h.2.2.2.2.1 hs hk, rowQ_keep declC_k h.2.2.2.2.2 hs hk⟩
theorem MdV.lower (h : MdV lo w x D) (hl : lo' ≤ lo) : MdV lo' w x D :=
  ⟨h.1, h.2.1, h.2.2.1, h.2.2.2.1, rowQ_lower impC_k h.2.2.2.2.1 hl, rowQ_lower declC_k h.2.2.2.2.2 hl⟩
theorem MdV.stay (h : MdV lo w x D) (hs : Stay pb w w') (hp : pb < lo) : MdV lo w' x D := h.keep hs.size fun b hb hl => hs.keep b (by omega) hl
theorem MdV.putM (h : MdV lo w x D) (hb : b < lo) (y : MV) : MdV lo (putM w b y) x D := h.keep (by rw [putM_size]; exact Nat.le_refl _) fun i hi _ => putM_other (by omega)
theorem MdV.set1 (h : MdV lo w x D) (hb : b < lo) (o : Nat) (u : Value) : MdV lo (w.setCell ⟨b, o, none⟩ u) x D :=
  h.keep (by rw [size_set]; exact Nat.le_refl _) fun i hi _ => Below.heap_setCell _ _ _ _ (by show i ≠ b; omega)
end
theorem module_enters (pb : Nat) : Enters 44 pb := fun w => enters_of Tryz.func44 (by kernel_rfl) (by kernel_rfl) _ w
theorem moduleM_c (pb tb cap : Nat) (ts : List Tok) (ok : ToksOk ts) (w : World) (h : Ps w pb tb cap ts 0 0) :
    Calls Tryz.prog 44 #[.pointer (some ⟨pb, 0, none⟩)] w (PPost pb tb cap ts 0 w MdE (moduleP ts)) :=
  (module_c pb tb cap ts ok w h).mono fun e w' hp => by
    refine ⟨hp.1, ?_⟩
    have h2 := hp.2
    revert h2
    cases moduleP ts with
    | inr p => exact id
    | inl p =>
      rintro ⟨h1, v, h2, h3⟩
      exact ⟨h1, v, h2, mdE_of h3⟩

set_option maxRecDepth 100000 in
set_option maxHeartbeats 4000000 in
theorem catchM_idle (p q : Addr) (w : World) :
    CallsD Tryz.prog 82 #[.pointer (some p), .pointer (some q)] .returning w fun e u' w' => e = .returned (.tuple #[]) ∧ u' = .returning ∧ w' = w := by
  have hn := nil_nil
  refine callsD_of_wpS Tryz.func82 rfl fun c₀ cs hu => ?_
  apply wpS_seq
  apply wpS_region
  simp [wpOpsS, go_sem, recoverD, hu, Tryz.ntmps82, Exit.thenS]
  refine wpS_of_wp ?_
  simp only [Array.replicate, List.replicate, List.setIfInBounds_toArray, List.set_cons_zero, List.set_cons_succ, List.append_toArray, List.cons_append, List.nil_append]
  go_wp2
  cases c₀
  simp_all [bodyPostS, results, Tryz.results82]

set_option maxRecDepth 100000 in
set_option maxHeartbeats 4000000 in
theorem catchM_panic (ab db : Nat) (li co x : Int) (older : List PanicEntry) (w : World) (y : MV) (x0 x1 x2 x3 : Value) (ha : w.heap[ab]? = some y.obj) (hd : w.heap[db]? = some (.cells #[x0, x1, x2, x3] 30)) (hab : ab ≠ db) :
    CallsD Tryz.prog 82 #[.pointer (some ⟨ab, 0, none⟩), .pointer (some ⟨db, 0, none⟩)] (.panicking ({ v := .iface 30 (diagV li co x), recovered := false } :: older)) w fun e u' w' => e = .returned (.tuple #[]) ∧ u' = .panicking ({ v := .iface 30 (diagV li co x), recovered := true } :: older) ∧
      (w'.heap[ab]? = some zMV.obj ∧ w'.heap[db]? = some (.cells #[.int .i64 0, .int .i64 li, .int .i64 co, .int .i64 x] 30)) ∧ Hid (∀ B, B ≤ ab → B ≤ db → Below B w w') := by
  have hn := nil_neq
  have hta := assert_diag
  obtain ⟨⟨a0, a1⟩, ⟨z0, z1⟩, hla⟩ := boxM ha
  obtain ⟨⟨d0, d1, d2, d3⟩, ⟨g0, g1, g2, g3⟩, hld⟩ := res_facts hd
  have HA := hideP ha
  have HD := hideP hd
  clear ha hd
  have hab' : ¬ db = ab := fun e => hab e.symm
  refine callsD_of_wpS Tryz.func82 rfl fun c₀ cs hu => ?_
  apply wpS_seq
  apply wpS_region
  simp [wpOpsS, go_sem, recoverD, hu, Tryz.ntmps82, Exit.thenS]
  refine wpS_of_wp ?_
  simp only [Array.replicate, List.replicate, List.setIfInBounds_toArray, List.set_cons_zero, List.set_cons_succ, List.append_toArray, List.cons_append, List.nil_append]
  go_wp2
  go_region
  all_goals
    go_wp2
    refine ⟨rfl, _, rfl, .tuple #[], results_none rfl _ _ _, rfl, rfl, ⟨?_, ?_⟩, fun B h1 h2 => ?_⟩
    · rw [heap_drew]
      refine (Below.heap_alloc _ _ _ (by simp only [size_set]; exact hla)).trans ?_
      exact (other_set4 hab _ _ _ _).trans (putM_heap (x := zMV) HA.out)
    · rw [heap_drew]
      refine (Below.heap_alloc _ _ _ (by simp only [size_set]; exact hld)).trans ?_
      exact set4 ((putM_other (x := zMV) hab').trans HD.out) _ _ _ _
    · exact ((below_set4 (below_putM (x := zMV) (Below.refl _ w) h1) h2 _ _ _ _).alloc (by simp only [size_set]; omega) _).drew
end Go.Proofs.YtfjlkkohccihnabGreatDoor

/- A whole text that is a module. -/
namespace Go.Proofs.YtfjlkkohccihnabGreatDoor
open Go.RowKit

theorem moduleText_toks {l : List UInt8} {ts : List Tok} (h : lexV l = .inl ts) : moduleTextV l = doneA (endA ts (moduleP ts)) := by
  rw [moduleP_end]
  unfold moduleTextV doneA
  rw [h]
  simp only
  cases endA ts (moduleA ts) <;> rfl

theorem ps_farM {w : World} {pb tb cap a d b : Nat} {ts : List Tok} (h : Ps w pb tb cap ts a d) (h1 : b ≠ pb) (h2 : b ≠ tb) (x : MV) : Ps (putM w b x) pb tb cap ts a d :=
  ⟨(putM_other (x := x) (fun e => h1 e.symm)).trans h.blk, h.tlt, toksC_keep h.toks (putM_other (x := x) (fun e => h2 e.symm)), h.lt⟩
theorem MdV.drew {lo : Nat} {w : World} {x : MV} {D : List Ty × List Ty} (h : MdV lo w x D) : MdV lo w.drew x D := h.keep (Nat.le_refl _) fun _ _ _ => rfl
theorem MdV.set4 {lo b : Nat} {w : World} {x : MV} {D : List Ty × List Ty} (h : MdV lo w x D) (hb : b < lo) (x0 x1 x2 x3 : Value) : MdV lo ((((w.setCell ⟨b, 0, none⟩ x0).setCell ⟨b, 1, none⟩ x1).setCell ⟨b, 2, none⟩ x2).setCell ⟨b, 3, none⟩ x3) x D :=
  (((h.set1 hb 0 _).set1 hb 1 _).set1 hb 2 _).set1 hb 3 _

set_option maxRecDepth 100000 in
set_option maxHeartbeats 4000000 in
theorem wholeM_c (S : ByteArray) (hS : S.size ≤ 140737488351232) (w : World) (hw : Lx.Words w) :
    Calls Tryz.prog 43 #[.string S, .func (.func 44) #[] #[]] w (WPost w zMV.val MdE (moduleTextV S.data.toList)) := by
  have hmf : ∀ (fn : Fn) (first cap : Array Value) (w : World), (Instr.makeFunc fn first cap).run Tryz.prog w = .ok (.func fn first cap) w := fun _ _ _ _ => rfl
  have HX := hideP (fun wx (hb : Below w.heap.size w wx) => Lx.lex_c S hS wx (hw.below hb))
  have hen := module_enters
  clear hw
  go_enter_defers Tryz.func43, Tryz.ntmps43
  go_wp2_with fail
  refine (HX.out _ (below_next (bl_alloc _ _) (bl_alloc _ _))).mono ?_
  intro e w2 hpost
  obtain ⟨hb2, hm⟩ := hpost
  have HB2 := hideP (below_next (below_next (bl_alloc _ _) (bl_alloc _ _)) hb2)
  have HA := hideP ((hb2.block w.heap.size (by rw [World.size_alloc, World.size_alloc]; omega)).trans ((Below.heap_alloc _ _ _ (by rw [World.size_alloc]; omega)).trans (heap_alloc_last w _)))
  have HD := hideP ((hb2.block (w.heap.size + 1) (by rw [World.size_alloc, World.size_alloc]; omega)).trans (heap_at1 w _ _))
  clear hb2
  obtain ⟨⟨a0, a1⟩, ⟨z0, z1⟩, hla⟩ := boxM (x := zMV) HA.out
  obtain ⟨⟨d0, d1, d2, d3⟩, ⟨g0, g1, g2, g3⟩, hld⟩ := res_facts HD.out
  cases hl : lexV S.data.toList with
  | inr p =>
    obtain ⟨x, li, co⟩ := p
    rw [hl] at hm
    simp only at hm
    subst hm
    have hx0 : (x != 0) = true := by simpa using lex_err hl
    have HE : Hid (moduleTextV S.data.toList = .inr (x, li, co)) := by show _ = _; unfold moduleTextV; rw [hl]
    clear hl
    unfold Lx.diagA
    go_wp2_with fail
    go_region
    all_goals
      go_wp2_with fail
      have hh1 := other_set4 (w := w2) (b := w.heap.size + 1) (i := w.heap.size) (by omega) (.int .i64 0) (.int .i64 li) (.int .i64 co) (.int .i64 x)
      have hga := putM_heap (x := zMV) (y := zMV) (hh1.trans HA.out)
      have hgd := set4 ((putM_other (x := zMV) (b := w.heap.size) (i := w.heap.size + 1) (by omega)).trans (set4 HD.out (.int .i64 0) (.int .i64 li) (.int .i64 co) (.int .i64 x))) (.int .i64 0) (.int .i64 li) (.int .i64 co) (.int .i64 x)
      refine ⟨.tuple #[zMV.val, diagV li co x], results_ccd rfl _ rfl ((other_set4 (b := w.heap.size + 1) (i := w.heap.size) (by omega) (.int .i64 0) (.int .i64 li) (.int .i64 co) (.int .i64 x)).trans hga) Tryz.underlying42 (by kernel_rfl) rfl hgd Tryz.underlying30 (by kernel_rfl), ?_⟩
      rw [HE.out]
      exact ⟨(below_set4 (below_putM (below_set4 HB2.out (by omega) _ _ _ _) (Nat.le_refl _) zMV) (by omega) _ _ _ _).drew, rfl⟩
  | inl ts =>
    rw [hl] at hm
    obtain ⟨g, cap, rfl, hown⟩ := hm
    have OK := hideP (lex_toks hl)
    have HE := hideP (moduleText_toks hl)
    have HTc := hideP (toksC_of hown)
    have hgl : g < w2.heap.size ∧ w.heap.size + 2 ≤ g := by
      have := hown.lt g rfl
      rw [World.size_alloc, World.size_alloc] at this
      omega
    obtain ⟨hgl1, hgl2⟩ := hgl
    obtain ⟨Wd, hWd⟩ : ∃ W, W = (((w2.setCell ⟨w.heap.size + 1, 0, none⟩ (.int .i64 0)).setCell ⟨w.heap.size + 1, 1, none⟩ (.int .i64 0)).setCell ⟨w.heap.size + 1, 2, none⟩ (.int .i64 0)).setCell ⟨w.heap.size + 1, 3, none⟩ (.int .i64 0) := ⟨_, rfl⟩
    have hWs : Wd.heap.size = w2.heap.size := by rw [hWd, size_set4]
    have HAd : Hid (Wd.heap[w.heap.size]? = some zMV.obj) := by rw [hWd]; exact (other_set4 (by omega) _ _ _ _).trans HA.out
    have HDd : Hid (Wd.heap[w.heap.size + 1]? = some (.cells #[.int .i64 0, .int .i64 0, .int .i64 0, .int .i64 0] 30)) := by rw [hWd]; exact set4 HD.out _ _ _ _
    have HTd : Hid (ToksC Wd g ts) := toksC_keep HTc.out (by rw [hWd]; exact other_set4 (by omega) _ _ _ _)
    have HBd : Hid (Below w.heap.size w Wd) := by rw [hWd]; exact below_set4 HB2.out (by omega) _ _ _ _
    clear hl hown
    unfold Lx.diagA
    go_wp2_with fail
    rw [← hWd, ← hWs]
    have P0 : Ps (Wd.alloc (.cells #[.slice (some ⟨g, 0, none⟩) ts.length cap, .int .i64 0, .int .i64 0] 103)) Wd.heap.size g cap ts 0 0 :=
      ⟨heap_alloc_last _ _, by omega, toksC_keep HTd.out (Below.heap_alloc _ _ _ (by omega)), OK.out.pos⟩
    have HP0 := hideP P0
    clear P0
    refine (moduleM_c Wd.heap.size g cap ts OK.out _ HP0.out).mono ?_
    intro e w3 hpost
    have HPo := hideP hpost
    have hst0 := hpost.1
    have HA3 := hideP ((hst0.below.block w.heap.size (by omega)).trans ((Below.heap_alloc _ _ _ (by omega)).trans HAd.out))
    have HD3 := hideP ((hst0.below.block (w.heap.size + 1) (by omega)).trans ((Below.heap_alloc _ _ _ (by omega)).trans HDd.out))
    have HB3 : Hid (Below w.heap.size w w3) := (HBd.out.alloc (by omega) _).trans (hst0.below.mono (by omega))
    have HS3 := hideP hst0.size
    clear hpost hst0 a0 a1 z0 z1 d0 d1 d2 d3 g0 g1 g2 g3
    rcases ppost_or HPo.out with ⟨er, li, co, hr, rfl, hst⟩ | ⟨D, b, v, hr, rfl, hst, hps, x, rfl, hv⟩
    · have HE2 : Hid (moduleTextV S.data.toList = .inr (er, li, co)) := by rw [HE.out, hr]; exact rfl
      clear hr hst
      go_wp2_with fail
      refine leaves_cons (f := 82) (args := #[.pointer (some ⟨w.heap.size, 0, none⟩), .pointer (some ⟨w.heap.size + 1, 0, none⟩)]) (by simp) (by simp [go_sem]) ?_
      refine (catchM_panic w.heap.size (w.heap.size + 1) li co er [] w3 zMV _ _ _ _ HA3.out HD3.out (by omega)).mono ?_
      rintro e u' w4 ⟨rfl, rfl, ⟨h1, h2⟩, h3⟩
      show ∃ v, _
      refine ⟨_, results_cc rfl _ rfl h1 Tryz.underlying42 (by kernel_rfl) rfl h2 Tryz.underlying30 (by kernel_rfl), ?_⟩
      rw [HE2.out]
      exact ⟨HB3.out.trans (h3.out _ (Nat.le_refl _) (by omega)), rfl⟩
    · have HV := hideP hv
      have HPs := hideP hps
      have HK := hideP hr
      obtain ⟨⟨a0, a1⟩, ⟨z0, z1⟩, hla3⟩ := boxM (x := zMV) HA3.out
      obtain ⟨⟨d0, d1, d2, d3⟩, ⟨g0, g1, g2, g3⟩, hld3⟩ := res_facts HD3.out
      rw [hWs] at HPs
      obtain ⟨We, hWe⟩ : ∃ W, W = putM w3 w.heap.size x := ⟨_, rfl⟩
      have HPe : Hid (Ps We w2.heap.size g cap ts b 0) := by rw [hWe]; exact ps_farM HPs.out (by omega) (by omega) x
      have HAe : Hid (We.heap[w.heap.size]? = some x.obj) := by rw [hWe]; exact putM_heap (y := zMV) HA3.out
      have HDe : Hid (We.heap[w.heap.size + 1]? = some (.cells #[.int .i64 0, .int .i64 0, .int .i64 0, .int .i64 0] 30)) := by rw [hWe]; exact (putM_other (x := x) (by omega)).trans HD3.out
      have HBe : Hid (Below w.heap.size w We) := by rw [hWe]; exact below_putM HB3.out (Nat.le_refl _) x
      have HVe : Hid (MdV (Wd.heap.size + 1) We x D) := by rw [hWe]; have := HV.out; rw [World.size_alloc] at this; exact this.putM (by omega) x
      have HSe : Hid (We.heap.size = w3.heap.size) := by rw [hWe]; exact putM_size (x := x)
      unfold putM at hWe
      clear hr hst hps hv
      go_wp2_with fail
      rw [← hWe]
      clear hWe a0 a1 z0 z1 d0 d1 d2 d3 g0 g1 g2 g3
      refine (end_c w2.heap.size g cap b 0 ts _ HPe.out).mono ?_
      intro e w4 hpost
      have hst0 := hpost.1
      have hpe := HPe.out.ltp
      have HA4 := hideP ((hst0.below.block w.heap.size (by omega)).trans HAe.out)
      have HD4 := hideP ((hst0.below.block (w.heap.size + 1) (by omega)).trans HDe.out)
      have HB4 : Hid (Below w.heap.size w w4) := HBe.out.trans (hst0.below.mono (by omega))
      have HV4 : Hid (MdV (w2.heap.size + 1) w4 x D) := by
        have := HVe.out
        rw [hWs] at this
        exact this.stay hst0 (by omega)
      have HPo4 := hideP hpost
      clear hpost hst0
      rcases ppost_or HPo4.out with ⟨er, li, co, hr, rfl, hst⟩ | ⟨u, b', v, hr, rfl, hst, hps, hv⟩
      · have HE2 : Hid (moduleTextV S.data.toList = .inr (er, li, co)) := by
          rw [HE.out, HK.out]
          show doneA (if (tkA ts b).kind == 0 then .inl (D, b) else badA ts 7 b) = _
          by_cases h0 : ((tkA ts b).kind == 0) = true
          · rw [if_pos h0] at hr; cases hr
          · rw [if_neg h0] at hr ⊢
            injection hr with hr
            exact congrArg Sum.inr hr
        clear hr hst
        go_wp2_with fail
        refine leaves_cons (f := 82) (args := #[.pointer (some ⟨w.heap.size, 0, none⟩), .pointer (some ⟨w.heap.size + 1, 0, none⟩)]) (by simp) (by simp [go_sem]) ?_
        refine (catchM_panic w.heap.size (w.heap.size + 1) li co er [] w4 x _ _ _ _ HA4.out HD4.out (by omega)).mono ?_
        rintro e u' w5 ⟨rfl, rfl, ⟨h1, h2⟩, h3⟩
        show ∃ v, _
        refine ⟨_, results_cc rfl _ rfl h1 Tryz.underlying42 (by kernel_rfl) rfl h2 Tryz.underlying30 (by kernel_rfl), ?_⟩
        rw [HE2.out]
        exact ⟨HB4.out.trans (h3.out _ (Nat.le_refl _) (by omega)), rfl⟩
      · have HE2 : Hid (moduleTextV S.data.toList = .inl D) := by
          rw [HE.out, HK.out]
          show doneA (if (tkA ts b).kind == 0 then .inl (D, b) else badA ts 7 b) = _
          by_cases h0 : ((tkA ts b).kind == 0) = true
          · rw [if_pos h0]; exact rfl
          · rw [if_neg h0] at hr; cases hr
        obtain ⟨⟨a0, a1⟩, ⟨z0, z1⟩, hla4⟩ := boxM (x := x) HA4.out
        obtain ⟨⟨d0, d1, d2, d3⟩, ⟨g0, g1, g2, g3⟩, hld4⟩ := res_facts HD4.out
        clear hr hst hps hv
        go_wp2_with fail
        go_region
        all_goals
          go_wp2_with fail
          have hga := (other_set4 (b := w.heap.size + 1) (i := w.heap.size) (by omega) (.int .i64 0) (.int .i64 0) (.int .i64 0) (.int .i64 0)).trans (putM_heap (x := x) (y := x) HA4.out)
          have hgd := set4 ((putM_other (x := x) (b := w.heap.size) (i := w.heap.size + 1) (by omega)).trans HD4.out) (.int .i64 0) (.int .i64 0) (.int .i64 0) (.int .i64 0)
          have hT := ((HV4.out.putM (b := w.heap.size) (by omega) x).set4 (b := w.heap.size + 1) (by omega) (.int .i64 0) (.int .i64 0) (.int .i64 0) (.int .i64 0)).lower (lo' := w.heap.size) (by omega)
          have hBf := below_set4 (below_putM HB4.out (Nat.le_refl _) x) (show w.heap.size ≤ w.heap.size + 1 by omega) (.int .i64 0) (.int .i64 0) (.int .i64 0) (.int .i64 0)
          generalize hWf : (((((putM w4 w.heap.size x).setCell ⟨w.heap.size + 1, 0, none⟩ (.int .i64 0)).setCell ⟨w.heap.size + 1, 1, none⟩ (.int .i64 0)).setCell ⟨w.heap.size + 1, 2, none⟩ (.int .i64 0)).setCell ⟨w.heap.size + 1, 3, none⟩ (.int .i64 0)) = Wf at hga hgd hT hBf
          refine leaves_cons (f := 82) (args := #[.pointer (some ⟨w.heap.size, 0, none⟩), .pointer (some ⟨w.heap.size + 1, 0, none⟩)]) (by simp) (by simp [go_sem]) ?_
          refine (catchM_idle ⟨w.heap.size, 0, none⟩ ⟨w.heap.size + 1, 0, none⟩ _).mono ?_
          rintro e u' w5 ⟨rfl, rfl, rfl⟩
          show ∃ v, _
          refine ⟨_, results_ccd rfl _ rfl hga Tryz.underlying42 (by kernel_rfl) rfl hgd Tryz.underlying30 (by kernel_rfl), ?_⟩
          rw [HE2.out]
          exact ⟨hBf.drew, _, rfl, x, rfl, hT.drew⟩

set_option maxRecDepth 100000 in
set_option maxHeartbeats 4000000 in
theorem parseParse_c (S : ByteArray) (hS : S.size ≤ 140737488351232) (w : World) (hw : Lx.Words w) :
    Calls Tryz.prog 17 #[.string S] w (WPost w zMV.val MdE (moduleTextV S.data.toList)) := by
  have HW := hideP (wholeM_c S hS _ (hw.below (below_next (bl_alloc w zMV.obj) (bl_alloc _ (.cells #[.int .i64 0, .int .i64 0, .int .i64 0, .int .i64 0] 30)))))
  obtain ⟨R, hR⟩ : ∃ R, R = moduleTextV S.data.toList := ⟨_, rfl⟩
  rw [← hR] at HW ⊢
  clear hw hR
  go_enter Tryz.func17, Tryz.ntmps17
  go_wp2_with fail
  refine HW.out.mono ?_
  intro e w2 hpost
  obtain ⟨hb2, hm⟩ := hpost
  have HB2 := hideP (below_next (below_next (bl_alloc _ _) (bl_alloc _ _)) hb2)
  have HA := hideP ((hb2.block w.heap.size (by rw [World.size_alloc, World.size_alloc]; omega)).trans ((Below.heap_alloc _ _ _ (by rw [World.size_alloc]; omega)).trans (heap_alloc_last w _)))
  have HD := hideP ((hb2.block (w.heap.size + 1) (by rw [World.size_alloc, World.size_alloc]; omega)).trans (heap_at1 w _ _))
  clear hb2
  obtain ⟨⟨a0, a1⟩, ⟨z0, z1⟩, hla⟩ := boxM (x := zMV) HA.out
  obtain ⟨⟨d0, d1, d2, d3⟩, ⟨g0, g1, g2, g3⟩, hld⟩ := res_facts HD.out
  rw [World.size_alloc, World.size_alloc] at hm
  rcases R with D | ⟨er, li, co⟩
  · obtain ⟨v, rfl, x, rfl, hv⟩ := hm
    have HV := hideP hv
    clear hv
    go_wp2_with fail
    have hga := (other_set4 (b := w.heap.size + 1) (i := w.heap.size) (by omega) (.int .i64 0) (.int .i64 0) (.int .i64 0) (.int .i64 0)).trans (putM_heap (x := x) (y := zMV) HA.out)
    have hgd := set4 ((putM_other (x := x) (b := w.heap.size) (i := w.heap.size + 1) (by omega)).trans HD.out) (.int .i64 0) (.int .i64 0) (.int .i64 0) (.int .i64 0)
    refine bodyPost_ret (results_cc rfl _ rfl hga Tryz.underlying42 (by kernel_rfl) rfl hgd Tryz.underlying30 (by kernel_rfl)) rfl ⟨below_set4 (below_putM HB2.out (Nat.le_refl _) x) (by omega) _ _ _ _, _, rfl, x, rfl, ?_⟩
    exact ((HV.out.putM (b := w.heap.size) (by omega) x).set4 (b := w.heap.size + 1) (by omega) _ _ _ _).lower (by omega)
  · subst hm
    go_wp2_with fail
    have hga := (other_set4 (b := w.heap.size + 1) (i := w.heap.size) (by omega) (.int .i64 0) (.int .i64 li) (.int .i64 co) (.int .i64 er)).trans (putM_heap (x := zMV) (y := zMV) HA.out)
    have hgd := set4 ((putM_other (x := zMV) (b := w.heap.size) (i := w.heap.size + 1) (by omega)).trans HD.out) (.int .i64 0) (.int .i64 li) (.int .i64 co) (.int .i64 er)
    refine bodyPost_ret (results_cc rfl _ rfl hga Tryz.underlying42 (by kernel_rfl) rfl hgd Tryz.underlying30 (by kernel_rfl)) rfl ⟨below_set4 (below_putM HB2.out (Nat.le_refl _) zMV) (by omega) _ _ _ _, rfl⟩
end Go.Proofs.YtfjlkkohccihnabGreatDoor

/- What the parser made, as tree finds it: names and operations of two. -/
namespace Go.Proofs.YtfjlkkohccihnabGreatDoor
open Go.RowKit

/-- One tree with places, one without. -/
def BareN : Nat → Ty → Ty → Prop
  | 0, _, _ => False
  | n + 1, D, D' => (∃ s l c, D = mkE 4 s 0 l c [] [] [] ∧ D' = mkN 4 s 0 [] ∧ s.length ≤ 1000) ∨ ∃ o l c x y x' y', D = mkE 14 o 0 l c [] [] [x, y] ∧ D' = mkN 14 o 0 [x', y'] ∧ o.length ≤ 1000 ∧ BareN n x x' ∧ BareN n y y'

abbrev pxOf (x : NV) : PX := ⟨x.li, x.co, x.ta, x.tc, x.na, x.nc⟩
theorem len_str {s : List UInt8} {b : ByteArray} (h : s = b.data.toList) : b.size = s.length := by rw [h]; rfl

theorem nd_of_node {w : World} {lo : Nat} : ∀ (n m : Nat) (x : NV) (D D' : Ty), BareN m D D' → NodeF w lo n x D → ∃ k : Nat, x.k = k ∧ x.N = 0 ∧ x.tl = 0 ∧ x.nl = 0 ∧ NdAt w n k x.tx 0 (pxOf x) x.ka x.kl x.kc D'
  | 0, _, _, _, _, _, h => h.elim
  | n + 1, 0, _, _, _, hb, _ => hb.elim
  | n + 1, m + 1, x, D, D', hb, h => by
    obtain ⟨tys, ns, ks, e, ⟨e1, e2, e3⟩, _, _, _, hr⟩ := h
    rcases hb with ⟨s, l, c, rfl, rfl, hs⟩ | ⟨o, l, c, y, z, y', z', rfl, rfl, ho, hy, hz⟩
    · obtain ⟨f1, f2, f3, f4, f5, rfl, rfl, rfl⟩ := mkE_inj e
      refine ⟨4, f1.symm, f3.symm, e1, e2, [], e3, ?_, by decide, ?_, by decide, Nat.zero_le _, by decide, .inl rfl⟩
      · rw [f2]
      · rw [len_str f2]; omega
    · obtain ⟨f1, f2, f3, f4, f5, rfl, rfl, rfl⟩ := mkE_inj e
      refine ⟨14, f1.symm, f3.symm, e1, e2, [y', z'], e3, ?_, by decide, ?_, by decide, Nat.zero_le _, (by show 2 ≤ 1000; decide), ?_⟩
      · rw [f2]
      · rw [len_str f2]; omega
      · rcases hr with hr | ⟨b, o, ea, hl, hcl, hc⟩
        · cases hr
        · refine .inr ⟨b, o, ea, hcl, fun i hi => ?_⟩
          have hi2 : i < 2 := hi
          obtain ⟨u, ⟨q0, q1, q2, q3, q4, q5, q6, q7⟩, hu⟩ := hc i hi2
          have key : ∃ k : Nat, u.k = k ∧ u.N = 0 ∧ u.tl = 0 ∧ u.nl = 0 ∧ NdAt w n k u.tx 0 (pxOf u) u.ka u.kl u.kc [y', z'][i] := by
            match i, hi2, hu with
            | 0, _, hu => exact nd_of_node n m u y y' hy hu
            | 1, _, hu => exact nd_of_node n m u z z' hz hu
          obtain ⟨k, g1, g2, g3, g4, hn⟩ := key
          rw [g1] at q0
          rw [g2] at q2
          rw [g3] at q5
          rw [g4] at q6
          exact ⟨k, u.tx, 0, pxOf u, u.ka, u.kl, u.kc, ⟨q0, q1, q2, q3, q4, q5, q6, q7⟩, hn⟩

/-- tree.Expr of what the parser made of names and operations. -/
theorem made_expr {w : World} (hB : Base w) {lo m : Nat} {x : NV} {D D' : Ty} (hb : BareN m D D') (hS : NamesOps m D') (h : NdV lo w x D) (hs : ∀ n, sizeT n D' ≤ 1000) (hh : ∀ n, heightT n D' ≤ 25) (hl : (textN m D').length ≤ 900) :
    Calls Tryz.prog 21 #[x.val] w (TxPost w (textN m D')) := by
  obtain ⟨n, h⟩ := h
  have h' := nodeF_mono h (show n ≤ max n m by omega)
  obtain ⟨q, hq⟩ : ∃ q, max n m = q + 1 := by
    cases m with
    | zero => exact hb.elim
    | succ m => exact ⟨max n (m + 1) - 1, by omega⟩
  rw [hq] at h'
  obtain ⟨k, g1, g2, g3, g4, hn⟩ := nd_of_node (q + 1) m x D D' hb h'
  have e : x.val = ndV k x.tx 0 (pxOf x) x.ka x.kl x.kc := by
    unfold NV.val ndV pxOf
    rw [g1, g2, g3, g4]
    rfl
  rw [e]
  exact names_expr hB hS (by omega) hn (hs _) (hh _) hl
end Go.Proofs.YtfjlkkohccihnabGreatDoor
