/- Part. -/
import Derived.Test.YtlhmofphpfdjlaaGreatDoorPart46
set_option maxRecDepth 100000
set_option maxHeartbeats 4000000
/- A module. -/
namespace Go.Proofs.YtlhmofphpfdjlaaGreatDoor
open Go.Proofs.Tryz
open Go.RowKit
attribute [local go_sem ↓] Go.wp_at_zero Go.wp_at_succ
/-- Functions, as the program looks for them: it goes on while one begins. -/
def declsP (ts : List Tok) : Nat -> Nat -> Pr (List Ty)
  | 0, a => badA ts 7 a
  | f + 1, a => if seesA ts a [101, 120, 112, 111, 114, 116] || seesA ts a [102, 110] then (declA ts a).go fun d b => (declsP ts f b).go fun r b => .inl (d :: r, b) else .inl ([], a)
def moduleP (ts : List Tok) : Pr (List Ty × List Ty) := (importsA ts ts.length 0).go fun i a => (declsP ts (ts.length + 1) a).go fun d a => .inl ((i, d), a)
theorem sees_end {ts : List Tok} {a : Nat} {s : List UInt8} (h : ((tkA ts a).kind == 0) = true) : seesA ts a s = false := by
  have h0 : (tkA ts a).kind = 0 := by simpa using h
  unfold seesA
  rw [h0]
  rfl
theorem declsP_or (ts : List Tok) : ∀ f a, declsP ts f a = declsA ts f a ∨ ∃ l b, declsP ts f a = .inl (l, b) /\ ((tkA ts b).kind == 0) = false /\ declsA ts f a = badA ts 7 b
  | 0, a => .inl rfl
  | f + 1, a => by
    unfold declsP declsA
    cases hk : ((tkA ts a).kind == 0) with
    | true =>
      rw [sees_end hk, sees_end hk]
      exact .inl rfl
    | false =>
      cases hs : (seesA ts a [101, 120, 112, 111, 114, 116] || seesA ts a [102, 110]) with
      | false =>
        obtain ⟨h1, h2⟩ := Bool.or_eq_false_iff.1 hs
        refine .inr ⟨[], a, rfl, hk, ?_⟩
        rw [if_neg (by simp), declA_eq, h1, if_neg (by simp), wantA, h2]
        rfl
      | true =>
        rw [if_pos rfl, if_neg (by simp)]
        cases hd : declA ts a with
        | inr e => exact .inl rfl
        | inl p =>
          obtain ⟨d, b⟩ := p
          show Pr.go (declsP ts f b) _ = Pr.go (declsA ts f b) _ ∨ ∃ l c, Pr.go (declsP ts f b) _ = _ /\ _ /\ Pr.go (declsA ts f b) _ = _
          rcases declsP_or ts f b with h | ⟨l, c, h1, h2, h3⟩
          · exact .inl (by rw [h])
          · exact .inr ⟨d :: l, c, by rw [h1]; rfl, h2, by rw [h3]; rfl⟩
theorem moduleP_end (ts : List Tok) : endA ts (moduleP ts) = endA ts (moduleA ts) := by
  unfold moduleP moduleA
  cases importsA ts ts.length 0 with
  | inr e => rfl
  | inl p =>
    obtain ⟨i, a⟩ := p
    show endA ts (Pr.go (declsP ts (ts.length + 1) a) _) = endA ts (Pr.go (declsA ts (ts.length + 1) a) _)
    rcases declsP_or ts (ts.length + 1) a with h | ⟨l, b, h1, h2, h3⟩
    · rw [h]
    · rw [h1, h3]
      show (if ((tkA ts b).kind == 0) = true then _ else _) = _
      rw [h2]
      rfl
theorem imports_step {ts : List Tok} {f a : Nat} (h : seesA ts a [105, 109, 112, 111, 114, 116] = true) : importsA ts (f + 1) a = (importA ts a).go fun d b => (importsA ts f b).go fun r b => .inl (d :: r, b) := by
  rw [importsA, if_pos h, importA, wantA, if_pos h]
  show Pr.go (nameA ts (a + 1)) _ = Pr.go (Pr.go (nameA ts (a + 1)) _) _
  cases nameA ts (a + 1) with
  | inr e => rfl
  | inl p =>
    show Pr.go (wantA ts p.2 [58]) _ = Pr.go (Pr.go (wantA ts p.2 [58]) _) _
    cases wantA ts p.2 [58] with
    | inr e => rfl
    | inl q =>
      show Pr.go (manyA ts (nameA ts) [44] ts.length q.2) _ = Pr.go (Pr.go (manyA ts (nameA ts) [44] ts.length q.2) _) _
      cases manyA ts (nameA ts) [44] ts.length q.2 with
      | inr e => rfl
      | inl r =>
        show Pr.go (wantA ts r.2 [59]) _ = Pr.go (Pr.go (wantA ts r.2 [59]) _) _
        cases wantA ts r.2 [59] <;> rfl
/-- Where the program stands among the imports, and among the functions. -/
def AtI (ts : List Tok) (R : Pr (List Ty × List Ty)) (acc : List Ty) (m b : Nat) : Prop := R = (importsA ts m b).go fun r c => (declsP ts (ts.length + 1) c).go fun d c => .inl ((acc ++ r, d), c)
def AtD (ts : List Tok) (R : Pr (List Ty × List Ty)) (is acc : List Ty) (m b : Nat) : Prop := R = (declsP ts m b).go fun r c => .inl ((is, acc ++ r), c)
theorem atI_start (ts : List Tok) : AtI ts (moduleP ts) [] ts.length 0 := rfl
theorem atI_next {ts : List Tok} {R : Pr (List Ty × List Ty)} {acc : List Ty} {m b c : Nat} {D : Ty} (h : AtI ts R acc (m + 1) b) (hs : seesA ts b [105, 109, 112, 111, 114, 116] = true) (hi : importA ts b = .inl (D, c)) : AtI ts R (acc ++ [D]) m c := by
  unfold AtI at h ⊢
  rw [h, imports_step hs, hi]
  show Pr.go (Pr.go (importsA ts m c) _) _ = _
  cases importsA ts m c with
  | inr e => rfl
  | inl p =>
    show Pr.go (declsP ts (ts.length + 1) p.2) _ = Pr.go (declsP ts (ts.length + 1) p.2) _
    simp
theorem atI_fail {ts : List Tok} {R : Pr (List Ty × List Ty)} {acc : List Ty} {m b : Nat} {e : Int × Nat × Nat} (h : AtI ts R acc (m + 1) b) (hs : seesA ts b [105, 109, 112, 111, 114, 116] = true) (hi : importA ts b = .inr e) : R = .inr e := by
  rw [h, imports_step hs, hi]
  rfl
theorem atI_end {ts : List Tok} {R : Pr (List Ty × List Ty)} {acc : List Ty} {m b : Nat} (h : AtI ts R acc (m + 1) b) (hs : seesA ts b [105, 109, 112, 111, 114, 116] = false) : AtD ts R acc [] (ts.length + 1) b := by
  unfold AtD
  rw [h, importsA, if_neg (by simp [hs])]
  simp [Pr.go]
theorem atD_next {ts : List Tok} {R : Pr (List Ty × List Ty)} {is acc : List Ty} {m b c : Nat} {D : Ty} (h : AtD ts R is acc (m + 1) b) (hs : (seesA ts b [101, 120, 112, 111, 114, 116] || seesA ts b [102, 110]) = true) (hi : declA ts b = .inl (D, c)) : AtD ts R is (acc ++ [D]) m c := by
  unfold AtD at h ⊢
  rw [h, declsP, if_pos hs, hi]
  show Pr.go (Pr.go (declsP ts m c) _) _ = _
  cases declsP ts m c with
  | inr e => rfl
  | inl p => simp [Pr.go]
theorem atD_fail {ts : List Tok} {R : Pr (List Ty × List Ty)} {is acc : List Ty} {m b : Nat} {e : Int × Nat × Nat} (h : AtD ts R is acc (m + 1) b) (hs : (seesA ts b [101, 120, 112, 111, 114, 116] || seesA ts b [102, 110]) = true) (hi : declA ts b = .inr e) : R = .inr e := by
  rw [h, declsP, if_pos hs, hi]
  rfl
theorem atD_end {ts : List Tok} {R : Pr (List Ty × List Ty)} {is acc : List Ty} {m b : Nat} (h : AtD ts R is acc (m + 1) b) (hs : (seesA ts b [101, 120, 112, 111, 114, 116] || seesA ts b [102, 110]) = false) : R = .inl ((is, acc), b) := by
  rw [h, declsP, if_neg (by simp [hs])]
  simp [Pr.go]
/-- Whatever is read, the parser goes on. -/
theorem import_up {ts : List Tok} {a : Nat} : UpP (a + 1) (importA ts a) := by
  unfold importA
  exact up_go (up_ite (up_now (Nat.le_refl _) _) (up_bad _ _)) fun _ _ h => up_go (up_name h) fun _ _ h => up_go (up_want h _) fun _ _ h => up_go (up_many (fun a x b h => by rw [name_up h]; omega) _ h) fun _ _ h => up_go (up_want h _) fun _ _ h => up_now h _
theorem up_behind {ts : List Tok} {K : Nat -> Pr Ty} (hK : ∀ a x b, K a = .inl (x, b) -> a <= b) {a c : Nat} (h : a <= c) (s : List UInt8) : UpP a (behindA ts K s c) := up_ite (up_go (up_at hK (by omega)) fun _ _ h => up_now h _) (up_now h _)
theorem decl_up {ts : List Tok} {a : Nat} : UpP (a + 1) (declA ts a) := by
  have hK : ∀ a x b, kindA ts ts.length 101 0 a = .inl (x, b) -> a <= b := fun a x b h => kind_up h
  rw [declA_eq]
  refine up_go (up_ite (up_now (by split <;> omega) _) (up_bad _ _)) fun _ _ h => up_go (up_name h) fun _ _ h => up_go (?_ : UpP _ (varsA ts _ _ _)) fun _ _ h => up_go (?_ : UpP _ (paramA ts _ _)) fun _ _ h => up_go (up_behind hK h _) fun _ _ h => up_go (up_want h _) fun _ _ h => up_go (up_at (fun a x b h => deep_up ts _ _ _ _ a x b h) h) fun _ _ h => up_go (up_want h _) fun _ _ h => up_now h _
  · refine up_ite (up_go (up_many (fun a x b h => ?_) _ (by omega)) fun _ _ h => up_go (up_want h _) fun _ _ h => up_now h _) (up_now h _)
    exact (up_go (up_name (Nat.le_refl _)) fun _ _ h => up_ite (up_go (up_at hK (by omega)) fun _ _ h => up_now h _) (up_now h _) : UpP a (varA ts _ a)) x b h
  · exact up_go (up_want h _) fun _ _ h => up_go (up_name h) fun _ _ h => up_go (up_behind hK h _) fun _ _ h => up_go (up_want h _) fun _ _ h => up_now h _
/-- Rows that the module's box holds. -/
theorem impC_k : RepK ImpC where
  keep := fun h hs hk => by
    obtain ⟨s, l, na, nc, li, co, e1, e2, e3, e4⟩ := h
    exact ⟨s, l, na, nc, li, co, e1, e2, e3, namesF_keep e4 hs hk⟩
  lower := fun h hl => by
    obtain ⟨s, l, na, nc, li, co, e1, e2, e3, e4⟩ := h
    exact ⟨s, l, na, nc, li, co, e1, e2, e3, namesF_lower e4 hl⟩
theorem declC_k : RepK DeclC where
  keep := fun h hs hk => by
    obtain ⟨s, ex, vs, va, vc, pm, ta, tc, tys, x, B, li, co, m, e1, e2, e3, e4, e5, e6, e7⟩ := h
    exact ⟨s, ex, vs, va, vc, pm, ta, tc, tys, x, B, li, co, m, e1, e2, e3, e4, varsF_keep e5 hs hk, kidsF_keep e6 hs hk, e7.keep hs hk⟩
  lower := fun h hl => by
    obtain ⟨s, ex, vs, va, vc, pm, ta, tc, tys, x, B, li, co, m, e1, e2, e3, e4, e5, e6, e7⟩ := h
    exact ⟨s, ex, vs, va, vc, pm, ta, tc, tys, x, B, li, co, m, e1, e2, e3, e4, varsF_lower e5 hl, kidsF_lower e6 hl, e7.lower hl⟩
theorem info_imp : (prog.info? 55).map (fun i => (i.zero, i.size, i.bytes)) = some (some (.agg #[.string ⟨#[]⟩, .slice none 0 0, .int .i64 0, .int .i64 0]), 4, 56) := by kernel_rfl
theorem info_dec : (prog.info? 40).map (fun i => (i.zero, i.size, i.bytes)) = some (some (.agg #[.string ⟨#[]⟩, .bool false, .slice none 0 0, .string ⟨#[]⟩, .slice none 0 0, .int .i64 0, .string ⟨#[]⟩, .int .i64 0, .int .i64 0, .int .i64 0, .slice none 0 0, .slice none 0 0, .slice none 0 0, .int .i64 0, .int .i64 0]), 15, 224) := by kernel_rfl
/-- A row as it is left: each of the xs by its k cells. -/
def RowQ {α : Type} (rep : Nat -> World -> List Value -> α -> Prop) (k lo : Nat) (w : World) (a : Option Addr) (xs : List α) : Prop := xs = [] ∨ ∃ g, a = some ⟨g, 0, none⟩ /\ lo <= g /\ CleanB w g /\
    ∀ i (hi : i < xs.length), ∃ c : List Value, c.length = k /\ (∀ j, j < k -> w.cell? ⟨g, i * k + j, none⟩ = c[j]?) /\ rep lo w c xs[i]
section
variable {α : Type} {rep : Nat -> World -> List Value -> α -> Prop} {k lo lo' : Nat} {w w' : World} {a : Option Addr} {xs : List α}
theorem rowQ_lower (hK : RepK rep) (h : RowQ rep k lo w a xs) (hl : lo' <= lo) : RowQ rep k lo' w a xs := by
  rcases h with h | ⟨g, e, hg, hc, hr⟩
  · exact .inl h
  · refine .inr ⟨g, e, Nat.le_trans hl hg, hc, fun i hi => ?_⟩
    obtain ⟨c, h1, h2, h3⟩ := hr i hi
    exact ⟨c, h1, h2, hK.lower h3 hl⟩
theorem rowQ_keep (hK : RepK rep) (h : RowQ rep k lo w a xs) (hs : w.heap.size <= w'.heap.size) (hk : ∀ b, lo <= b -> b < w.heap.size -> w'.heap[b]? = w.heap[b]?) : RowQ rep k lo w' a xs := by
  rcases h with h | ⟨g, e, hg, hc, hr⟩
  · exact .inl h
  · obtain ⟨cs, ty, hh⟩ := hc
    have hgk := hk g hg (lt_of_block hh)
    refine .inr ⟨g, e, hg, ⟨cs, ty, hgk.trans hh⟩, fun i hi => ?_⟩
    obtain ⟨c, h1, h2, h3⟩ := hr i hi
    refine ⟨c, h1, fun j hj => ?_, hK.keep h3 hs hk⟩
    have := h2 j hj
    unfold World.cell? at this ⊢
    simp only at this ⊢
    rw [hgk]
    exact this
end
/-- A module that was read. -/
def ModE (lo : Nat) (w : World) (v : Value) (x : List Ty × List Ty) : Prop := ∃ ia ic da dc, v = .agg #[.slice ia x.1.length ic, .slice da x.2.length dc] /\ x.1.length <= 8193 /\ x.2.length <= 8193 /\ RowQ ImpC 4 lo w ia x.1 /\ RowQ DeclC 15 lo w da x.2
/-- append to a row of one's own, as one step of a region that draws; and where the row lies then. -/
theorem step_append_at {P : Program} {ops : Array Oper} {o : Oper} {a : Act} {w : World} {K : Act -> World -> Prop} {Q : Exit -> Act -> World -> Prop} {E : Prop}
    (hg : o.guard = none) (s x : Operand) (t : TypeId) (hop : o.op = Op.call { callee := Callee.builtin Builtin.append, args := #[s, x], argTypes := #[t, t] })
    (base : Nat) (e : TypeId) (i : TypeInfo) (z : Value) (size bytes : Nat) (ht : P.underlying t = some (.slice e)) (hi : P.info? e = some i) (hz : i.zero = some z)
    (hsize : i.size = size) (hby : i.bytes = bytes) (hzs : z.cells.size = size) (hsz : 0 < size)
    (v : Value) (n : Nat) (xs : List Value) (hs : a.eval s = v) (hown : w.ownsRow base e size v n xs)
    (ad : Addr) (m c : Nat) (news : List Value) (hx : a.eval x = .slice (some ad) m c) (hl : news.length = m * size) (hnews : ∀ j u, news[j]? = some u -> w.cell? (ad.add j) = some u) (h1 : ∀ u ∈ news, u.oneCell' = true)
    (h63 : n + m <= maxLen) (hbytes : (n + m) * bytes <= 140737488355328) (hbase : base <= w.heap.size)
    (hK : ∀ v' w', w'.ownsRow base e size v' (n + m) (xs ++ news) -> w.grownBy w' v.ownBlock -> (v'.ownBlock = v.ownBlock ∨ v'.ownBlock = some w.heap.size) -> K (a.put o.dst v') w') :
    if Region.wanted o (yielded ops a.tmps) = true then Oper.wp P o a w K Q else E := by
  have hw : Region.wanted o (yielded ops a.tmps) = true := by simp [Region.wanted, hg]
  rw [if_pos hw]
  obtain ⟨v', w', hr, h2, h3, _, h5⟩ := run_append_own_at (P := P) w base t o.type e i z size bytes ht hi hz hsize hby hzs hsz v n xs hown ad m c news hl hnews h1 h63 hbytes hbase
  unfold Oper.wp
  simp [execOp, hop, resolve, invoke, builtin, hs, hx, hr, Result.andThen]
  exact hK v' w' h2 h3 h5
abbrev modO (vi vd : Value) : Obj := .cells #[vi, vd] 36
abbrev zMod : Obj := modO (.slice none 0 0) (.slice none 0 0)
/-- While a module is read: its box holds vi and vd. -/
structure ModX (pb tb cap : Nat) (ts : List Tok) (w0 w : World) (b : Nat) (vi vd : Value) : Prop where
  st : Stay pb w0 w
  ps : Ps w pb tb cap ts b 0
  hp : pb < w0.heap.size
  res : w.heap[w0.heap.size]? = some zMod
  box : w.heap[w0.heap.size + 1]? = some (modO vi vd)
section
variable {pb tb cap b b' : Nat} {ts : List Tok} {w0 w w' w4 : World} {vi vd : Value} {g : Option Nat}
theorem ModX.lt (h : ModX pb tb cap ts w0 w b vi vd) : w0.heap.size + 2 <= w.heap.size := lt_of_block h.box
theorem ModX.step (h : ModX pb tb cap ts w0 w b vi vd) (hst : Stay pb w w') (hps : Ps w' pb tb cap ts b' 0) : ModX pb tb cap ts w0 w' b' vi vd where
  st := h.st.trans hst
  ps := hps
  hp := h.hp
  res := (hst.keep _ h.hp (lt_of_block h.res)).trans h.res
  box := (hst.keep _ (by have := h.hp; omega) (lt_of_block h.box)).trans h.box
theorem ModX.below (h : ModX pb tb cap ts w0 w b vi vd) (hb : Below w.heap.size w w') : ModX pb tb cap ts w0 w' b vi vd := h.step (Stay.of h.ps.ltp hb) (h.ps.below hb)
theorem ModX.alloc (h : ModX pb tb cap ts w0 w b vi vd) (o : Obj) : ModX pb tb cap ts w0 (w.alloc o) b vi vd := h.below (bl_alloc _ _)
theorem ModX.drew (h : ModX pb tb cap ts w0 w b vi vd) : ModX pb tb cap ts w0 w.drew b vi vd := ⟨h.st.drew, h.ps.drew, h.hp, h.res, h.box⟩
theorem ModX.grown (h : ModX pb tb cap ts w0 w b vi vd) (hg : w.grownBy w4 g) (hr : ∀ k, g = some k -> w0.heap.size + 2 <= k) : ModX pb tb cap ts w0 w4 b vi vd where
  st := h.st.grown hg h.hp fun k hk => by have := hr k hk; omega
  ps := h.ps.grown hg fun k hk => by have := hr k hk; have := h.hp; omega
  hp := h.hp
  res := (hg.block _ (lt_of_block h.res) (fun e => by have := hr _ e.symm; omega)).trans h.res
  box := (hg.block _ (lt_of_block h.box) (fun e => by have := hr _ e.symm; omega)).trans h.box
theorem ModX.set0 (h : ModX pb tb cap ts w0 w b vi vd) (u : Value) : ModX pb tb cap ts w0 (w.setCell ⟨w0.heap.size + 1, 0, none⟩ u) b u vd where
  st := h.st.own h.hp (by omega) 0 u
  ps := h.ps.other (by have := h.hp; omega) 0 u
  hp := h.hp
  res := (Below.heap_setCell _ _ _ _ (by show w0.heap.size ≠ w0.heap.size + 1; omega)).trans h.res
  box := by
    have h1 := cells_setCell (o := 0) (u := u) h.box
    simpa using h1
theorem ModX.set1 (h : ModX pb tb cap ts w0 w b vi vd) (u : Value) : ModX pb tb cap ts w0 (w.setCell ⟨w0.heap.size + 1, 1, none⟩ u) b vi u where
  st := h.st.own h.hp (by omega) 1 u
  ps := h.ps.other (by have := h.hp; omega) 1 u
  hp := h.hp
  res := (Below.heap_setCell _ _ _ _ (by show w0.heap.size ≠ w0.heap.size + 1; omega)).trans h.res
  box := by
    have h1 := cells_setCell (o := 1) (u := u) h.box
    simpa using h1
end
theorem box2 {W : World} {b : Nat} {x0 x1 : Value} {t : TypeId} (h : W.heap[b]? = some (.cells #[x0, x1] t)) : (W.cell? ⟨b, 0, none⟩ = some x0 /\ W.cell? ⟨b, 1, none⟩ = some x1) /\ (W.frozen? ⟨b, 0, none⟩ = false /\ W.frozen? ⟨b, 1, none⟩ = false) /\ b < W.heap.size := by
  refine ⟨⟨?_, ?_⟩, ⟨?_, ?_⟩, lt_of_block h⟩
  all_goals first | (rw [cell_of_row _ _ _ _ _ _ h]; rfl) | simp [World.frozen?, h]
theorem rows_set {α : Type} {rep : Nat -> World -> List Value -> α -> Prop} {B et k : Nat} {wx : World} {v : Value} {cs : List (List Value)} {xs : List α} {q : Nat} {oo : Option Nat} (h : RowsC rep B et k oo wx v cs xs) (hq : q < B) (o : Nat) (u : Value) : RowsC rep B et k oo (wx.setCell ⟨q, o, none⟩ u) v cs xs := by
  have hkeep : ∀ b, B <= b -> (wx.setCell ⟨q, o, none⟩ u).heap[b]? = wx.heap[b]? := fun b hb => Below.heap_setCell _ _ _ _ (by show b ≠ q; omega)
  refine ⟨h.len, h.each, ?_, h.apart, fun r hr => ?_, fun i h1 h2 => ?_⟩
  · obtain ⟨o1, o2⟩ := h.ow
    refine ⟨o1, ?_⟩
    rcases o2 with o2 | ⟨g, cap, cur, e, hg, hh, r⟩
    · exact .inl o2
    · exact .inr ⟨g, cap, cur, e, hg, (hkeep g hg).trans hh, r⟩
  · rw [size_set]; exact h.olt r hr
  · obtain ⟨wi, lo, m1, m2, m3, m4, m5⟩ := h.made i h1 h2
    exact ⟨wi, lo, m1, m2, by rw [size_set]; exact m3, fun b hb hl => (hkeep b (by omega)).trans (m4 b hb hl), m5⟩
theorem put2_heap {w : World} {b : Nat} {y0 y1 : Value} {t : TypeId} (h : w.heap[b]? = some (.cells #[y0, y1] t)) (x0 x1 : Value) : ((w.setCell ⟨b, 0, none⟩ x0).setCell ⟨b, 1, none⟩ x1).heap[b]? = some (.cells #[x0, x1] t) := by
  have h0 := cells_setCell (o := 0) (u := x0) h
  have h1 := cells_setCell (o := 1) (u := x1) h0
  simpa using h1
end Go.Proofs.YtlhmofphpfdjlaaGreatDoor
