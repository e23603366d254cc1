/- Part. -/
import Derived.Deep.RegionLaw
import Derived.Test.YtlhmofphpfdjlaaGreatDoorPart38
set_option maxRecDepth 100000
set_option maxHeartbeats 4000000
/- A module. -/
namespace Go.Proofs.YtlhmofphpfdjlaaGreatDoor
open Go.Proofs.Tryz
open Go.RowKit
attribute [local go_sem ↓] Go.wp_at_zero Go.wp_at_succ
/-- Functions, as the program looks for them: it goes on while one begins. -/
def declsP (ts : List Tok) : Nat -> Nat -> Pr (List Ty)
  | 0, a => badA ts 7 a
  | f + 1, a => if seesA ts a [101, 120, 112, 111, 114, 116] || seesA ts a [102, 110] then (declA ts a).go fun d b => (declsP ts f b).go fun r b => .inl (d :: r, b) else .inl ([], a)
def moduleP (ts : List Tok) : Pr (List Ty × List Ty) := (importsA ts ts.length 0).go fun i a => (declsP ts (ts.length + 1) a).go fun d a => .inl ((i, d), a)
theorem sees_end {ts : List Tok} {a : Nat} {s : List UInt8} (h : ((tkA ts a).kind == 0) = true) : seesA ts a s = false := by
  have h0 : (tkA ts a).kind = 0 := by simpa using h
  unfold seesA
  rw [h0]
  rfl
theorem declsP_or (ts : List Tok) : ∀ f a, declsP ts f a = declsA ts f a ∨ ∃ l b, declsP ts f a = .inl (l, b) /\ ((tkA ts b).kind == 0) = false /\ declsA ts f a = badA ts 7 b
  | 0, a => .inl rfl
  | f + 1, a => by
    unfold declsP declsA
    cases hk : ((tkA ts a).kind == 0) with
    | true =>
      rw [sees_end hk, sees_end hk]
      exact .inl rfl
    | false =>
      cases hs : (seesA ts a [101, 120, 112, 111, 114, 116] || seesA ts a [102, 110]) with
      | false =>
        obtain ⟨h1, h2⟩ := Bool.or_eq_false_iff.1 hs
        refine .inr ⟨[], a, rfl, hk, ?_⟩
        rw [if_neg (by simp), declA_eq, h1, if_neg (by simp), wantA, h2]
        rfl
      | true =>
        rw [if_pos rfl, if_neg (by simp)]
        cases hd : declA ts a with
        | inr e => exact .inl rfl
        | inl p =>
          obtain ⟨d, b⟩ := p
          show Pr.go (declsP ts f b) _ = Pr.go (declsA ts f b) _ ∨ ∃ l c, Pr.go (declsP ts f b) _ = _ /\ _ /\ Pr.go (declsA ts f b) _ = _
          rcases declsP_or ts f b with h | ⟨l, c, h1, h2, h3⟩
          · exact .inl (by rw [h])
          · exact .inr ⟨d :: l, c, by rw [h1]; rfl, h2, by rw [h3]; rfl⟩
theorem moduleP_end (ts : List Tok) : endA ts (moduleP ts) = endA ts (moduleA ts) := by
  unfold moduleP moduleA
  cases importsA ts ts.length 0 with
  | inr e => rfl
  | inl p =>
    obtain ⟨i, a⟩ := p
    show endA ts (Pr.go (declsP ts (ts.length + 1) a) _) = endA ts (Pr.go (declsA ts (ts.length + 1) a) _)
    rcases declsP_or ts (ts.length + 1) a with h | ⟨l, b, h1, h2, h3⟩
    · rw [h]
    · rw [h1, h3]
      show (if ((tkA ts b).kind == 0) = true then _ else _) = _
      rw [h2]
      rfl
theorem imports_step {ts : List Tok} {f a : Nat} (h : seesA ts a [105, 109, 112, 111, 114, 116] = true) : importsA ts (f + 1) a = (importA ts a).go fun d b => (importsA ts f b).go fun r b => .inl (d :: r, b) := by
  rw [importsA, if_pos h, importA, wantA, if_pos h]
  show Pr.go (nameA ts (a + 1)) _ = Pr.go (Pr.go (nameA ts (a + 1)) _) _
  cases nameA ts (a + 1) with
  | inr e => rfl
  | inl p =>
    show Pr.go (wantA ts p.2 [58]) _ = Pr.go (Pr.go (wantA ts p.2 [58]) _) _
    cases wantA ts p.2 [58] with
    | inr e => rfl
    | inl q =>
      show Pr.go (manyA ts (nameA ts) [44] ts.length q.2) _ = Pr.go (Pr.go (manyA ts (nameA ts) [44] ts.length q.2) _) _
      cases manyA ts (nameA ts) [44] ts.length q.2 with
      | inr e => rfl
      | inl r =>
        show Pr.go (wantA ts r.2 [59]) _ = Pr.go (Pr.go (wantA ts r.2 [59]) _) _
        cases wantA ts r.2 [59] <;> rfl
/-- Where the program stands among the imports, and among the functions. -/
def AtI (ts : List Tok) (R : Pr (List Ty × List Ty)) (acc : List Ty) (m b : Nat) : Prop := R = (importsA ts m b).go fun r c => (declsP ts (ts.length + 1) c).go fun d c => .inl ((acc ++ r, d), c)
def AtD (ts : List Tok) (R : Pr (List Ty × List Ty)) (is acc : List Ty) (m b : Nat) : Prop := R = (declsP ts m b).go fun r c => .inl ((is, acc ++ r), c)
theorem atI_start (ts : List Tok) : AtI ts (moduleP ts) [] ts.length 0 := rfl
theorem atI_next {ts : List Tok} {R : Pr (List Ty × List Ty)} {acc : List Ty} {m b c : Nat} {D : Ty} (h : AtI ts R acc (m + 1) b) (hs : seesA ts b [105, 109, 112, 111, 114, 116] = true) (hi : importA ts b = .inl (D, c)) : AtI ts R (acc ++ [D]) m c := by
  unfold AtI at h ⊢
  rw [h, imports_step hs, hi]
  show Pr.go (Pr.go (importsA ts m c) _) _ = _
  cases importsA ts m c with
  | inr e => rfl
  | inl p =>
    show Pr.go (declsP ts (ts.length + 1) p.2) _ = Pr.go (declsP ts (ts.length + 1) p.2) _
    simp
theorem atI_fail {ts : List Tok} {R : Pr (List Ty × List Ty)} {acc : List Ty} {m b : Nat} {e : Int × Nat × Nat} (h : AtI ts R acc (m + 1) b) (hs : seesA ts b [105, 109, 112, 111, 114, 116] = true) (hi : importA ts b = .inr e) : R = .inr e := by
  rw [h, imports_step hs, hi]
  rfl
theorem atI_end {ts : List Tok} {R : Pr (List Ty × List Ty)} {acc : List Ty} {m b : Nat} (h : AtI ts R acc (m + 1) b) (hs : seesA ts b [105, 109, 112, 111, 114, 116] = false) : AtD ts R acc [] (ts.length + 1) b := by
  unfold AtD
  rw [h, importsA, if_neg (by simp [hs])]
  simp [Pr.go]
theorem atD_next {ts : List Tok} {R : Pr (List Ty × List Ty)} {is acc : List Ty} {m b c : Nat} {D : Ty} (h : AtD ts R is acc (m + 1) b) (hs : (seesA ts b [101, 120, 112, 111, 114, 116] || seesA ts b [102, 110]) = true) (hi : declA ts b = .inl (D, c)) : AtD ts R is (acc ++ [D]) m c := by
  unfold AtD at h ⊢
  rw [h, declsP, if_pos hs, hi]
  show Pr.go (Pr.go (declsP ts m c) _) _ = _
  cases declsP ts m c with
  | inr e => rfl
  | inl p => simp [Pr.go]
theorem atD_fail {ts : List Tok} {R : Pr (List Ty × List Ty)} {is acc : List Ty} {m b : Nat} {e : Int × Nat × Nat} (h : AtD ts R is acc (m + 1) b) (hs : (seesA ts b [101, 120, 112, 111, 114, 116] || seesA ts b [102, 110]) = true) (hi : declA ts b = .inr e) : R = .inr e := by
  rw [h, declsP, if_pos hs, hi]
  rfl
theorem atD_end {ts : List Tok} {R : Pr (List Ty × List Ty)} {is acc : List Ty} {m b : Nat} (h : AtD ts R is acc (m + 1) b) (hs : (seesA ts b [101, 120, 112, 111, 114, 116] || seesA ts b [102, 110]) = false) : R = .inl ((is, acc), b) := by
  rw [h, declsP, if_neg (by simp [hs])]
  simp [Pr.go]
/-- Whatever is read, the parser goes on. -/
theorem import_up {ts : List Tok} {a : Nat} : UpP (a + 1) (importA ts a) := by
  unfold importA
  exact up_go (up_ite (up_now (Nat.le_refl _) _) (up_bad _ _)) fun _ _ h => up_go (up_name h) fun _ _ h => up_go (up_want h _) fun _ _ h => up_go (up_many (fun a x b h => by rw [name_up h]; omega) _ h) fun _ _ h => up_go (up_want h _) fun _ _ h => up_now h _
theorem up_behind {ts : List Tok} {K : Nat -> Pr Ty} (hK : ∀ a x b, K a = .inl (x, b) -> a <= b) {a c : Nat} (h : a <= c) (s : List UInt8) : UpP a (behindA ts K s c) := up_ite (up_go (up_at hK (by omega)) fun _ _ h => up_now h _) (up_now h _)
theorem decl_up {ts : List Tok} {a : Nat} : UpP (a + 1) (declA ts a) := by
  have hK : ∀ a x b, kindA ts ts.length 101 0 a = .inl (x, b) -> a <= b := fun a x b h => kind_up h
  rw [declA_eq]
  refine up_go (up_ite (up_now (by split <;> omega) _) (up_bad _ _)) fun _ _ h => up_go (up_name h) fun _ _ h => up_go (?_ : UpP _ (varsA ts _ _ _)) fun _ _ h => up_go (?_ : UpP _ (paramA ts _ _)) fun _ _ h => up_go (up_behind hK h _) fun _ _ h => up_go (up_want h _) fun _ _ h => up_go (up_at (fun a x b h => deep_up ts _ _ _ _ a x b h) h) fun _ _ h => up_go (up_want h _) fun _ _ h => up_now h _
  · refine up_ite (up_go (up_many (fun a x b h => ?_) _ (by omega)) fun _ _ h => up_go (up_want h _) fun _ _ h => up_now h _) (up_now h _)
    exact (up_go (up_name (Nat.le_refl _)) fun _ _ h => up_ite (up_go (up_at hK (by omega)) fun _ _ h => up_now h _) (up_now h _) : UpP a (varA ts _ a)) x b h
  · exact up_go (up_want h _) fun _ _ h => up_go (up_name h) fun _ _ h => up_go (up_behind hK h _) fun _ _ h => up_go (up_want h _) fun _ _ h => up_now h _
/-- Rows that the module's box holds. -/
theorem impC_k : RepK ImpC where
  keep := fun h hs hk => by
    obtain ⟨s, l, na, nc, li, co, e1, e2, e3, e4⟩ := h
    exact ⟨s, l, na, nc, li, co, e1, e2, e3, namesF_keep e4 hs hk⟩
  lower := fun h hl => by
    obtain ⟨s, l, na, nc, li, co, e1, e2, e3, e4⟩ := h
    exact ⟨s, l, na, nc, li, co, e1, e2, e3, namesF_lower e4 hl⟩
theorem declC_k : RepK DeclC where
  keep := fun h hs hk => by
    obtain ⟨s, ex, vs, va, vc, pm, ta, tc, tys, x, B, li, co, m, e1, e2, e3, e4, e5, e6, e7⟩ := h
    exact ⟨s, ex, vs, va, vc, pm, ta, tc, tys, x, B, li, co, m, e1, e2, e3, e4, varsF_keep e5 hs hk, kidsF_keep e6 hs hk, e7.keep hs hk⟩
  lower := fun h hl => by
    obtain ⟨s, ex, vs, va, vc, pm, ta, tc, tys, x, B, li, co, m, e1, e2, e3, e4, e5, e6, e7⟩ := h
    exact ⟨s, ex, vs, va, vc, pm, ta, tc, tys, x, B, li, co, m, e1, e2, e3, e4, varsF_lower e5 hl, kidsF_lower e6 hl, e7.lower hl⟩
theorem info_imp : (prog.info? 55).map (fun i => (i.zero, i.size, i.bytes)) = some (some (.agg #[.string ⟨#[]⟩, .slice none 0 0, .int .i64 0, .int .i64 0]), 4, 56) := by kernel_rfl
theorem info_dec : (prog.info? 40).map (fun i => (i.zero, i.size, i.bytes)) = some (some (.agg #[.string ⟨#[]⟩, .bool false, .slice none 0 0, .string ⟨#[]⟩, .slice none 0 0, .int .i64 0, .string ⟨#[]⟩, .int .i64 0, .int .i64 0, .int .i64 0, .slice none 0 0, .slice none 0 0, .slice none 0 0, .int .i64 0, .int .i64 0]), 15, 224) := by kernel_rfl
/-- A row as it is left: each of the xs by its k cells. -/
def RowQ {α : Type} (rep : Nat -> World -> List Value -> α -> Prop) (k lo : Nat) (w : World) (a : Option Addr) (xs : List α) : Prop := xs = [] ∨ ∃ g, a = some ⟨g, 0, none⟩ /\ lo <= g /\ CleanB w g /\
    ∀ i (hi : i < xs.length), ∃ c : List Value, c.length = k /\ (∀ j, j < k -> w.cell? ⟨g, i * k + j, none⟩ = c[j]?) /\ rep lo w c xs[i]
section
variable {α : Type} {rep : Nat -> World -> List Value -> α -> Prop} {k lo lo' : Nat} {w w' : World} {a : Option Addr} {xs : List α}
theorem rowQ_lower (hK : RepK rep) (h : RowQ rep k lo w a xs) (hl : lo' <= lo) : RowQ rep k lo' w a xs := by
  rcases h with h | ⟨g, e, hg, hc, hr⟩
  · exact .inl h
  · refine .inr ⟨g, e, Nat.le_trans hl hg, hc, fun i hi => ?_⟩
    obtain ⟨c, h1, h2, h3⟩ := hr i hi
    exact ⟨c, h1, h2, hK.lower h3 hl⟩
theorem rowQ_keep (hK : RepK rep) (h : RowQ rep k lo w a xs) (hs : w.heap.size <= w'.heap.size) (hk : ∀ b, lo <= b -> b < w.heap.size -> w'.heap[b]? = w.heap[b]?) : RowQ rep k lo w' a xs := by
  rcases h with h | ⟨g, e, hg, hc, hr⟩
  · exact .inl h
  · obtain ⟨cs, ty, hh⟩ := hc
    have hgk := hk g hg (lt_of_block hh)
    refine .inr ⟨g, e, hg, ⟨cs, ty, hgk.trans hh⟩, fun i hi => ?_⟩
    obtain ⟨c, h1, h2, h3⟩ := hr i hi
    refine ⟨c, h1, fun j hj => ?_, hK.keep h3 hs hk⟩
    have := h2 j hj
    unfold World.cell? at this ⊢
    simp only at this ⊢
    rw [hgk]
    exact this
end
/-- A module that was read. -/
def ModE (lo : Nat) (w : World) (v : Value) (x : List Ty × List Ty) : Prop := ∃ ia ic da dc, v = .agg #[.slice ia x.1.length ic, .slice da x.2.length dc] /\ x.1.length <= 8193 /\ x.2.length <= 8193 /\ RowQ ImpC 4 lo w ia x.1 /\ RowQ DeclC 15 lo w da x.2
/-- append to a row of one's own, as one step of a region that draws; and where the row lies then. -/
theorem step_append_at {P : Program} {ops : Array Oper} {o : Oper} {a : Act} {w : World} {K : Act -> World -> Prop} {Q : Exit -> Act -> World -> Prop} {E : Prop}
    (hg : o.guard = none) (s x : Operand) (t : TypeId) (hop : o.op = Op.call { callee := Callee.builtin Builtin.append, args := #[s, x], argTypes := #[t, t] })
    (base : Nat) (e : TypeId) (i : TypeInfo) (z : Value) (size bytes : Nat) (ht : P.underlying t = some (.slice e)) (hi : P.info? e = some i) (hz : i.zero = some z)
    (hsize : i.size = size) (hby : i.bytes = bytes) (hzs : z.cells.size = size) (hsz : 0 < size)
    (v : Value) (n : Nat) (xs : List Value) (hs : a.eval s = v) (hown : w.ownsRow base e size v n xs)
    (ad : Addr) (m c : Nat) (news : List Value) (hx : a.eval x = .slice (some ad) m c) (hl : news.length = m * size) (hnews : ∀ j u, news[j]? = some u -> w.cell? (ad.add j) = some u) (h1 : ∀ u ∈ news, u.oneCell' = true)
    (h63 : n + m <= maxLen) (hbytes : (n + m) * bytes <= 140737488355328) (hbase : base <= w.heap.size)
    (hK : ∀ v' w', w'.ownsRow base e size v' (n + m) (xs ++ news) -> w.grownBy w' v.ownBlock -> (v'.ownBlock = v.ownBlock ∨ v'.ownBlock = some w.heap.size) -> K (a.put o.dst v') w') :
    if Region.wanted o (yielded ops a.tmps) = true then Oper.wp P o a w K Q else E := by
  have hw : Region.wanted o (yielded ops a.tmps) = true := by simp [Region.wanted, hg]
  rw [if_pos hw]
  obtain ⟨v', w', hr, h2, h3, _, h5⟩ := run_append_own_at (P := P) w base t o.type e i z size bytes ht hi hz hsize hby hzs hsz v n xs hown ad m c news hl hnews h1 h63 hbytes hbase
  unfold Oper.wp
  simp [execOp, hop, resolve, invoke, builtin, hs, hx, hr, Result.andThen]
  exact hK v' w' h2 h3 h5
abbrev modO (vi vd : Value) : Obj := .cells #[vi, vd] 36
abbrev zMod : Obj := modO (.slice none 0 0) (.slice none 0 0)
/-- While a module is read: its box holds vi and vd. -/
structure ModX (pb tb cap : Nat) (ts : List Tok) (w0 w : World) (b : Nat) (vi vd : Value) : Prop where
  st : Stay pb w0 w
  ps : Ps w pb tb cap ts b 0
  hp : pb < w0.heap.size
  res : w.heap[w0.heap.size]? = some zMod
  box : w.heap[w0.heap.size + 1]? = some (modO vi vd)
section
variable {pb tb cap b b' : Nat} {ts : List Tok} {w0 w w' w4 : World} {vi vd : Value} {g : Option Nat}
theorem ModX.lt (h : ModX pb tb cap ts w0 w b vi vd) : w0.heap.size + 2 <= w.heap.size := lt_of_block h.box
theorem ModX.step (h : ModX pb tb cap ts w0 w b vi vd) (hst : Stay pb w w') (hps : Ps w' pb tb cap ts b' 0) : ModX pb tb cap ts w0 w' b' vi vd where
  st := h.st.trans hst
  ps := hps
  hp := h.hp
  res := (hst.keep _ h.hp (lt_of_block h.res)).trans h.res
  box := (hst.keep _ (by have := h.hp; omega) (lt_of_block h.box)).trans h.box
theorem ModX.below (h : ModX pb tb cap ts w0 w b vi vd) (hb : Below w.heap.size w w') : ModX pb tb cap ts w0 w' b vi vd := h.step (Stay.of h.ps.ltp hb) (h.ps.below hb)
theorem ModX.alloc (h : ModX pb tb cap ts w0 w b vi vd) (o : Obj) : ModX pb tb cap ts w0 (w.alloc o) b vi vd := h.below (bl_alloc _ _)
theorem ModX.drew (h : ModX pb tb cap ts w0 w b vi vd) : ModX pb tb cap ts w0 w.drew b vi vd := ⟨h.st.drew, h.ps.drew, h.hp, h.res, h.box⟩
theorem ModX.grown (h : ModX pb tb cap ts w0 w b vi vd) (hg : w.grownBy w4 g) (hr : ∀ k, g = some k -> w0.heap.size + 2 <= k) : ModX pb tb cap ts w0 w4 b vi vd where
  st := h.st.grown hg h.hp fun k hk => by have := hr k hk; omega
  ps := h.ps.grown hg fun k hk => by have := hr k hk; have := h.hp; omega
  hp := h.hp
  res := (hg.block _ (lt_of_block h.res) (fun e => by have := hr _ e.symm; omega)).trans h.res
  box := (hg.block _ (lt_of_block h.box) (fun e => by have := hr _ e.symm; omega)).trans h.box
theorem ModX.set0 (h : ModX pb tb cap ts w0 w b vi vd) (u : Value) : ModX pb tb cap ts w0 (w.setCell ⟨w0.heap.size + 1, 0, none⟩ u) b u vd where
  st := h.st.own h.hp (by omega) 0 u
  ps := h.ps.other (by have := h.hp; omega) 0 u
  hp := h.hp
  res := (Below.heap_setCell _ _ _ _ (by show w0.heap.size ≠ w0.heap.size + 1; omega)).trans h.res
  box := by
    have h1 := cells_setCell (o := 0) (u := u) h.box
    simpa using h1
theorem ModX.set1 (h : ModX pb tb cap ts w0 w b vi vd) (u : Value) : ModX pb tb cap ts w0 (w.setCell ⟨w0.heap.size + 1, 1, none⟩ u) b vi u where
  st := h.st.own h.hp (by omega) 1 u
  ps := h.ps.other (by have := h.hp; omega) 1 u
  hp := h.hp
  res := (Below.heap_setCell _ _ _ _ (by show w0.heap.size ≠ w0.heap.size + 1; omega)).trans h.res
  box := by
    have h1 := cells_setCell (o := 1) (u := u) h.box
    simpa using h1
end
theorem box2 {W : World} {b : Nat} {x0 x1 : Value} {t : TypeId} (h : W.heap[b]? = some (.cells #[x0, x1] t)) : (W.cell? ⟨b, 0, none⟩ = some x0 /\ W.cell? ⟨b, 1, none⟩ = some x1) /\ (W.frozen? ⟨b, 0, none⟩ = false /\ W.frozen? ⟨b, 1, none⟩ = false) /\ b < W.heap.size := by
  refine ⟨⟨?_, ?_⟩, ⟨?_, ?_⟩, lt_of_block h⟩
  all_goals first | (rw [cell_of_row _ _ _ _ _ _ h]; rfl) | simp [World.frozen?, h]
theorem rows_set {α : Type} {rep : Nat -> World -> List Value -> α -> Prop} {B et k : Nat} {wx : World} {v : Value} {cs : List (List Value)} {xs : List α} {q : Nat} {oo : Option Nat} (h : RowsC rep B et k oo wx v cs xs) (hq : q < B) (o : Nat) (u : Value) : RowsC rep B et k oo (wx.setCell ⟨q, o, none⟩ u) v cs xs := by
  have hkeep : ∀ b, B <= b -> (wx.setCell ⟨q, o, none⟩ u).heap[b]? = wx.heap[b]? := fun b hb => Below.heap_setCell _ _ _ _ (by show b ≠ q; omega)
  refine ⟨h.len, h.each, ?_, h.apart, fun r hr => ?_, fun i h1 h2 => ?_⟩
  · obtain ⟨o1, o2⟩ := h.ow
    refine ⟨o1, ?_⟩
    rcases o2 with o2 | ⟨g, cap, cur, e, hg, hh, r⟩
    · exact .inl o2
    · exact .inr ⟨g, cap, cur, e, hg, (hkeep g hg).trans hh, r⟩
  · rw [size_set]; exact h.olt r hr
  · obtain ⟨wi, lo, m1, m2, m3, m4, m5⟩ := h.made i h1 h2
    exact ⟨wi, lo, m1, m2, by rw [size_set]; exact m3, fun b hb hl => (hkeep b (by omega)).trans (m4 b hb hl), m5⟩
theorem put2_heap {w : World} {b : Nat} {y0 y1 : Value} {t : TypeId} (h : w.heap[b]? = some (.cells #[y0, y1] t)) (x0 x1 : Value) : ((w.setCell ⟨b, 0, none⟩ x0).setCell ⟨b, 1, none⟩ x1).heap[b]? = some (.cells #[x0, x1] t) := by
  have h0 := cells_setCell (o := 0) (u := x0) h
  have h1 := cells_setCell (o := 1) (u := x1) h0
  simpa using h1
end Go.Proofs.YtlhmofphpfdjlaaGreatDoor
/- A module by its contract. -/
namespace Go.Proofs.YtlhmofphpfdjlaaGreatDoor
open Go.Proofs.Tryz
open Go.RowKit
attribute [local go_sem ↓] Go.wp_at_zero Go.wp_at_succ
theorem module_c (pb tb cap : Nat) (ts : List Tok) (ok : ToksOk ts) (w : World) (h : Ps w pb tb cap ts 0 0) :
    Calls prog 19 #[.pointer (some ⟨pb, 0, none⟩)] w (PPost pb tb cap ts 0 w ModE (moduleP ts)) := by
  have OK := hideP ok
  have hp := h.ltp
  have X0 : Hid (ModX pb tb cap ts w ((w.alloc zMod).alloc zMod) 0 (.slice none 0 0) (.slice none 0 0)) :=
    ⟨((Stay.refl pb w).alloc hp _).alloc hp _, (h.alloc _).alloc _, hp, (Below.heap_alloc _ _ _ (by simp)).trans (heap_alloc_last w _), heap_at1 w _ _⟩
  obtain ⟨R, hR⟩ : ∃ R : Pr (List Ty × List Ty), R = moduleP ts := ⟨_, rfl⟩
  rw [<- hR]
  have HA0 : Hid (AtI ts R [] ts.length 0) := by rw [hR]; exact atI_start ts
  clear h ok hR
  go_enter func19, ntmps19
  go_wp2_with fail
  obtain ⟨i0, hi, hz0, hz1, hz2⟩ := info_parts info_imp
  obtain ⟨i1, hi', hz0', hz1', hz2'⟩ := info_parts info_dec
  go_loopg [4] (ts.length) (fun gk _ wr => ∃ (b m : Nat) (v : Value) (cs : List (List Value)) (acc : List Ty), Hid (ModX pb tb cap ts w wr b v (.slice none 0 0)) /\ Hid (RowsC ImpC (w.heap.size + 2) 55 4 none wr v cs acc) /\ Hid (AtI ts R acc m b) /\ Hid (ts.length <= b + m) /\ Hid (acc.length <= b) /\ ts.length - b <= gk)
  case atStart => exact ⟨0, ts.length, _, [], [], X0, rows_nil _ _ _ _ _, HA0, (by show _ <= _; omega), Nat.le_refl _, by omega⟩
  case round =>
    clear X0 HA0
    obtain ⟨b, m, v, cs, acc, X, RW, HA, HLe, HAc, hgk⟩ := hrel
    have hbt := X.out.ps.lt
    obtain ⟨m, rfl⟩ : ∃ q, m = q + 1 := ⟨m - 1, by have := HLe.out; omega⟩
    go_wp2_with fail
    refine (is_new pb tb cap b _ 1 ts [[105, 109, 112, 111, 114, 116]] _ _ X.out.ps.rd (by simp) (by simp)).mono ?_
    rintro e w2 ⟨rfl, hb2⟩
    have X2 := hideP (X.out.below hb2)
    have RW2 := hideP (RW.out.stay (Stay.of X.out.ps.ltp hb2) (show pb < w.heap.size + 2 by omega))
    clear hb2
    simp only [List.any_cons, List.any_nil, Bool.or_false]
    cases hs : seesA ts b [105, 109, 112, 111, 114, 116] with
    | false =>
      have HD := hideP (atI_end HA.out hs)
      clear hs
      clear X RW HA HLe hbt
      obtain ⟨wo, hwo⟩ : ∃ wo, wo = w2 := ⟨_, rfl⟩
      rw [<- hwo] at X2 RW2 ⊢
      clear hwo
      obtain ⟨is, his⟩ : ∃ is, is = acc := ⟨_, rfl⟩
      have hil : is.length <= 8193 := by have := HAc.out; have := OK.out.len; have := X2.out.ps.lt; rw [his]; omega
      rw [<- his] at RW2 HD
      clear his
      obtain ⟨ia, ic, rfl⟩ := row_shape RW2.out.ow
      have hb2 := X2.out.ps.lt
      go_wp2_with fail
      go_loopg [16] (ts.length) (fun gk _ wr => ∃ (b m : Nat) (v : Value) (cd : List (List Value)) (acc : List Ty), Hid (ModX pb tb cap ts w wr b (.slice ia is.length ic) v) /\ Hid (RowsC ImpC (w.heap.size + 2) 55 4 v.ownBlock wr (.slice ia is.length ic) cs is) /\ Hid (RowsC DeclC (w.heap.size + 2) 40 15 none wr v cd acc) /\ Hid (AtD ts R is acc m b) /\ Hid (ts.length + 1 <= b + m) /\ Hid (acc.length <= b) /\ ts.length - b <= gk)
      case atStart => exact ⟨b, ts.length + 1, .slice none 0 0, [], [], X2, RW2, rows_nil _ _ _ _ _, HD, (by show _ <= _; omega), Nat.zero_le _, by omega⟩
      case round =>
        clear X2 RW2 HD HAc hb2
        obtain ⟨b, m, v, cd, acc, X, RI, RW, HA, HLe, HAc, hgk⟩ := hrel
        have hbt := X.out.ps.lt
        obtain ⟨m, rfl⟩ : ∃ q, m = q + 1 := ⟨m - 1, by have := HLe.out; omega⟩
        go_wp2_with fail
        refine (is_new pb tb cap b _ 2 ts [[101, 120, 112, 111, 114, 116], [102, 110]] _ _ X.out.ps.rd (by simp) (by simp)).mono ?_
        rintro e w3 ⟨rfl, hb3⟩
        have X2 := hideP (X.out.below hb3)
        have RI2 := hideP (RI.out.stay (Stay.of X.out.ps.ltp hb3) (show pb < w.heap.size + 2 by omega))
        have RW2 := hideP (RW.out.stay (Stay.of X.out.ps.ltp hb3) (show pb < w.heap.size + 2 by omega))
        clear hb3
        simp only [List.any_cons, List.any_nil, Bool.or_false]
        have hac : acc.length <= 8193 := by have := HAc.out; have := OK.out.len; omega
        cases hs : (seesA ts b [101, 120, 112, 111, 114, 116] || seesA ts b [102, 110]) with
        | false =>
          have HD := hideP (atD_end HA.out hs)
          clear hs X RI RW HA HLe
          obtain ⟨da, dc, rfl⟩ := row_shape RW2.out.ow
          obtain ⟨⟨c0, c1⟩, ⟨z0, z1⟩, hcl⟩ := box2 X2.out.box
          obtain ⟨⟨r0, r1⟩, ⟨f0, f1⟩, hrl⟩ := box2 X2.out.res
          go_wp2_with fail
          rw [HD.out]
          have hI := (rows_set (rows_set RI2.out (q := w.heap.size) (by omega) 0 (.slice ia is.length ic)) (q := w.heap.size) (by omega) 1 (.slice da acc.length dc)).form impC_k
          have hD := (rows_set (rows_set RW2.out (q := w.heap.size) (by omega) 0 (.slice ia is.length ic)) (q := w.heap.size) (by omega) 1 (.slice da acc.length dc)).form declC_k
          obtain ⟨ia', ic', e1, _, hI⟩ := hI
          obtain ⟨da', dc', e2, _, hD⟩ := hD
          injection e1 with e1 _ _
          injection e2 with e2 _ _
          subst e1 e2
          refine bodyPost_ret (results_cell_row rfl _ _ w.heap.size 36 _ (0, 0) _ rfl (put2_heap X2.out.res (.slice ia is.length ic) (.slice da acc.length dc)) underlying36 rfl (by kernel_rfl)) rfl ⟨(X2.out.st.own hp (Nat.le_refl _) 0 _).own hp (Nat.le_refl _) 1 _, (X2.out.ps.other hp 0 _).other hp 1 _, _, rfl, ia, ic, da, dc, rfl, hil, hac, ?_, ?_⟩
          · exact rowQ_lower impC_k hI (by omega)
          · exact rowQ_lower declC_k hD (by omega)
        | true =>
          have HSe := hideP hs
          clear hs X RI RW
          go_wp2_with fail
          have X3 := hideP X2.out.drew
          have RI3 : Hid (RowsC ImpC (w.heap.size + 2) 55 4 v.ownBlock w3.drew (.slice ia is.length ic) cs is) := RI2.out.stay (Stay.refl pb w3).drew (show pb < w.heap.size + 2 by omega)
          have RW3 : Hid (RowsC DeclC (w.heap.size + 2) 40 15 none w3.drew v cd acc) := RW2.out.stay (Stay.refl pb w3).drew (show pb < w.heap.size + 2 by omega)
          obtain ⟨⟨c0, c1⟩, ⟨z0, z1⟩, hcl⟩ := box2 X3.out.box
          have HC : Hid (Calls prog 36 #[.pointer (some ⟨pb, 0, none⟩)] w3.drew fun e w9 => (∃ chain, e = .panicked chain /\ PPost pb tb cap ts 0 w ModE R e w9) ∨ ∃ (s : List UInt8) (ex : Bool) (vs : List (List UInt8 × Ty)) (va : Option Addr) (vc : Nat) (pm : List UInt8) (ta : Option Addr) (tc : Nat) (x : NV) (li co : Nat) (D : Ty) (b1 : Nat), e = .returned (.agg #[.string ⟨s.toArray⟩, .bool ex, .slice va vs.length vc, .string ⟨pm.toArray⟩, .slice ta 2 tc, .int .i64 x.k, .string x.tx, .int .i64 x.N, .int .i64 x.li, .int .i64 x.co, .slice x.ta x.tl x.tc, .slice x.na x.nl x.nc, .slice x.ka x.kl x.kc, .int .i64 li, .int .i64 co]) /\ (w9.cell? ⟨w.heap.size + 1, 0, none⟩ = some (.slice ia is.length ic) /\ w9.cell? ⟨w.heap.size + 1, 1, none⟩ = some v) /\ w.heap.size + 1 < w9.heap.size /\
              Hid (AtD ts R is (acc ++ [D]) m b1 /\ b + 1 <= b1 /\ ModX pb tb cap ts w w9 b1 (.slice ia is.length ic) v /\ RowsC DeclC (w.heap.size + 2) 40 15 none w9 v cd acc /\ Made DeclC (w.heap.size + 2) (fun q => v.ownBlock = some q ∨ (none : Option Nat) = some q) w9 [.string ⟨s.toArray⟩, .bool ex, .slice va vs.length vc, .string ⟨pm.toArray⟩, .slice ta 2 tc, .int .i64 x.k, .string x.tx, .int .i64 x.N, .int .i64 x.li, .int .i64 x.co, .slice x.ta x.tl x.tc, .slice x.na x.nl x.nc, .slice x.ka x.kl x.kc, .int .i64 li, .int .i64 co] D /\ RowsC ImpC (w.heap.size + 2) 55 4 v.ownBlock w9 (.slice ia is.length ic) cs is)) := by
            refine (decl_c pb tb cap ts OK.out b _ X3.out.ps).mono ?_
            intro e w9 hpost
            rcases ppost_or hpost with ⟨er, li, co, hr, rfl, hst⟩ | ⟨D, b1, v1, hr, rfl, hst, hps, hv⟩
            · exact .inl ⟨_, rfl, X3.out.st.trans hst, by rw [atD_fail HA.out HSe.out hr]⟩
            obtain ⟨c, rfl, hc⟩ := hv
            have hc' := hc
            obtain ⟨s, ex, vs, va, vc, pm, ta, tc, tys, x, B, li, co, md, rfl, _⟩ := hc
            have XN := X3.out.step hst hps
            have hb := box2 XN.box
            exact .inr ⟨s, ex, vs, va, vc, pm, ta, tc, x, li, co, D, b1, rfl, hb.1, hb.2.2, atD_next HA.out HSe.out hr, decl_up _ _ hr, XN, RW3.out.stay hst (by omega), Made.new (rep := DeclC) hc' X3.out.lt (fun q hq => RW3.out.all q hq), RI3.out.stay hst (by omega)⟩
          go_region_law (first
            | (go_simp; go_at_call 36; refine HC.out.mono ?_; rintro e w9 (⟨ch, rfl, hf⟩ | ⟨s, ex, vs, va, vc, pm, ta, tc, x, li, co, D, b1, rfl, ⟨t0, t1⟩, hl9, HX⟩); exact ⟨rfl, hf⟩)
            | (refine step_append_at rfl (.tmp 22) (.tmp 25) 34 rfl (w.heap.size + 2) 40 i1 _ 15 224 underlying34 hi' hz0' hz1' hz2' rfl (by decide) v _ _ (by first | rfl | simp [Act.eval, Act.put]) (HX.out.2.2.2.1.ow.alloc _) ⟨w9.heap.size, 0, none⟩ 1 1 [.string ⟨s.toArray⟩, .bool ex, .slice va vs.length vc, .string ⟨pm.toArray⟩, .slice ta 2 tc, .int .i64 x.k, .string x.tx, .int .i64 x.N, .int .i64 x.li, .int .i64 x.co, .slice x.ta x.tl x.tc, .slice x.na x.nl x.nc, .slice x.ka x.kl x.kc, .int .i64 li, .int .i64 co] (by first | rfl | simp [Act.eval, Act.put]) rfl (cells_newK _ _ _) (by simp [Value.oneCell']) (by unfold maxLen; omega) (by omega) (by rw [World.size_alloc]; omega) ?_; intro v' w4 hown' hgrow hloc; obtain ⟨av, cv, rfl⟩ := row_shape hown';
                                have HN : Hid (ModX pb tb cap ts w w4 b1 (.slice ia is.length ic) v /\ RowsC DeclC (w.heap.size + 2) 40 15 none w4 (.slice av (acc.length + 1) cv) (cd ++ [[.string ⟨s.toArray⟩, .bool ex, .slice va vs.length vc, .string ⟨pm.toArray⟩, .slice ta 2 tc, .int .i64 x.k, .string x.tx, .int .i64 x.N, .int .i64 x.li, .int .i64 x.co, .slice x.ta x.tl x.tc, .slice x.na x.nl x.nc, .slice x.ka x.kl x.kc, .int .i64 li, .int .i64 co]]) (acc ++ [D]) /\ RowsC ImpC (w.heap.size + 2) 55 4 (Value.slice av (acc.length + 1) cv).ownBlock w4 (.slice ia is.length ic) cs is) := ⟨(HX.out.2.2.1.alloc _).grown hgrow fun q hq => (HX.out.2.2.2.1.own q hq).1, HX.out.2.2.2.1.put hown' hgrow (hloc.imp_right fun e => ⟨_, e, by simp⟩) ((Stay.refl pb w9).alloc HX.out.2.2.1.ps.ltp _) (show pb < w.heap.size + 2 by omega) rfl (HX.out.2.2.2.2.1.stay ((Stay.refl pb w9).alloc HX.out.2.2.1.ps.ltp _) (show pb < w.heap.size + 2 by omega)), (HX.out.2.2.2.2.2.stay ((Stay.refl pb w9).alloc HX.out.2.2.1.ps.ltp _) (show pb < w.heap.size + 2 by omega)).beside hgrow (hloc.imp_right fun e => ⟨_, e, Nat.le_refl _, (hown'.lt _ e).2⟩) (by rw [World.size_alloc]; omega)⟩;
                                obtain ⟨⟨k0, k1⟩, ⟨f0, f1⟩, hk4⟩ := box2 HN.out.1.box; clear hown' hgrow hloc))
          all_goals
            go_wp2_with fail
            go_roundg (ts.length - b1)
            case measure => have := HX.out.2.1; omega
            case rel => exact ⟨b1, m, _, _, _, HN.out.1.set1 _, rows_set HN.out.2.2 (by omega) 1 _, rows_set HN.out.2.1 (by omega) 1 _, HX.out.1, (by have := HLe.out; have := HX.out.2.1; show _ <= _; omega), (by have := HAc.out; have := HX.out.2.1; show (acc ++ [D]).length <= _; simp; omega), Nat.le_refl _⟩
    | true =>
      have hbl : b + 1 < ts.length := sees_next OK.out.ends hbt hs
      have HSe := hideP hs
      have hac : acc.length <= 8193 := by have := HAc.out; have := OK.out.len; omega
      clear hs X RW
      go_wp2_with fail
      have X3 := hideP X2.out.drew
      have RW3 : Hid (RowsC ImpC (w.heap.size + 2) 55 4 none w2.drew v cs acc) := RW2.out.stay (Stay.refl pb w2).drew (show pb < w.heap.size + 2 by omega)
      obtain ⟨⟨c0, c1⟩, ⟨z0, z1⟩, hcl⟩ := box2 X3.out.box
      have HC : Hid (Calls prog 35 #[.pointer (some ⟨pb, 0, none⟩)] w2.drew fun e w9 => (∃ chain, e = .panicked chain /\ PPost pb tb cap ts 0 w ModE R e w9) ∨ ∃ (s : List UInt8) (l : List (List UInt8)) (na : Option Addr) (nc li co : Nat) (D : Ty) (b1 : Nat), e = .returned (.agg #[.string ⟨s.toArray⟩, .slice na l.length nc, .int .i64 li, .int .i64 co]) /\ (w9.cell? ⟨w.heap.size + 1, 0, none⟩ = some v /\ w9.cell? ⟨w.heap.size + 1, 1, none⟩ = some (.slice none 0 0)) /\ w.heap.size + 1 < w9.heap.size /\
          Hid (AtI ts R (acc ++ [D]) m b1 /\ b + 1 <= b1 /\ ModX pb tb cap ts w w9 b1 v (.slice none 0 0) /\ RowsC ImpC (w.heap.size + 2) 55 4 none w9 v cs acc /\ Made ImpC (w.heap.size + 2) (fun q => v.ownBlock = some q ∨ (none : Option Nat) = some q) w9 [.string ⟨s.toArray⟩, .slice na l.length nc, .int .i64 li, .int .i64 co] D)) := by
        refine (imported_c pb tb cap 0 ts OK.out b _ X3.out.ps).mono ?_
        intro e w9 hpost
        rcases ppost_or hpost with ⟨er, li, co, hr, rfl, hst⟩ | ⟨D, b1, v1, hr, rfl, hst, hps, hv⟩
        · exact .inl ⟨_, rfl, X3.out.st.trans hst, by rw [atI_fail HA.out HSe.out hr]⟩
        obtain ⟨c, rfl, hc⟩ := hv
        have hc' := hc
        obtain ⟨s, l, na, nc, li, co, rfl, _⟩ := hc
        have XN := X3.out.step hst hps
        have hb := box2 XN.box
        exact .inr ⟨s, l, na, nc, li, co, D, b1, rfl, hb.1, hb.2.2, atI_next HA.out HSe.out hr, import_up _ _ hr, XN, RW3.out.stay hst (by omega), Made.new (rep := ImpC) hc' X3.out.lt fun q hq => RW3.out.all q hq⟩
      go_region_law (first
        | (go_simp; go_at_call 35; refine HC.out.mono ?_; rintro e w9 (⟨ch, rfl, hf⟩ | ⟨s, l, na, nc, li, co, D, b1, rfl, ⟨t0, t1⟩, hl9, HX⟩); exact ⟨rfl, hf⟩)
        | (refine step_append_at rfl (.tmp 10) (.tmp 13) 33 rfl (w.heap.size + 2) 55 i0 _ 4 56 underlying33 hi hz0 hz1 hz2 rfl (by decide) v _ _ (by first | rfl | simp [Act.eval, Act.put]) (HX.out.2.2.2.1.ow.alloc _) ⟨w9.heap.size, 0, none⟩ 1 1 [.string ⟨s.toArray⟩, .slice na l.length nc, .int .i64 li, .int .i64 co] (by first | rfl | simp [Act.eval, Act.put]) rfl (cells_newK _ _ _) (by simp [Value.oneCell']) (by unfold maxLen; omega) (by omega) (by rw [World.size_alloc]; omega) ?_; intro v' w4 hown' hgrow hloc; obtain ⟨av, cv, rfl⟩ := row_shape hown';
                                have HN : Hid (ModX pb tb cap ts w w4 b1 v (.slice none 0 0) /\ RowsC ImpC (w.heap.size + 2) 55 4 none w4 (.slice av (acc.length + 1) cv) (cs ++ [[.string ⟨s.toArray⟩, .slice na l.length nc, .int .i64 li, .int .i64 co]]) (acc ++ [D])) := ⟨(HX.out.2.2.1.alloc _).grown hgrow fun q hq => (HX.out.2.2.2.1.own q hq).1, HX.out.2.2.2.1.put hown' hgrow (hloc.imp_right fun e => ⟨_, e, by simp⟩) ((Stay.refl pb w9).alloc HX.out.2.2.1.ps.ltp _) (show pb < w.heap.size + 2 by omega) rfl (HX.out.2.2.2.2.stay ((Stay.refl pb w9).alloc HX.out.2.2.1.ps.ltp _) (show pb < w.heap.size + 2 by omega))⟩;
                                obtain ⟨⟨k0, k1⟩, ⟨f0, f1⟩, hk4⟩ := box2 HN.out.1.box; clear hown' hgrow hloc))
      all_goals
        go_wp2_with fail
        go_roundg (ts.length - b1)
        case measure => have := HX.out.2.1; omega
        case rel => exact ⟨b1, m, _, _, _, HN.out.1.set0 _, rows_set HN.out.2 (by omega) 0 _, HX.out.1, (by have := HLe.out; have := HX.out.2.1; show _ <= _; omega), (by have := HAc.out; have := HX.out.2.1; show (acc ++ [D]).length <= _; simp; omega), Nat.le_refl _⟩
end Go.Proofs.YtlhmofphpfdjlaaGreatDoor
