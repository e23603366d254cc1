/- Part. -/
import Derived.Test.YtgblonhfidoleaaDoorPart37
set_option maxRecDepth 100000
set_option maxHeartbeats 4000000
/- What is deferred, of modules. -/
namespace Go.Proofs.YtgblonhfidoleaaDoor
open Go.Proofs.Tryd
open Go.RowKit
/-- The parts of a module. -/
structure MV where
  ia : Option Addr
  il : Nat
  ic : Nat
  da : Option Addr
  dl : Nat
  dc : Nat
abbrev MV.val (x : MV) : Value := .agg #[.slice x.ia x.il x.ic, .slice x.da x.dl x.dc]
abbrev MV.obj (x : MV) : Obj := .cells #[.slice x.ia x.il x.ic, .slice x.da x.dl x.dc] 45
abbrev zMV : MV := ⟨none, 0, 0, none, 0, 0⟩
abbrev putM (w : World) (b : Nat) (x : MV) : World := (w.setCell ⟨b, 0, none⟩ (.slice x.ia x.il x.ic)).setCell ⟨b, 1, none⟩ (.slice x.da x.dl x.dc)
def MdV (lo : Nat) (w : World) (x : MV) (D : List Ty × List Ty) : Prop := x.il = D.1.length /\ x.dl = D.2.length /\ D.1.length <= 8193 /\ D.2.length <= 8193 /\ RowQ ImpC 4 lo w x.ia D.1 /\ RowQ DeclC 15 lo w x.da D.2
def MdE (lo : Nat) (w : World) (v : Value) (D : List Ty × List Ty) : Prop := ∃ x : MV, v = x.val /\ MdV lo w x D
theorem mdE_of {lo : Nat} {w : World} {v : Value} {D : List Ty × List Ty} (h : ModE lo w v D) : MdE lo w v D := by
  obtain ⟨ia, ic, da, dc, rfl, h1, h2, h3, h4⟩ := h
  exact ⟨⟨ia, D.1.length, ic, da, D.2.length, dc⟩, rfl, rfl, rfl, h1, h2, h3, h4⟩
section
variable {w w' : World} {lo lo' b pb : Nat} {x y : MV} {D : List Ty × List Ty}
theorem putM_heap (h : w.heap[b]? = some y.obj) : (putM w b x).heap[b]? = some x.obj := put2_heap h _ _
theorem putM_size : (putM w b x).heap.size = w.heap.size := by
  unfold putM
  rw [size_set, size_set]
theorem putM_other {i : Nat} (hi : i ≠ b) : (putM w b x).heap[i]? = w.heap[i]? := by
  unfold putM
  rw [Below.heap_setCell _ _ _ _ hi, Below.heap_setCell _ _ _ _ hi]
theorem below_putM {B : Nat} {u : World} (h : Below B u w) (hb : B <= b) (x : MV) : Below B u (putM w b x) := (h.setCell hb _).setCell hb _
theorem boxM (h : w.heap[b]? = some x.obj) : (w.cell? ⟨b, 0, none⟩ = some (.slice x.ia x.il x.ic) /\ w.cell? ⟨b, 1, none⟩ = some (.slice x.da x.dl x.dc)) /\ (w.frozen? ⟨b, 0, none⟩ = false /\ w.frozen? ⟨b, 1, none⟩ = false) /\ b < w.heap.size := box2 h
theorem MdV.keep (h : MdV lo w x D) (hs : w.heap.size <= w'.heap.size) (hk : ∀ b, lo <= b -> b < w.heap.size -> w'.heap[b]? = w.heap[b]?) : MdV lo w' x D :=
  ⟨h.1, h.2.1, h.2.2.1, h.2.2.2.1, rowQ_keep impC_k h.2.2.2.2.1 hs hk, rowQ_keep declC_k h.2.2.2.2.2 hs hk⟩
theorem MdV.lower (h : MdV lo w x D) (hl : lo' <= lo) : MdV lo' w x D :=
  ⟨h.1, h.2.1, h.2.2.1, h.2.2.2.1, rowQ_lower impC_k h.2.2.2.2.1 hl, rowQ_lower declC_k h.2.2.2.2.2 hl⟩
theorem MdV.stay (h : MdV lo w x D) (hs : Stay pb w w') (hp : pb < lo) : MdV lo w' x D := h.keep hs.size fun b hb hl => hs.keep b (by omega) hl
theorem MdV.putM (h : MdV lo w x D) (hb : b < lo) (y : MV) : MdV lo (putM w b y) x D := h.keep (by rw [putM_size]; exact Nat.le_refl _) fun i hi _ => putM_other (by omega)
theorem MdV.set1 (h : MdV lo w x D) (hb : b < lo) (o : Nat) (u : Value) : MdV lo (w.setCell ⟨b, o, none⟩ u) x D :=
  h.keep (by rw [size_set]; exact Nat.le_refl _) fun i hi _ => Below.heap_setCell _ _ _ _ (by show i ≠ b; omega)
end
theorem module_enters (pb : Nat) : Enters 31 pb := fun w => enters_of func31 (by kernel_rfl) (by kernel_rfl) _ w
theorem moduleM_c (pb tb cap : Nat) (ts : List Tok) (ok : ToksOk ts) (w : World) (h : Ps w pb tb cap ts 0 0) :
    Calls prog 31 #[.pointer (some ⟨pb, 0, none⟩)] w (PPost pb tb cap ts 0 w MdE (moduleP ts)) :=
  (module_c pb tb cap ts ok w h).mono fun e w' hp => by
    refine ⟨hp.1, ?_⟩
    have h2 := hp.2
    revert h2
    cases moduleP ts with
    | inr p => exact id
    | inl p =>
      rintro ⟨h1, v, h2, h3⟩
      exact ⟨h1, v, h2, mdE_of h3⟩
theorem catchM_idle (p q : Addr) (w : World) :
    CallsD prog 34 #[.pointer (some p), .pointer (some q)] .returning w fun e u' w' => e = .returned (.tuple #[]) /\ u' = .returning /\ w' = w := by
  have hn := nil_nil
  refine callsD_of_wpS func34 rfl fun c₀ cs hu => ?_
  apply wpS_seq
  apply wpS_region
  simp [wpOpsS, go_sem, recoverD, hu, ntmps34, Exit.thenS]
  refine wpS_of_wp ?_
  simp only [Array.replicate, List.replicate, List.setIfInBounds_toArray, List.set_cons_zero, List.set_cons_succ, List.append_toArray, List.cons_append, List.nil_append]
  go_wp2
  cases c₀
  simp_all [bodyPostS, results, results34]
theorem catchM_panic (ab db : Nat) (li co x : Int) (older : List PanicEntry) (w : World) (y : MV) (x0 x1 x2 x3 : Value) (ha : w.heap[ab]? = some y.obj) (hd : w.heap[db]? = some (.cells #[x0, x1, x2, x3] 37)) (hab : ab ≠ db) :
    CallsD prog 34 #[.pointer (some ⟨ab, 0, none⟩), .pointer (some ⟨db, 0, none⟩)] (.panicking ({ v := .iface 37 (diagV li co x), recovered := false } :: older)) w fun e u' w' => e = .returned (.tuple #[]) /\ u' = .panicking ({ v := .iface 37 (diagV li co x), recovered := true } :: older) /\
      (w'.heap[ab]? = some zMV.obj /\ w'.heap[db]? = some (.cells #[.int .i64 0, .int .i64 li, .int .i64 co, .int .i64 x] 37)) /\ Hid (∀ B, B <= ab -> B <= db -> Below B w w') := by
  have hn := nil_neq
  have hta := assert_diag
  obtain ⟨⟨a0, a1⟩, ⟨z0, z1⟩, hla⟩ := boxM ha
  obtain ⟨⟨d0, d1, d2, d3⟩, ⟨g0, g1, g2, g3⟩, hld⟩ := res_facts hd
  have HA := hideP ha
  have HD := hideP hd
  clear ha hd
  have hab' : ¬ db = ab := fun e => hab e.symm
  refine callsD_of_wpS func34 rfl fun c₀ cs hu => ?_
  apply wpS_seq
  apply wpS_region
  simp [wpOpsS, go_sem, recoverD, hu, ntmps34, Exit.thenS]
  refine wpS_of_wp ?_
  simp only [Array.replicate, List.replicate, List.setIfInBounds_toArray, List.set_cons_zero, List.set_cons_succ, List.append_toArray, List.cons_append, List.nil_append]
  go_wp2
  go_region
  all_goals
    go_wp2
    refine ⟨rfl, _, rfl, .tuple #[], results_none rfl _ _ _, rfl, rfl, ⟨?_, ?_⟩, fun B h1 h2 => ?_⟩
    · rw [heap_drew]
      refine (Below.heap_alloc _ _ _ (by simp only [size_set]; exact hla)).trans ?_
      exact (other_set4 hab _ _ _ _).trans (putM_heap (x := zMV) HA.out)
    · rw [heap_drew]
      refine (Below.heap_alloc _ _ _ (by simp only [size_set]; exact hld)).trans ?_
      exact set4 ((putM_other (x := zMV) hab').trans HD.out) _ _ _ _
    · exact ((below_set4 (below_putM (x := zMV) (Below.refl _ w) h1) h2 _ _ _ _).alloc (by simp only [size_set]; omega) _).drew
end Go.Proofs.YtgblonhfidoleaaDoor
/- Places of what is read are at least 1; names are no longer than tokens. -/
namespace Go.Proofs.YtgblonhfidoleaaDoor
open Go.Proofs.Tryd
open Go.RowKit
def GoodI (i : Imp) : Prop := i.fr.length <= 70000 /\ (∀ n ∈ i.ns, n.length <= 70000) /\ 1 <= i.li /\ 1 <= i.co
def GoodC (d : Dec) : Prop := d.nm.length <= 70000 /\ 1 <= d.li /\ 1 <= d.co
def GoodM (o : Mo) : Prop := (∀ i ∈ o.is, GoodI i) /\ ∀ d ∈ o.ds, GoodC d
theorem skip_pos1 : ∀ (l : List UInt8) (c : Bool) (li co : Nat), 1 <= li -> 1 <= co -> 1 <= (skipV c l li co).2.1 /\ 1 <= (skipV c l li co).2.2
  | [], c, li, co, h1, h2 => by cases c <;> exact ⟨h1, h2⟩
  | b :: r, true, li, co, h1, h2 => by
    unfold skipV
    split
    · exact skip_pos1 r _ _ _ (by omega) (Nat.le_refl _)
    · exact skip_pos1 r _ _ _ h1 (by omega)
  | b :: r, false, li, co, h1, h2 => by
    unfold skipV
    split
    · exact skip_pos1 r _ _ _ (by omega) (Nat.le_refl _)
    split
    · exact skip_pos1 r _ _ _ h1 (by omega)
    split
    · exact skip_pos1 r _ _ _ h1 (by omega)
    · exact ⟨h1, h2⟩
def PosT (ts : List Tok) : Prop := ∀ t ∈ ts, 1 <= t.line /\ 1 <= t.col
theorem lexGo_pos : ∀ (f : Nat) (l : List UInt8) (li co n : Nat), 1 <= li -> 1 <= co -> l.length < f -> match lexGo f l li co n with | .inl ts => PosT ts | .inr e => 1 <= e.2.1 /\ 1 <= e.2.2
  | 0, _, _, _, _, _, _, hf => absurd hf (Nat.not_lt_zero _)
  | f + 1, l, li, co, n, h1, h2, hf => by
    obtain ⟨r, li', co', hs⟩ : ∃ r li' co', skipV false l li co = (r, li', co') := ⟨_, _, _, rfl⟩
    have hp := skip_pos1 l false li co h1 h2
    have hsuf := skip_suffix false l li co
    rw [hs] at hsuf hp
    have hrl := hsuf.length_le
    simp only at hrl hp
    by_cases hr : r = []
    · subst hr
      rw [Lx.lexGo_end hs]
      intro t ht
      rw [List.mem_singleton] at ht
      subst ht
      exact hp
    · cases he : readV r with
      | inl e =>
        rw [Lx.lexGo_bad hs hr he]
        exact hp
      | inr p =>
        obtain ⟨k, t, rest⟩ := p
        have hlt : rest.length < r.length := by
          obtain ⟨c, hc, hne⟩ := readV_rest he
          have := congrArg List.length hc
          rw [List.length_append] at this
          have := List.length_pos_iff.2 hne
          omega
        by_cases hn2 : n = 8192
        · subst hn2
          rw [Lx.lexGo_many hs hr he]
          exact hp
        · rw [Lx.lexGo_tok hs hr he hn2]
          have := lexGo_pos f rest li' (co' + (r.length - rest.length)) (n + 1) hp.1 (by omega) (by omega)
          revert this
          cases lexGo f rest li' (co' + (r.length - rest.length)) (n + 1) with
          | inl ts =>
            intro this u hu
            rcases List.mem_cons.1 hu with rfl | hu
            · exact hp
            · exact this u hu
          | inr e => exact id
theorem lex_pos (l : List UInt8) : match lexV l with | .inl ts => PosT ts | .inr e => 1 <= e.2.1 /\ 1 <= e.2.2 := by
  unfold lexV
  by_cases h : 65536 < l.length
  · rw [if_pos h]
    exact ⟨Nat.le_refl 1, Nat.le_refl 1⟩
  · rw [if_neg h]
    exact lexGo_pos _ l 1 1 0 (Nat.le_refl _) (Nat.le_refl _) (Nat.lt_succ_self _)
theorem go_inl' {α β : Type} {R : Pr α} {G : α -> Nat -> Pr β} {D : β} {c : Nat} (h : R.go G = .inl (D, c)) : ∃ x b, R = .inl (x, b) /\ G x b = .inl (D, c) := by
  cases R with
  | inl p => exact ⟨p.1, p.2, rfl, h⟩
  | inr e => cases h
section
variable {ts : List Tok}
theorem sees_pos1 (hp : PosT ts) {a : Nat} {s : Bs} (h : seesA ts a s = true) : 1 <= lineA ts a /\ 1 <= colA ts a := by
  by_cases ha : a < ts.length
  · have e : tkA ts a = ts[a] := by unfold tkA; rw [List.getD_eq_getElem?_getD, List.getElem?_eq_getElem ha, Option.getD_some]
    have := hp _ (List.getElem_mem ha)
    unfold lineA colA
    rw [e]
    exact this
  · exfalso
    unfold seesA tkA at h
    rw [List.getD_eq_getElem?_getD, List.getElem?_eq_none (by omega)] at h
    revert h
    simp
theorem want_sees1 {a : Nat} {s : Bs} {r : Unit × Nat} (h : wantA ts a s = .inl r) : seesA ts a s = true := by
  unfold wantA at h
  by_cases hs : seesA ts a s = true
  · exact hs
  · rw [if_neg hs] at h
    cases h
theorem name_len1 (ht : ∀ a, (tkA ts a).text.length <= 70000) {a b : Nat} {s : Bs} (h : nameA ts a = .inl (s, b)) : s.length <= 70000 := by
  unfold nameA at h
  split at h
  · injection h with h
    injection h with h
    rw [<- h]
    exact ht a
  · cases h
theorem many_len1 (ht : ∀ a, (tkA ts a).text.length <= 70000) (sep : Bs) : ∀ (f a : Nat) (l : List Bs) (b : Nat), manyA ts (nameA ts) sep f a = .inl (l, b) -> ∀ n ∈ l, n.length <= 70000
  | 0, a, l, b, h => by cases h
  | f + 1, a, l, b, h => by
    unfold manyA at h
    obtain ⟨s, a1, h1, h⟩ := go_inl' h
    have hs := name_len1 ht h1
    split at h
    · obtain ⟨r, a2, h2, h⟩ := go_inl' h
      injection h with h
      injection h with h
      subst h
      intro n hn
      rcases List.mem_cons.1 hn with rfl | hn
      · exact hs
      · exact many_len1 ht sep f _ _ _ h2 n hn
    · injection h with h
      injection h with h
      subst h
      intro n hn
      rw [List.mem_singleton] at hn
      subst hn
      exact hs
theorem imports_good (hp : PosT ts) (ht : ∀ a, (tkA ts a).text.length <= 70000) : ∀ (f a : Nat) (l : List Ty) (b : Nat), importsA ts f a = .inl (l, b) -> ∀ D ∈ l, GoodI (impOf D)
  | 0, a, l, b, h => by cases h
  | f + 1, a, l, b, h => by
    unfold importsA at h
    split at h
    · rename_i hs
      obtain ⟨s, a1, h1, h⟩ := go_inl' h
      obtain ⟨_, a2, h2, h⟩ := go_inl' h
      obtain ⟨ns, a3, h3, h⟩ := go_inl' h
      obtain ⟨_, a4, h4, h⟩ := go_inl' h
      obtain ⟨r, a5, h5, h⟩ := go_inl' h
      injection h with h
      injection h with h
      subst h
      intro D hD
      rcases List.mem_cons.1 hD with rfl | hD
      · rw [impOf_mk]
        exact ⟨name_len1 ht h1, many_len1 ht _ _ _ _ _ h3, (sees_pos1 hp hs).1, (sees_pos1 hp hs).2⟩
      · exact imports_good hp ht f _ _ _ h5 D hD
    · injection h with h
      injection h with h
      subst h
      intro D hD
      cases hD
theorem decl_good (hp : PosT ts) (ht : ∀ a, (tkA ts a).text.length <= 70000) {a b : Nat} {D : Ty} (h : declA ts a = .inl (D, b)) : GoodC (decOf D) := by
  unfold declA at h
  simp only at h
  obtain ⟨_, a1, h1, h⟩ := go_inl' h
  obtain ⟨s, a2, h2, h⟩ := go_inl' h
  obtain ⟨vs, a3, h3, h⟩ := go_inl' h
  obtain ⟨hd, a4, h4, h⟩ := go_inl' h
  obtain ⟨_, a5, h5, h⟩ := go_inl' h
  obtain ⟨x, a6, h6, h⟩ := go_inl' h
  obtain ⟨_, a7, h7, h⟩ := go_inl' h
  injection h with h
  injection h with h
  subst h
  rw [decOf_mk]
  have hs : seesA ts (if seesA ts a [101, 120, 112, 111, 114, 116] then a + 1 else a) [102, 110] = true := by
    exact want_sees1 h1
  exact ⟨name_len1 ht h2, (sees_pos1 hp hs).1, (sees_pos1 hp hs).2⟩
theorem decls_good (hp : PosT ts) (ht : ∀ a, (tkA ts a).text.length <= 70000) : ∀ (f a : Nat) (l : List Ty) (b : Nat), declsA ts f a = .inl (l, b) -> ∀ D ∈ l, GoodC (decOf D)
  | 0, a, l, b, h => by cases h
  | f + 1, a, l, b, h => by
    unfold declsA at h
    split at h
    · injection h with h
      injection h with h
      subst h
      intro D hD
      cases hD
    · obtain ⟨d, a1, h1, h⟩ := go_inl' h
      obtain ⟨r, a2, h2, h⟩ := go_inl' h
      injection h with h
      injection h with h
      subst h
      intro D hD
      rcases List.mem_cons.1 hD with rfl | hD
      · exact decl_good hp ht h1
      · exact decls_good hp ht f _ _ _ h2 D hD
end
theorem module_good {l : List UInt8} {D : List Ty × List Ty} (h : moduleTextV l = .inl D) : GoodM (moOf D) := by
  have hl := lex_pos l
  unfold moduleTextV at h
  cases hx : lexV l with
  | inr e => rw [hx] at h; cases h
  | inl ts =>
    rw [hx] at h hl
    have ok := lex_toks hx
    simp only at h hl
    cases he : endA ts (moduleA ts) with
    | inr e => rw [he] at h; cases h
    | inl p =>
      obtain ⟨t, b⟩ := p
      rw [he] at h
      injection h with h
      subst h
      unfold endA at he
      obtain ⟨t', b', h1, h2⟩ := go_inl' he
      split at h2
      · injection h2 with h2
        injection h2 with h2
        subst h2
        unfold moduleA at h1
        obtain ⟨i, a1, h3, h1⟩ := go_inl' h1
        obtain ⟨d, a2, h4, h1⟩ := go_inl' h1
        injection h1 with h1
        injection h1 with h1
        subst h1
        refine ⟨fun x hx => ?_, fun x hx => ?_⟩
        · obtain ⟨y, hy, rfl⟩ := List.mem_map.1 hx
          exact imports_good hl ok.txt _ _ _ _ h3 y hy
        · obtain ⟨y, hy, rfl⟩ := List.mem_map.1 hx
          exact decls_good hl ok.txt _ _ _ _ h4 y hy
      · cases h2
/-- The place of a text's fault. -/
theorem module_place {l : List UInt8} {er : Int} {li co : Nat} (h : moduleTextV l = .inr (er, li, co)) : er ≠ 0 /\ 1 <= li /\ 1 <= co := by
  have hl := lex_pos l
  cases hx : lexV l with
  | inr e =>
    obtain ⟨x, a, b⟩ := e
    unfold moduleTextV at h
    rw [hx] at h hl
    injection h with h
    injection h with h h'
    injection h' with h' h''
    subst h h' h''
    exact ⟨lex_err hx, hl⟩
  | inl ts =>
    have ok := lex_toks hx
    have hm := module_ok ok.ends ok.pos
    unfold moduleTextV at h
    rw [hx] at h hl
    simp only at h hl
    cases he : endA ts (moduleA ts) with
    | inl p => rw [he] at h; cases h
    | inr p =>
      obtain ⟨a, b, c⟩ := p
      rw [he] at h hm
      injection h with h
      injection h with h1 h2
      injection h2 with h2 h3
      subst h1 h2 h3
      obtain ⟨g1, t, g2, g3, g4⟩ := hm
      have := hl t g2
      exact ⟨by rcases g1 with rfl | rfl <;> decide, by omega, by omega⟩
end Go.Proofs.YtgblonhfidoleaaDoor
/- Modules as the linker sees them, in memory; the first function of a name. -/
namespace Go.Proofs.YtgblonhfidoleaaDoor
open Go.Proofs.Tryd
open Go.RowKit Go.Maps
def ImpS (lo : Nat) (w : World) (c : List Value) (I : Imp) : Prop := ∃ (na : Option Addr) (nc : Nat), c = [.string ⟨I.fr.toArray⟩, .slice na I.ns.length nc, .int .i64 I.li, .int .i64 I.co] /\ I.ns.length <= 8193 /\ NamesF w lo na I.ns
/-- The cells of a function that the linker passes by. -/
structure DV where
  va : Option Addr
  vc : Nat
  pm : ByteArray
  ta : Option Addr
  tc : Nat
  k : Int
  tx : ByteArray
  n : Int
  a : Int
  b : Int
  xa : Option Addr
  xl : Nat
  xc : Nat
  ya : Option Addr
  yl : Nat
  yc : Nat
  za : Option Addr
  zl : Nat
  zc : Nat
abbrev decC (x : DV) (d : Dec) : List Value := [.string ⟨d.nm.toArray⟩, .bool d.ex, .slice x.va d.vs x.vc, .string x.pm, .slice x.ta 2 x.tc, .int .i64 x.k, .string x.tx, .int .i64 x.n, .int .i64 x.a, .int .i64 x.b, .slice x.xa x.xl x.xc, .slice x.ya x.yl x.yc, .slice x.za x.zl x.zc, .int .i64 d.li, .int .i64 d.co]
abbrev decO (x : DV) (d : Dec) : Obj := .cells #[.string ⟨d.nm.toArray⟩, .bool d.ex, .slice x.va d.vs x.vc, .string x.pm, .slice x.ta 2 x.tc, .int .i64 x.k, .string x.tx, .int .i64 x.n, .int .i64 x.a, .int .i64 x.b, .slice x.xa x.xl x.xc, .slice x.ya x.yl x.yc, .slice x.za x.zl x.zc, .int .i64 d.li, .int .i64 d.co] 52
def DecS (_lo : Nat) (_w : World) (c : List Value) (d : Dec) : Prop := ∃ x : DV, c = decC x d /\ d.vs <= 8193
def MoV (lo : Nat) (w : World) (x : MV) (o : Mo) : Prop := x.il = o.is.length /\ x.dl = o.ds.length /\ o.is.length <= 8193 /\ o.ds.length <= 8193 /\ RowQ ImpS 4 lo w x.ia o.is /\ RowQ DecS 15 lo w x.da o.ds
def ModS (lo : Nat) (w : World) (c : List Value) (o : Mo) : Prop := ∃ x : MV, c = [.slice x.ia x.il x.ic, .slice x.da x.dl x.dc] /\ MoV lo w x o
theorem impS_k : RepK ImpS where
  keep := fun h hs hk => by
    obtain ⟨na, nc, e1, e2, e3⟩ := h
    exact ⟨na, nc, e1, e2, namesF_keep e3 hs hk⟩
  lower := fun h hl => by
    obtain ⟨na, nc, e1, e2, e3⟩ := h
    exact ⟨na, nc, e1, e2, namesF_lower e3 hl⟩
theorem decS_k : RepK DecS where
  keep := fun h _ _ => h
  lower := fun h _ => h
theorem modS_k : RepK ModS where
  keep := fun h hs hk => by
    obtain ⟨x, e, h1, h2, h3, h4, h5, h6⟩ := h
    exact ⟨x, e, h1, h2, h3, h4, rowQ_keep impS_k h5 hs hk, rowQ_keep decS_k h6 hs hk⟩
  lower := fun h hl => by
    obtain ⟨x, e, h1, h2, h3, h4, h5, h6⟩ := h
    exact ⟨x, e, h1, h2, h3, h4, rowQ_lower impS_k h5 hl, rowQ_lower decS_k h6 hl⟩
theorem rowQ_map {α β : Type} {rep : Nat -> World -> List Value -> α -> Prop} {rep' : Nat -> World -> List Value -> β -> Prop} {f : α -> β} (hf : ∀ lo w c x, rep lo w c x -> rep' lo w c (f x)) {k lo : Nat} {w : World} {a : Option Addr} {xs : List α} (h : RowQ rep k lo w a xs) : RowQ rep' k lo w a (xs.map f) := by
  rcases h with rfl | ⟨g, e, hg, hc, hr⟩
  · exact .inl rfl
  · refine .inr ⟨g, e, hg, hc, fun i hi => ?_⟩
    obtain ⟨c, h1, h2, h3⟩ := hr i (by simpa using hi)
    exact ⟨c, h1, h2, by rw [List.getElem_map]; exact hf _ _ _ _ h3⟩
theorem mo_of {lo : Nat} {w : World} {x : MV} {D : List Ty × List Ty} (h : MdV lo w x D) : MoV lo w x (moOf D) := by
  obtain ⟨h1, h2, h3, h4, h5, h6⟩ := h
  refine ⟨by rw [h1]; simp [moOf], by rw [h2]; simp [moOf], by simpa [moOf] using h3, by simpa [moOf] using h4, rowQ_map ?_ h5, rowQ_map ?_ h6⟩
  · rintro lo w c D ⟨s, l, na, nc, li, co, e1, rfl, e3, e4⟩
    rw [impOf_mk]
    exact ⟨na, nc, e1, e3, e4⟩
  · rintro lo w c D ⟨s, ex, vs, va, vc, pm, ta, tc, tys, x, B, li, co, m, e1, rfl, e3, e4, _⟩
    rw [decOf_mk]
    exact ⟨⟨va, vc, ⟨pm.toArray⟩, ta, tc, x.k, x.tx, x.N, x.li, x.co, x.ta, x.tl, x.tc, x.na, x.nl, x.nc, x.ka, x.kl, x.kc⟩, e1, e3⟩
theorem firstV_snoc (d : Dec) : ∀ (l : List Dec) (i : Nat) (a : Num), firstV i (l ++ [d]) a = (match look (firstV i l a) d.nm with | some _ => firstV i l a | none => (d.nm, i + l.length) :: firstV i l a)
  | [], i, a => by cases h : look a d.nm <;> simp [firstV, h]
  | x :: l, i, a => by
    show firstV (i + 1) (l ++ [d]) _ = _
    rw [firstV_snoc d l]
    simp only [firstV, List.length_cons]
    rw [show i + 1 + l.length = i + (l.length + 1) by omega]
theorem firstV_len : ∀ (l : List Dec) (i : Nat) (a : Num), (firstV i l a).length <= a.length + l.length
  | [], _, _ => Nat.le_refl _
  | x :: l, i, a => by
    have := firstV_len l (i + 1) (match look a x.nm with | some _ => a | none => (x.nm, i) :: a)
    show (firstV (i + 1) l _).length <= _
    refine Nat.le_trans this ?_
    simp only [List.length_cons]
    split <;> simp <;> omega
/-- The cells of the k-th function of a row. -/
theorem dec_cells {lo g : Nat} {w : World} {ds : List Dec} (h : RowQ DecS 15 lo w (some ⟨g, 0, none⟩) ds) {k : Nat} (hk : k < ds.length) : ∃ x : DV, ds[k].vs <= 8193 /\ ∀ j, j < 15 -> w.cell? ⟨g, k * 15 + j, none⟩ = (decC x ds[k])[j]? := by
  rcases h with h | ⟨g', e, _, _, hr⟩
  · rw [h] at hk; cases hk
  · injection e with e
    injection e with e
    subst e
    obtain ⟨c, h1, h2, x, rfl, h4⟩ := hr k hk
    exact ⟨x, h4, h2⟩
theorem run_makeRoom (z : Int) (w : World) : (Instr.makeMap 55 (some (.int .i64 z))).run prog w = .ok (.map (some w.heap.size)) (w.alloc (.map #[] 0)) := by
  simp [Instr.makeMap, run_underlying underlying55, asInt, newObj, Result.andThen]
  rfl
theorem first_c (lo : Nat) (da : Option Addr) (dc : Nat) (ds : List Dec) (w : World) (h : RowQ DecS 15 lo w da ds) (hl : ds.length <= 8193) (hn : ∀ d ∈ ds, d.nm.length <= 70000) :
    Calls prog 23 #[.slice da ds.length dc] w fun x w' => x = .returned (.map (some w.heap.size)) /\ NumAt w' w.heap.size (firstV 0 ds []) /\ Below w.heap.size w w' := by
  have hmm := run_makeRoom
  have HN := hideP hn
  have hz : ((ds.length : Int) <= 9223372036854775807) := by omega
  rcases h with he | ⟨g, rfl, hg, hc, hr⟩
  · subst he
    clear hn
    go_enter func23, ntmps23
    go_wp2_with fail
    go_loopw [13] (fun i wr => i = .int .i64 0 /\ wr = w.alloc (.map #[] 0)) (fun _ _ => 0)
    case atStart => exact ⟨rfl, rfl⟩
    case round =>
      obtain ⟨rfl, rfl⟩ := hrel
      go_wp2_with fail
      go_ret
      exact ⟨rfl, num_made w, bl_alloc w _⟩
  · have HQ : Hid (RowQ DecS 15 lo w (some ⟨g, 0, none⟩) ds) := .inr ⟨g, rfl, hg, hc, hr⟩
    have hgl : g < w.heap.size := clean_lt hc
    clear hc hr hn
    go_enter func23, ntmps23
    go_wp2_with fail
    go_loopw [13] (fun i wr => ∃ k : Nat, k <= ds.length /\ i = .int .i64 k /\ Hid (NumAt wr w.heap.size (firstV 0 (ds.take k) [])) /\ Hid (Below w.heap.size w wr)) (fun i _ => ds.length - (intOf i).toNat)
    case atStart => exact ⟨0, by omega, rfl, num_made w, bl_alloc w _⟩
    case round =>
      obtain ⟨k, hk, rfl, HA, HB⟩ := hrel
      by_cases hkl : k < ds.length
      · have hkl' : (k : Int) < (ds.length : Int) := by omega
        obtain ⟨x, hxv, hcell⟩ := dec_cells HQ.out hkl
        have hw : ∀ o, wr.cell? ⟨g, o, none⟩ = w.cell? ⟨g, o, none⟩ := fun o => World.cell?_of_block (HB.out.block g hgl)
        have q0 : wr.cell? ⟨g, k * 15, none⟩ = some (.string ⟨ds[k].nm.toArray⟩) := by rw [hw]; exact hcell 0 (by omega)
        have q1 : wr.cell? ⟨g, k * 15 + 1, none⟩ = some (.bool ds[k].ex) := by rw [hw]; exact hcell 1 (by omega)
        have q2 : wr.cell? ⟨g, k * 15 + 2, none⟩ = some (.slice x.va ds[k].vs x.vc) := by rw [hw]; exact hcell 2 (by omega)
        have q3 : wr.cell? ⟨g, k * 15 + 3, none⟩ = some (.string x.pm) := by rw [hw]; exact hcell 3 (by omega)
        have q4 : wr.cell? ⟨g, k * 15 + 4, none⟩ = some (.slice x.ta 2 x.tc) := by rw [hw]; exact hcell 4 (by omega)
        have q5 : wr.cell? ⟨g, k * 15 + 5, none⟩ = some (.int .i64 x.k) := by rw [hw]; exact hcell 5 (by omega)
        have q6 : wr.cell? ⟨g, k * 15 + 6, none⟩ = some (.string x.tx) := by rw [hw]; exact hcell 6 (by omega)
        have q7 : wr.cell? ⟨g, k * 15 + 7, none⟩ = some (.int .i64 x.n) := by rw [hw]; exact hcell 7 (by omega)
        have q8 : wr.cell? ⟨g, k * 15 + 8, none⟩ = some (.int .i64 x.a) := by rw [hw]; exact hcell 8 (by omega)
        have q9 : wr.cell? ⟨g, k * 15 + 9, none⟩ = some (.int .i64 x.b) := by rw [hw]; exact hcell 9 (by omega)
        have q10 : wr.cell? ⟨g, k * 15 + 10, none⟩ = some (.slice x.xa x.xl x.xc) := by rw [hw]; exact hcell 10 (by omega)
        have q11 : wr.cell? ⟨g, k * 15 + 11, none⟩ = some (.slice x.ya x.yl x.yc) := by rw [hw]; exact hcell 11 (by omega)
        have q12 : wr.cell? ⟨g, k * 15 + 12, none⟩ = some (.slice x.za x.zl x.zc) := by rw [hw]; exact hcell 12 (by omega)
        have q13 : wr.cell? ⟨g, k * 15 + 13, none⟩ = some (.int .i64 ds[k].li) := by rw [hw]; exact hcell 13 (by omega)
        have q14 : wr.cell? ⟨g, k * 15 + 14, none⟩ = some (.int .i64 ds[k].co) := by rw [hw]; exact hcell 14 (by omega)
        have HSt := hideP (firstV_snoc ds[k] (ds.take k) 0 [])
        rw [List.take_append_getElem hkl, List.length_take, Nat.min_eq_left (by omega), Nat.zero_add] at HSt
        have hlen := firstV_len (ds.take k) 0 []
        rw [List.length_take, List.length_nil] at hlen
        have hnm := HN.out ds[k] (List.getElem_mem hkl)
        obtain ⟨d, hd⟩ : ∃ d, d = ds[k] := ⟨_, rfl⟩
        rw [<- hd] at q0 q1 q2 q13 q14 HSt hnm
        clear hd hw hcell hxv
        have hS : (⟨d.nm.toArray⟩ : ByteArray).size <= maxLen := by simp [ByteArray.size]; unfold maxLen; omega
        obtain ⟨acc, hacc⟩ : ∃ acc, acc = firstV 0 (ds.take k) [] := ⟨_, rfl⟩
        rw [<- hacc] at HA HSt hlen
        clear hacc
        have HA2 : Hid (NumAt (wr.alloc (decO x d)) w.heap.size acc) := HA.out.block (Below.heap_alloc _ _ _ HA.out.lt)
        have hlook := fun r (h : look acc d.nm = r) => (show look acc (⟨d.nm.toArray⟩ : ByteArray).data.toList = r by simpa using h)
        have HB2 : Hid (Below w.heap.size w (wr.alloc (decO x d))) := HB.out.alloc HB.out.size _
        have hlr : look acc d.nm = none ∨ ∃ j, look acc d.nm = some j := by cases look acc d.nm <;> simp
        rcases hlr with hlr | ⟨j, hlr⟩
        · have HL := hideP (hlook _ hlr)
          rw [hlr] at HSt
          clear hlook hlr
          go_wp2_with (first
            | (at_lookup; refine wpList_num_look rfl _ _ rfl w.heap.size acc rfl HA2.out ⟨d.nm.toArray⟩ rfl hS none HL.out ?_)
            | (at_mapUpdate; refine wpList_num_put rfl _ _ _ rfl w.heap.size acc rfl HA2.out (by omega) ⟨d.nm.toArray⟩ rfl hS k rfl (by omega) ?_; intro w3 hn3 hg3; have HN3 := hideP hn3; have HG3 := hideP hg3; clear hn3 hg3)
            | fail)
          go_roundw
          case rel =>
            refine ⟨k + 1, by omega, by go_num, ?_, ?_⟩
            · show NumAt _ _ _
              rw [HSt.out]
              exact HN3.out
            · exact HB2.out.grown HG3.out (by rw [World.size_alloc]; have := HB.out.size; omega) fun q e => by injection e with e; omega
          case measure => simp [intOf]; omega
        · have HL := hideP (hlook _ hlr)
          rw [hlr] at HSt
          clear hlook hlr
          go_wp2_with (first
            | (at_lookup; refine wpList_num_look rfl _ _ rfl w.heap.size acc rfl HA2.out ⟨d.nm.toArray⟩ rfl hS (some j) HL.out ?_)
            | fail)
          go_roundw
          case rel =>
            refine ⟨k + 1, by omega, by go_num, ?_, ?_⟩
            · show NumAt _ _ _
              rw [HSt.out]
              exact HA2.out
            · exact HB2.out
          case measure => simp [intOf]; omega
      · have hkl' : ¬ (k : Int) < (ds.length : Int) := by omega
        have e : k = ds.length := by omega
        subst e
        rw [List.take_length] at HA
        go_wp2_with fail
        go_ret
        exact ⟨rfl, HA.out, HB.out⟩
end Go.Proofs.YtgblonhfidoleaaDoor
