/- The program's tree: more. -/
import Derived.Test.YtldcfglkcifklaaShB
import Derived.Deep.DeepCutAuto
namespace Go.Proofs.Ytldcfglkcifklaa
open Go.RowKit

/-- slices.Clone of a row of texts. -/
theorem clone_c {F : Nat → Prop} {w : World} {ao : Option Addr} {c : Nat} {La : List ByteArray} (h : StrV F w (.slice ao La.length c) La) (hl : La.length ≤ 1000000) :
    Calls Try.prog 25 #[.slice ao La.length c] w fun e w' => ∃ v, e = .returned v ∧ w'.ownsRow w.heap.size 9 1 v La.length (La.map Value.string) ∧ Below w.heap.size w w' := by
  by_cases h0 : La.length = 0
  · obtain rfl : La = [] := List.eq_nil_of_length_eq_zero h0
    cases ao with
    | none =>
      refine (Try.slices_Clone_string_nil 0 c w).mono ?_
      rintro e w' ⟨rfl, rfl⟩
      exact ⟨_, rfl, World.ownsRow_nil _ _ _ _, Below.refl _ _⟩
    | some a =>
      refine (Try.slices_Clone_string_zero a c w).mono ?_
      rintro e w' ⟨v', rfl, ho, _, hb⟩
      exact ⟨v', rfl, ho, hb⟩
  · obtain ⟨ao', c', e, _, _, h2⟩ := h.form
    injection e with e _ _
    subst e
    obtain ⟨b, o, rfl, _⟩ := h2 0 (by omega)
    refine (Try.slices_Clone_string b o La.length c La w (Nat.le_refl _) (by omega) fun j hj => ?_).mono ?_
    · obtain ⟨b', o', e, _, _, h3⟩ := h2 j hj
      injection e with e
      injection e with e1 e2
      subst e1 e2
      rw [h3, List.getD_eq_getElem?_getD, List.getElem?_eq_getElem hj]
      rfl
    · rintro e w' ⟨v', rfl, ho, _, hb⟩
      rw [List.take_length] at ho
      exact ⟨v', rfl, ho, hb⟩
/-- The names of number n on behind those of the shape s: what more answers. -/
def MoreP (G : Nat → Prop) (w : World) (NL : List ByteArray) (T : List (List ByteArray)) (N : List ByteArray) (s : Nat) (e : Ending) (w' : World) : Prop := ∃ (A : Nat) (ao : Option Addr) (c : Nat) (b : Nat) (La : List ByteArray),
  e = .returned (.agg #[.int .i64 N.length, .int .i64 A, .slice ao La.length c, .pointer (some ⟨b, 0, none⟩)]) ∧ A ≤ s ∧ N = T.getD A [] ++ La ∧ La.length ≤ 16 ∧ StrV (fun b => w.heap.size ≤ b ∧ b < w'.heap.size) w' (.slice ao La.length c) La ∧
  PT (fun b => G b ∨ (w.heap.size ≤ b ∧ b < w'.heap.size)) w' (.pointer (some ⟨b, 0, none⟩)) (placeOf NL N) ∧ Ch (fun _ => False) w w'
/-- What stands behind the two calls of more. -/
def MoreF (G : Nat → Prop) (NL L : List ByteArray) (A : Nat) (La : List ByteArray) (n lo : Nat) (W : World) (N : Nat) (V : World) : Prop := ∃ (a1 : Option Addr) (c1 b1 : Nat), V.heap[N]? = some (.cells #[.int .i64 ((L.length : Int) + 1), .int .i64 A, .slice a1 La.length c1, .pointer (some ⟨b1, 0, none⟩)] 60) ∧
  W.heap.size ≤ N ∧ Ch (fun _ => False) W V ∧ V.ownsRow W.heap.size 9 1 (.slice a1 La.length c1) La.length (La.map Value.string) ∧ PT (fun b => G b ∨ (lo ≤ b ∧ b < V.heap.size ∧ b ≠ N)) V (.pointer (some ⟨b1, 0, none⟩)) (putF (placeOf NL L) (n + 1) (L.length + 1))
section
variable {W V V2 : World} {N : Nat} {x0 x1 x2 x3 z0 z1 z2 z3 : Value} {t : TypeId}
theorem row_base {w : World} {B B' et sz n : Nat} {v : Value} {ys : List Value} (hB : B' ≤ B) (h : w.ownsRow B et sz v n ys) : w.ownsRow B' et sz v n ys := ⟨h.1, h.2.imp_right fun ⟨g, cap, cur, e, hg, r⟩ => ⟨g, cap, cur, e, Nat.le_trans hB hg, r⟩⟩
theorem set4 (h : V.heap[N]? = some (.cells #[z0, z1, z2, z3] t)) : ((((V.setCell ⟨N, 0, none⟩ x0).setCell ⟨N, 1, none⟩ x1).setCell ⟨N, 2, none⟩ x2).setCell ⟨N, 3, none⟩ x3).heap[N]? = some (.cells #[x0, x1, x2, x3] t) := by
  have h1 := cells_setCell (o := 0) (u := x0) h
  have h2 := cells_setCell (o := 1) (u := x1) h1
  have h3 := cells_setCell (o := 2) (u := x2) h2
  have h4 := cells_setCell (o := 3) (u := x3) h3
  simpa using h4
/-- The row of a string and the block of a shape are two. -/
theorem row_not {B n : Nat} {v : Value} {ys : List Value} {cs : Array Value} (h : V.ownsRow B 9 1 v n ys) (hb : V.heap[N]? = some (.cells cs 60)) : ∀ q, v.ownBlock = some q → q ≠ N := by
  rintro q hq rfl
  rcases h.2 with ⟨rfl, _⟩ | ⟨g, cap, cur, rfl, _, hh, _⟩
  · cases hq
  · injection hq with hq
    simp only at hq
    subst hq
    rw [hb] at hh
    injection hh with hh
    injection hh with _ hh
    cases hh
theorem more_grown {B n N0 : Nat} {v : Value} {ys : List Value} {cs ds : Array Value} {S : ByteArray} (hO : V.ownsRow B 9 1 v n ys) (hN : V.heap[N]? = some (.cells cs 60)) (hB : V.heap[N0]? = some (.cells ds 60)) (hg : (V.alloc (.cells #[.string S] 9)).grownBy V2 v.ownBlock) : Hid (V2.heap[N]? = some (.cells cs 60)) ∧ Hid (V2.heap[N0]? = some (.cells ds 60)) := by
  have hk : ∀ {M : Nat} {es : Array Value}, V.heap[M]? = some (.cells es 60) → V2.heap[M]? = some (.cells es 60) := fun {M es} h => by
    have hl := lt_of_block h
    exact (hg.block M (by rw [World.size_alloc]; omega) fun e => row_not hO h M e.symm rfl).trans ((Below.heap_alloc _ _ _ hl).trans h)
  exact ⟨hk hN, hk hB⟩
variable {G : Nat → Prop} {NL L La : List ByteArray} {A n lo p q : Nat} {a1 : Option Addr} {c1 b1 : Nat} {f : Nat → Option Nat}
theorem more_f1 (hc : Ch (fun _ => False) W V) (hO : V.ownsRow W.heap.size 9 1 (.slice a1 La.length c1) La.length (La.map Value.string)) (hP : PT (fun b => G b ∨ (p ≤ b ∧ b < q)) V (.pointer (some ⟨b1, 0, none⟩)) (putF (placeOf NL L) (n + 1) (L.length + 1))) (hp : lo ≤ p) (hq : q ≤ V.heap.size) :
    MoreF G NL L A La n lo W V.heap.size (V.alloc (.cells #[.int .i64 ((L.length : Int) + 1), .int .i64 A, .slice a1 La.length c1, .pointer (some ⟨b1, 0, none⟩)] 60)) :=
  ⟨a1, c1, b1, heap_alloc_last _ _, hc.size, hc.alloc _, ((Ch.refl (fun _ => False) V).alloc _).row hO fun _ _ h => h, (hP.ch ((Ch.refl (fun _ => False) V).alloc _) fun _ _ h => h).mono fun b _ hb => hb.imp_right fun h => ⟨by omega, by rw [World.size_alloc]; omega, by omega⟩⟩
theorem more_f2 (hG : ∀ b, G b → b < W.heap.size) (hN : W.heap.size ≤ N) (hx : V.heap[N]? = some (.cells #[z0, z1, z2, z3] 60)) (hc : Ch (fun _ => False) W V) (hO : V.ownsRow W.heap.size 9 1 (.slice a1 La.length c1) La.length (La.map Value.string)) (hP : PT (fun b => G b ∨ (p ≤ b ∧ b < q)) V (.pointer (some ⟨b1, 0, none⟩)) (putF (placeOf NL L) (n + 1) (L.length + 1))) (hp : lo ≤ p) (hq : q ≤ V.heap.size) (hpq : N < p ∨ q ≤ N) :
    MoreF G NL L A La n lo W N ((((V.setCell ⟨N, 0, none⟩ (.int .i64 ((L.length : Int) + 1))).setCell ⟨N, 1, none⟩ (.int .i64 A)).setCell ⟨N, 2, none⟩ (.slice a1 La.length c1)).setCell ⟨N, 3, none⟩ (.pointer (some ⟨b1, 0, none⟩))) := by
  have hch : ∀ S : Nat → Prop, S N → Ch S V ((((V.setCell ⟨N, 0, none⟩ (.int .i64 ((L.length : Int) + 1))).setCell ⟨N, 1, none⟩ (.int .i64 A)).setCell ⟨N, 2, none⟩ (.slice a1 La.length c1)).setCell ⟨N, 3, none⟩ (.pointer (some ⟨b1, 0, none⟩))) := fun S h => ((((Ch.refl S V).set (fun _ => h) _ _).set (fun _ => h) _ _).set (fun _ => h) _ _).set (fun _ => h) _ _
  refine ⟨a1, c1, b1, set4 hx, hN, hc.trans (hch (fun b => b = N) rfl) fun b hb e => by omega, (hch (fun b => b = N) rfl).row hO fun q hq e => row_not hO hx q hq e, (hP.ch (hch (fun b => b = N) rfl) fun b hb e => ?_).mono fun b _ hb => hb.imp_right fun h => ⟨by omega, by rw [size_set, size_set, size_set, size_set]; omega, by omega⟩⟩
  rcases hb with hb | hb
  · have := hG b hb
    omega
  · omega
end
theorem more_end {G : Nat → Prop} {w W V V2 : World} {NL L ys : List ByteArray} {T : List (List ByteArray)} {S : ByteArray} {A s n N l b1 c' c2 : Nat} {a' a2 : Option Addr} {u x0 x1 x2 x3 : Value} {cs ds : Array Value} (hn : n < NL.length) (hS : S = NL[n]) (hd : NL.Nodup) (hx : NL[n] ∉ L)
    (hA : A ≤ s) (hL : L = T.getD A [] ++ ys) (hl : ys.length = l) (hl2 : l + 1 ≤ 16) (hZ : W.heap.size = w.heap.size + 2) (hC0 : Ch (fun _ => False) w W) (hVC : Ch (fun _ => False) W V) (hNW : W.heap.size ≤ N) (hVN : V.heap[N]? = some (.cells cs 60)) (hVB : V.heap[w.heap.size]? = some (.cells ds 60))
    (hO : V.ownsRow W.heap.size 9 1 (.slice a' l c') l (ys.map Value.string)) (hP : PT (fun b => G b ∨ (W.heap.size ≤ b ∧ b < V.heap.size ∧ b ≠ N)) V (.pointer (some ⟨b1, 0, none⟩)) (putF (placeOf NL L) (n + 1) (L.length + 1)))
    (hG : (V.alloc (.cells #[.string S] 9)).grownBy V2 (Value.slice a' l c').ownBlock) (hO2 : V2.ownsRow W.heap.size 9 1 (.slice a2 (l + 1) c2) (l + 1) (ys.map Value.string ++ [.string S])) (hN2 : V2.heap[N]? = some (.cells cs 60)) (hW2 : V2.heap[w.heap.size]? = some (.cells ds 60)) :
    MoreP G w NL T (L ++ [NL[n]]) s (.returned (.agg #[.int .i64 ((L.length : Int) + 1), .int .i64 A, .slice a2 (l + 1) c2, .pointer (some ⟨b1, 0, none⟩)])) (((((V2.setCell ⟨N, 2, none⟩ u).setCell ⟨w.heap.size, 0, none⟩ x0).setCell ⟨w.heap.size, 1, none⟩ x1).setCell ⟨w.heap.size, 2, none⟩ x2).setCell ⟨w.heap.size, 3, none⟩ x3) := by
  have hsz : ∀ x : World, ∀ u x0 x1 x2 x3, (((((x.setCell ⟨N, 2, none⟩ u).setCell ⟨w.heap.size, 0, none⟩ x0).setCell ⟨w.heap.size, 1, none⟩ x1).setCell ⟨w.heap.size, 2, none⟩ x2).setCell ⟨w.heap.size, 3, none⟩ x3).heap.size = x.heap.size := fun x u x0 x1 x2 x3 => by rw [size_set, size_set, size_set, size_set, size_set]
  have hs1 := hVC.size
  have hs2 : V.heap.size + 1 ≤ V2.heap.size := by have := hG.size; rw [World.size_alloc] at this; exact this
  have hset : ∀ {Q : Nat → Prop} {x y : World}, Ch Q x y → (N < x.heap.size → Q N) → (w.heap.size < x.heap.size → Q w.heap.size) → Ch Q x (((((y.setCell ⟨N, 2, none⟩ u).setCell ⟨w.heap.size, 0, none⟩ x0).setCell ⟨w.heap.size, 1, none⟩ x1).setCell ⟨w.heap.size, 2, none⟩ x2).setCell ⟨w.heap.size, 3, none⟩ x3) := fun h h1 h2 => ((((h.set h1 _ _).set h2 _ _).set h2 _ _).set h2 _ _).set h2 _ _
  have hgr : Ch (fun b => (Value.slice a' l c').ownBlock = some b) V V2 := ((Ch.refl _ V).alloc _).grown hG fun q hq _ => hq
  have hfin := hset (hgr.mono (S' := fun b => (Value.slice a' l c').ownBlock = some b ∨ b = N ∨ b = w.heap.size) fun b _ h => .inl h) (fun _ => .inr (.inl rfl)) (fun _ => .inr (.inr rfl))
  have hrow := (hset (Ch.refl (fun b => b = N ∨ b = w.heap.size) V2) (fun _ => .inl rfl) (fun _ => .inr rfl)).row hO2 fun q hq h => by
    rcases h with h | h
    · exact row_not hO2 hN2 q hq h
    · exact row_not hO2 hW2 q hq h
  have hlen : (ys ++ [S]).length = l + 1 := by simp [hl]
  refine ⟨A, a2, c2, b1, ys ++ [S], ?_, hA, ?_, by omega, ?_, ?_, ?_⟩
  · rw [hlen]
    simp
  · rw [hL, ← hS, List.append_assoc]
  · rw [hlen]
    refine strV_own (ns := ys ++ [S]) (B := W.heap.size) (by rw [hlen, List.map_append]; exact hrow) fun q hq => ?_
    have := hO2.lt q hq
    rw [hsz]
    omega
  · refine ((hP.ch' hfin fun b es h hb => ?_).mono fun b _ hb => ?_).ext fun m _ => ?_
    · rcases h with h | rfl | rfl
      · obtain ⟨g, cap, cur, e, _, hh, _⟩ := hO.2.resolve_left fun e => by rw [e.1] at h; cases h
        injection e with e _ _
        subst e
        injection h with h
        simp only at h
        subst h
        rw [hb] at hh
        injection hh with hh
        injection hh with _ hh
        cases hh
      · rw [hb] at hVN
        injection hVN with hh
        injection hh with _ hh
        cases hh
      · rw [hb] at hVB
        injection hVB with hh
        injection hh with _ hh
        cases hh
    · rw [hsz]
      exact hb.imp_right fun h => by omega
    · rw [placeOf_snoc hd hn hx]
      unfold putF
      rw [Nat.add_sub_cancel]
  · exact (hset ((hC0.trans hVC fun _ _ h => h).trans hgr fun b hb h => by
      have := (hO.lt b h).1
      omega) (fun h => by omega) (fun h => by omega))
set_option maxRecDepth 100000 in
set_option maxHeartbeats 8000000 in
theorem more_c (B : Nat) (F : Nat → Prop) (ro : Nat → Nat) (w : World) (t k nb mb : Nat) (vl vs : Value) (xs : List Value) (NL : List ByteArray) (M : Num) (T : List (List ByteArray)) (s n : Nat) (h : KT B F ro w t k nb mb vl vs xs NL M T) (hs : s < T.length) (hn : n < NL.length) (hT : T.length ≤ 1000000) (hN : NL.length ≤ 1000000) (hd : NL.Nodup) (hx : NL[n] ∉ T[s]) (hsl : T[s].length < T.length) :
    Calls Try.prog 22 #[.pointer (some ⟨k, 0, none⟩), .int .i64 s, .int .i64 n] w (MoreP (fun b => F b ∧ ro b = 6) w NL T (T[s] ++ [NL[n]]) s) := by
  obtain ⟨A, la, pl, La, e0, e1, e2, e3, hA, hla, hTA, hst, hpl⟩ := h.rows s hs
  rw [getD_at hs] at e0 hTA hpl
  obtain ⟨ao, c, rfl, _⟩ := hst.form
  obtain ⟨po, rfl⟩ := hpl.ptr
  have H := hideP h
  obtain ⟨al, cl, g, cs, rfl, hvs⟩ := h.look
  obtain ⟨rfl, hcells⟩ := hvs (by omega)
  obtain ⟨⟨c0, c1, c2, c3⟩, _, hkl⟩ := box4 h.kb
  have d0 := (hcells (s * 4) (by omega)).trans e0
  have d1 := (hcells (s * 4 + 1) (by omega)).trans e1
  have d2 := (hcells (s * 4 + 2) (by omega)).trans e2
  have d3 := (hcells (s * 4 + 3) (by omega)).trans e3
  obtain ⟨L, hL⟩ : ∃ L, L = T[s] := ⟨_, rfl⟩
  rw [← hL] at hx hsl d0 hTA hpl ⊢
  have HX := hideP hx
  have HLs : Hid (L = T.getD s []) := by rw [getD_at hs]; exact hL
  have HAs : Hid (A ≤ s) := by show A ≤ s; omega
  have HTA := hideP hTA
  have HST := hideP hst
  have HPL := hideP hpl
  have hgl : g < w.heap.size := World.block_lt_of_cell? w _ d0
  have hs0 : (0 : Int) ≤ (s : Int) := by omega
  have hs1 : (s : Int) < (T.length : Int) := by omega
  obtain ⟨i0, hi, hz0, hz1, hz2⟩ := info_parts info_str
  clear e0 e1 e2 e3 hvs hcells hL hx hTA hst hpl h hA
  go_enter Try.func22, Try.ntmps22
  go_upto_region 2 with fail
  obtain ⟨W, hW⟩ : ∃ W, W = (w.alloc (.cells #[.int .i64 0, .int .i64 0, .slice none 0 0, .pointer none] 60)).alloc (.cells #[.int .i64 L.length, .int .i64 A, .slice ao La.length c, .pointer po] 60) := ⟨_, rfl⟩
  rw [← hW]
  have HC0 : Hid (Ch (fun _ => False) w W) := by rw [hW]; exact ((Ch.refl _ w).alloc _).alloc _
  have HZ : Hid (W.heap.size = w.heap.size + 2) := by show W.heap.size = _; rw [hW, World.size_alloc, World.size_alloc]
  have HB0 : Hid (W.heap[w.heap.size]? = some (.cells #[.int .i64 0, .int .i64 0, .slice none 0 0, .pointer none] 60)) := by
    show W.heap[w.heap.size]? = _
    rw [hW]
    exact (Below.heap_alloc _ _ _ (by rw [World.size_alloc]; omega)).trans (heap_alloc_last w _)
  have HB1 : Hid (W.heap[w.heap.size + 1]? = some (.cells #[.int .i64 L.length, .int .i64 A, .slice ao La.length c, .pointer po] 60)) := by
    show W.heap[w.heap.size + 1]? = _
    rw [hW]
    have := heap_alloc_last (w.alloc (.cells #[.int .i64 0, .int .i64 0, .slice none 0 0, .pointer none] 60)) (.cells #[.int .i64 L.length, .int .i64 A, .slice ao La.length c, .pointer po] 60)
    rw [World.size_alloc] at this
    exact this
  have HS : Hid (∀ W2, Ch (fun _ => False) W W2 → W2.cell? ⟨w.heap.size + 1, 0, none⟩ = some (.int .i64 L.length) ∧ W2.cell? ⟨w.heap.size + 1, 1, none⟩ = some (.int .i64 A) ∧ W2.cell? ⟨w.heap.size + 1, 2, none⟩ = some (.slice ao La.length c) ∧ W2.cell? ⟨w.heap.size + 1, 3, none⟩ = some (.pointer po)) := fun W2 h => (box4 (h.obj HB1.out fun h => h)).1
  have s0 := HS.out W.drew (Ch.refl _ _).drew
  have hw : IntKind.i64.wrap ((L.length : Int) + 1) = (L.length : Int) + 1 := by rw [IntKind.wrap_i64]; omega
  clear c0 c1 c2 c3 d0 d1 d2 d3 hkl hgl hW
  have z0 : W.heap.size ≤ W.heap.size := Nat.le_refl _
  have HCC : Hid (∀ V, Ch (fun _ => False) W V → Calls Try.prog 25 #[.slice ao La.length c] V fun e w' => ∃ (a1 : Option Addr) (c1 : Nat), e = .returned (.slice a1 La.length c1) ∧ Ch (fun _ => False) W w' ∧ Ch (fun _ => False) V w' ∧ w'.ownsRow W.heap.size 9 1 (.slice a1 La.length c1) La.length (La.map Value.string)) := fun V hV => by
    refine (clone_c (HST.out.ch (HC0.out.trans hV fun _ _ h => h) fun _ _ _ h => h) (by omega)).mono ?_
    rintro e w' ⟨v, rfl, ho, hb⟩
    obtain ⟨a1, c1, rfl⟩ := row_shape ho
    have hc : Ch (fun _ => False) V w' := Ch.of hb
    exact ⟨a1, c1, rfl, hV.trans hc fun _ _ h => h, hc, row_base hV.size ho⟩
  have HCW : Hid (∀ V, Ch (fun _ => False) W V → Calls Try.prog 26 #[.pointer po, .int .i64 n, .int .i64 L.length] V fun e w' => ∃ b1, e = .returned (.pointer (some ⟨b1, 0, none⟩)) ∧ Ch (fun _ => False) W w' ∧ Ch (fun _ => False) V w' ∧ PT (fun b => (F b ∧ ro b = 6) ∨ (V.heap.size ≤ b ∧ b < w'.heap.size)) w' (.pointer (some ⟨b1, 0, none⟩)) (putF (placeOf NL L) (n + 1) (L.length + 1))) := fun V hV => by
    have h := HC0.out.trans hV fun _ _ h => h
    refine (with_c _ _ _ n L.length V (HPL.out.ch h fun _ _ h => h) (by omega) (by omega) (fun b hb => Nat.lt_of_lt_of_le (H.out.low b hb.1).2 h.size)).mono ?_
    rintro e w' ⟨b1, rfl, hp, hc⟩
    exact ⟨b1, rfl, hV.trans hc fun _ _ h => h, hc, hp⟩
  go_cut [8] from 16 (fun v V => ∃ N, v = .pointer (some ⟨N, 0, none⟩) ∧ Hid (MoreF (fun b => F b ∧ ro b = 6) NL L A La n W.heap.size W N V))
  case first =>
    go_region_held (fun V => V.cell? ⟨w.heap.size + 1, 0, none⟩ = some (.int .i64 L.length) ∧ V.cell? ⟨w.heap.size + 1, 1, none⟩ = some (.int .i64 A) ∧ V.cell? ⟨w.heap.size + 1, 2, none⟩ = some (.slice ao La.length c) ∧ V.cell? ⟨w.heap.size + 1, 3, none⟩ = some (.pointer po)) (first | with_reducible assumption | exact HS.out _ (by repeat' (first | exact B2 | exact B1 | exact Ch.refl _ _ | refine Ch.drewN ?_ _ | refine Ch.drew ?_ | refine Ch.alloc ?_ _ | refine Ch.set ?_ (fun h => absurd h (by omega)) _ _))) (first
      | (go_at_call 25; first
        | (have B0 := B1; refine Calls.mono (HCC.out _ ?_) ?_; (case _ => (repeat' (first | exact B2 | exact B1 | exact Ch.refl _ _ | refine Ch.drewN ?_ _ | refine Ch.drew ?_ | refine Ch.alloc ?_ _)); done); rintro e w2 ⟨a1, c1, rfl, k1, k2, q1⟩; have B2 := k1; have s2 := HS.out w2 k1; have z2 := k1.size; have R2 := hideP q1; have HT : Ch (fun _ => False) w1 w2 := k2; have HXA2 := hideP (k2.obj HXA.out fun h => h); obtain ⟨_, ⟨f0, f1, f2, f3⟩, fl⟩ := box4 HXA2.out; have Q2 := hideP (Q1.out.ch HT fun _ _ h => h); clear q1 k1 k2 Q1)
        | (have B0 := B1; refine Calls.mono (HCC.out (World.alloc _ _) ?_) ?_; (case _ => (repeat' (first | exact B2 | exact B1 | exact Ch.refl _ _ | refine Ch.drewN ?_ _ | refine Ch.drew ?_ | refine Ch.alloc ?_ _)); done); rintro e w2 ⟨a1, c1, rfl, k1, k2, q1⟩; have B2 := k1; have s2 := HS.out w2 k1; have z2 := k1.size; have R2 := hideP q1; have HT : Ch (fun _ => False) w1 w2 := ((Ch.refl _ _).alloc _).trans k2 (fun _ _ h => h); have HXA : Hid (w2.heap[w1.heap.size]? = some (.cells #[.int .i64 0, .int .i64 0, .slice none 0 0, .pointer none] 60)) := k2.obj (heap_alloc_last _ _) fun h => h; obtain ⟨_, ⟨f0, f1, f2, f3⟩, fl⟩ := box4 HXA.out; have Q2 := hideP (Q1.out.ch HT fun _ _ h => h); clear q1 k1 k2 Q1)
        | (have B0 := B1; refine Calls.mono (HCC.out _ ?_) ?_; (case _ => (repeat' (first | exact B2 | exact B1 | exact Ch.refl _ _ | refine Ch.drewN ?_ _ | refine Ch.drew ?_ | refine Ch.alloc ?_ _)); done); rintro e w2 ⟨a1, c1, rfl, k1, k2, q1⟩; have B2 := k1; have s2 := HS.out w2 k1; have z2 := k1.size; have R2 := hideP q1; have HT : Ch (fun _ => False) w1 w2 := k2; obtain ⟨_, ⟨f0, f1, f2, f3⟩, fl⟩ := box4 (heap_alloc_last w2 (.cells #[.int .i64 0, .int .i64 0, .slice none 0 0, .pointer none] 60)); have Q2 := hideP (Q1.out.ch HT fun _ _ h => h); clear q1 k1 k2 Q1)
        | (refine Calls.mono (HCC.out (World.drew (World.alloc _ _)) ?_) ?_; (case _ => (repeat' (first | exact B2 | exact B1 | exact Ch.refl _ _ | refine Ch.drewN ?_ _ | refine Ch.drew ?_ | refine Ch.alloc ?_ _)); done); rintro e w1 ⟨a1, c1, rfl, k1, k2, q1⟩; have B1 := k1; have s1 := HS.out w1 k1; have z1 := k1.size; have Q1 := hideP q1; have HXA : Hid (w1.heap[W.heap.size]? = some (.cells #[.int .i64 0, .int .i64 0, .slice none 0 0, .pointer none] 60)) := (by first | exact k2.obj (heap_alloc_last W.drew _) (fun h => h) | exact k2.obj (heap_alloc_last W _) (fun h => h)); clear q1 k1 k2)
        | (refine Calls.mono (HCC.out _ ?_) ?_; (case _ => (repeat' (first | exact B2 | exact B1 | exact Ch.refl _ _ | refine Ch.drewN ?_ _ | refine Ch.drew ?_ | refine Ch.alloc ?_ _)); done); rintro e w1 ⟨a1, c1, rfl, k1, k2, q1⟩; have B1 := k1; have s1 := HS.out w1 k1; have z1 := k1.size; have Q1 := hideP q1; clear q1 k1 k2))
      | (go_at_call 26; first
        | (have B0 := B1; refine Calls.mono (HCW.out _ ?_) ?_; (case _ => (repeat' (first | exact B2 | exact B1 | exact Ch.refl _ _ | refine Ch.drewN ?_ _ | refine Ch.drew ?_ | refine Ch.alloc ?_ _)); done); rintro e w2 ⟨b1, rfl, k1, k2, q1⟩; have B2 := k1; have s2 := HS.out w2 k1; have z2 := k1.size; have R2 := hideP q1; have HT : Ch (fun _ => False) w1 w2 := k2; have HXA2 := hideP (k2.obj HXA.out fun h => h); obtain ⟨_, ⟨f0, f1, f2, f3⟩, fl⟩ := box4 HXA2.out; have Q2 := hideP (HT.row Q1.out fun _ _ h => h); clear q1 k1 k2 Q1)
        | (have B0 := B1; refine Calls.mono (HCW.out (World.alloc _ _) ?_) ?_; (case _ => (repeat' (first | exact B2 | exact B1 | exact Ch.refl _ _ | refine Ch.drewN ?_ _ | refine Ch.drew ?_ | refine Ch.alloc ?_ _)); done); rintro e w2 ⟨b1, rfl, k1, k2, q1⟩; have B2 := k1; have s2 := HS.out w2 k1; have z2 := k1.size; have R2 := hideP q1; have HT : Ch (fun _ => False) w1 w2 := ((Ch.refl _ _).alloc _).trans k2 (fun _ _ h => h); have HXA : Hid (w2.heap[w1.heap.size]? = some (.cells #[.int .i64 0, .int .i64 0, .slice none 0 0, .pointer none] 60)) := k2.obj (heap_alloc_last _ _) fun h => h; obtain ⟨_, ⟨f0, f1, f2, f3⟩, fl⟩ := box4 HXA.out; have Q2 := hideP (HT.row Q1.out fun _ _ h => h); clear q1 k1 k2 Q1)
        | (have B0 := B1; refine Calls.mono (HCW.out _ ?_) ?_; (case _ => (repeat' (first | exact B2 | exact B1 | exact Ch.refl _ _ | refine Ch.drewN ?_ _ | refine Ch.drew ?_ | refine Ch.alloc ?_ _)); done); rintro e w2 ⟨b1, rfl, k1, k2, q1⟩; have B2 := k1; have s2 := HS.out w2 k1; have z2 := k1.size; have R2 := hideP q1; have HT : Ch (fun _ => False) w1 w2 := k2; obtain ⟨_, ⟨f0, f1, f2, f3⟩, fl⟩ := box4 (heap_alloc_last w2 (.cells #[.int .i64 0, .int .i64 0, .slice none 0 0, .pointer none] 60)); have Q2 := hideP (HT.row Q1.out fun _ _ h => h); clear q1 k1 k2 Q1)
        | (refine Calls.mono (HCW.out (World.drew (World.alloc _ _)) ?_) ?_; (case _ => (repeat' (first | exact B2 | exact B1 | exact Ch.refl _ _ | refine Ch.drewN ?_ _ | refine Ch.drew ?_ | refine Ch.alloc ?_ _)); done); rintro e w1 ⟨b1, rfl, k1, k2, q1⟩; have B1 := k1; have s1 := HS.out w1 k1; have z1 := k1.size; have Q1 := hideP q1; have HXA : Hid (w1.heap[W.heap.size]? = some (.cells #[.int .i64 0, .int .i64 0, .slice none 0 0, .pointer none] 60)) := (by first | exact k2.obj (heap_alloc_last W.drew _) (fun h => h) | exact k2.obj (heap_alloc_last W _) (fun h => h)); clear q1 k1 k2)
        | (refine Calls.mono (HCW.out _ ?_) ?_; (case _ => (repeat' (first | exact B2 | exact B1 | exact Ch.refl _ _ | refine Ch.drewN ?_ _ | refine Ch.drew ?_ | refine Ch.alloc ?_ _)); done); rintro e w1 ⟨b1, rfl, k1, k2, q1⟩; have B1 := k1; have s1 := HS.out w1 k1; have z1 := k1.size; have Q1 := hideP q1; clear q1 k1 k2)))
    all_goals go_wp2_with fail
    all_goals go_meet
    · exact ⟨_, rfl, more_f1 B2 Q2.out R2.out (by omega) (Nat.le_refl _)⟩
    · exact ⟨_, rfl, more_f2 (fun b hb => by have := (H.out.low b hb.1).2; have := HZ.out; omega) z1 HXA.out B2 Q2.out R2.out (by rw [World.size_alloc]; omega) (Nat.le_refl _) (.inl (by rw [World.size_alloc]; omega))⟩
    · exact ⟨_, rfl, more_f2 (fun b hb => by have := (H.out.low b hb.1).2; have := HZ.out; omega) (Nat.le_refl _) HXA2.out B2 Q2.out R2.out (by omega) (Nat.le_refl _) (.inl (lt_of_block HXA.out))⟩
  case rest =>
    obtain ⟨N, rfl, HM⟩ := hcut
    obtain ⟨a1, c1, b1, m1, m2, m3, m4, m5⟩ := HM.out
    clear s0 HCC HCW
    obtain ⟨⟨s0, s1, s2, s3⟩, _, sl⟩ := box4 (m3.obj HB1.out fun h => h)
    obtain ⟨⟨n0, n1, n2, n3⟩, ⟨f0, f1, f2, f3⟩, nl⟩ := box4 m1
    have M1 := hideP m1
    have M2 := hideP m2
    have M3 := hideP m3
    have M4 := hideP m4
    have M5 := hideP m5
    clear HM m1 m2 m3 m4 m5
    obtain ⟨gl, rfl⟩ : ∃ gl, al = some ⟨gl, 0, none⟩ := by
      rcases H.out.ls.2 with ⟨e, h0⟩ | ⟨gl, _, _, e, _⟩
      · omega
      · injection e with e _ _
        exact ⟨gl, e⟩
    obtain ⟨S, hS⟩ : ∃ S, S = NL[n] := ⟨_, rfl⟩
    have e1 : w.cell? ⟨k, 1, none⟩ = some (.slice (some ⟨gl, 0, none⟩) NL.length cl) := (box4 H.out.kb).1.2.1
    have e2 : w.cell? ⟨gl, n, none⟩ = some (.string S) := by
      have := H.out.ls.cellAt n (by omega)
      rw [this, List.getElem?_map, List.getElem?_eq_getElem hn, hS]
      rfl
    have HS2 := hideP hS
    have E1 := hideP e1
    have E2 := hideP e2
    have hn0 : (0 : Int) ≤ (n : Int) := by omega
    have hn1 : (n : Int) < (NL.length : Int) := by omega
    have hneN : N ≠ w.heap.size := by have := M2.out; have := HZ.out; omega
    clear e1 e2 hS
    by_cases hfull : La.length = 16
    · have hfi : ((La.length : Int) == 16) = true := by simp [hfull]
      go_upto_region 5 with fail
      obtain ⟨V, hV⟩ : ∃ V, V = (wc.setCell ⟨N, 1, none⟩ (.int .i64 s)).setCell ⟨N, 2, none⟩ (.slice none 0 0) := ⟨_, rfl⟩
      rw [← hV]
      have VC : Hid (Ch (fun _ => False) W V) := by rw [hV]; exact (M3.out.set (fun h => absurd h (by have := M2.out; omega)) _ _).set (fun h => absurd h (by have := M2.out; omega)) _ _
      have VN : Hid (V.heap[N]? = some (.cells #[.int .i64 ((L.length : Int) + 1), .int .i64 s, .slice none 0 0, .pointer (some ⟨b1, 0, none⟩)] 60)) := by
        show V.heap[N]? = _
        rw [hV]
        have := cells_setCell (o := 2) (u := .slice none 0 0) (cells_setCell (o := 1) (u := .int .i64 s) M1.out)
        simpa using this
      have VB : Hid (V.heap[w.heap.size]? = some (.cells #[.int .i64 0, .int .i64 0, .slice none 0 0, .pointer none] 60)) := VC.out.obj HB0.out fun h => h
      have VO : Hid (V.ownsRow W.heap.size 9 1 (.slice none 0 0) 0 []) := World.ownsRow_nil _ _ _ _
      have VP : Hid (PT (fun b => (F b ∧ ro b = 6) ∨ (W.heap.size ≤ b ∧ b < V.heap.size ∧ b ≠ N)) V (.pointer (some ⟨b1, 0, none⟩)) (putF (placeOf NL L) (n + 1) (L.length + 1))) := by
        rw [hV, size_set, size_set]
        exact M5.out.ch (((Ch.refl (fun b => b = N) wc).set (fun _ => rfl) _ _).set (fun _ => rfl) _ _) fun b hb e => by
          rcases hb with hb | hb
          · have := (H.out.low b hb.1).2; have := M2.out; have := HZ.out; omega
          · exact hb.2.2 e
      have x1 : V.drew.cell? ⟨k, 1, none⟩ = some (.slice (some ⟨gl, 0, none⟩) NL.length cl) := VC.out.cell (HC0.out.cell E1.out fun h => h) fun h => h
      have x2 : V.drew.cell? ⟨gl, n, none⟩ = some (.string S) := VC.out.cell (HC0.out.cell E2.out fun h => h) fun h => h
      obtain ⟨⟨v0, v1, v2, v3⟩, ⟨_, _, _, _⟩, nl⟩ := box4 VN.out
      clear hV s0 s1 s2 s3 n0 n1 n2 n3 f0 f1 f2 f3
      go_region_law (refine step_append_at rfl (.tmp 39) (.tmp 48) 28 rfl W.heap.size 9 i0 _ 1 16 Try.underlying28 hi hz0 hz1 hz2 rfl (by decide) _ 0 _ (by first | rfl | simp [Act.eval, Act.put]) ((show V.drew.ownsRow W.heap.size 9 1 (.slice none 0 0) 0 [] from VO.out).alloc _) ⟨V.heap.size, 0, none⟩ 1 1 [.string S] (by first | rfl | simp [Act.eval, Act.put]) rfl (cells_newK _ _ _) (by simp [Value.oneCell']) (by unfold maxLen; omega) (by omega) (by have := VC.out.size; show W.heap.size ≤ (V.alloc _).heap.size; rw [World.size_alloc]; omega) ?_; intro v' V2 hown' hgrow _; obtain ⟨a2, c2, rfl⟩ := row_shape hown'; have GR : Hid ((V.alloc (.cells #[.string S] 9)).grownBy V2 (Value.ownBlock (.slice none 0 0))) := ⟨hgrow.os, hgrow.tape, hgrow.output, hgrow.size, hgrow.block⟩; have HO2 := hideP hown'; obtain ⟨HN2, HW2⟩ := more_grown VO.out VN.out VB.out GR.out; obtain ⟨⟨y0, y1, y2, y3⟩, ⟨g0, g1, g2, g3⟩, yl⟩ := box4 HN2.out; obtain ⟨_, ⟨t0, t1, t2, t3⟩, tl⟩ := box4 HW2.out; clear hown' hgrow)
      all_goals
        go_wp2_with fail
        refine bodyPost_ret (results_cell_row rfl _ _ w.heap.size 60 #[.int .i64 ((L.length : Int) + 1), .int .i64 s, .slice a2 (0 + 1) c2, .pointer (some ⟨b1, 0, none⟩)] (0, 0) _ rfl (set4 ((Below.heap_setCell _ _ _ _ (by show w.heap.size ≠ N; have := M2.out; have := HZ.out; omega)).trans HW2.out)) Try.underlying60 rfl (by kernel_rfl)) rfl ?_
        exact more_end (ys := []) hn HS2.out hd HX.out (Nat.le_refl s) (by rw [List.append_nil]; exact HLs.out) rfl (by omega) HZ.out HC0.out VC.out M2.out VN.out VB.out VO.out VP.out GR.out HO2.out HN2.out HW2.out
    · have hfi : ((La.length : Int) == 16) = false := by simp; omega
      go_upto_region 5 with fail
      obtain ⟨V, hV⟩ : ∃ V, V = wc := ⟨_, rfl⟩
      rw [← hV]
      have VC : Hid (Ch (fun _ => False) W V) := by rw [hV]; exact M3.out
      have VN : Hid (V.heap[N]? = some (.cells #[.int .i64 ((L.length : Int) + 1), .int .i64 A, .slice a1 La.length c1, .pointer (some ⟨b1, 0, none⟩)] 60)) := by rw [hV]; exact M1.out
      have VB : Hid (V.heap[w.heap.size]? = some (.cells #[.int .i64 0, .int .i64 0, .slice none 0 0, .pointer none] 60)) := VC.out.obj HB0.out fun h => h
      have VO : Hid (V.ownsRow W.heap.size 9 1 (.slice a1 La.length c1) La.length (La.map Value.string)) := by rw [hV]; exact M4.out
      have VP : Hid (PT (fun b => (F b ∧ ro b = 6) ∨ (W.heap.size ≤ b ∧ b < V.heap.size ∧ b ≠ N)) V (.pointer (some ⟨b1, 0, none⟩)) (putF (placeOf NL L) (n + 1) (L.length + 1))) := by rw [hV]; exact M5.out
      have x1 : V.drew.cell? ⟨k, 1, none⟩ = some (.slice (some ⟨gl, 0, none⟩) NL.length cl) := VC.out.cell (HC0.out.cell E1.out fun h => h) fun h => h
      have x2 : V.drew.cell? ⟨gl, n, none⟩ = some (.string S) := VC.out.cell (HC0.out.cell E2.out fun h => h) fun h => h
      obtain ⟨⟨v0, v1, v2, v3⟩, ⟨_, _, _, _⟩, nl⟩ := box4 VN.out
      clear hV s0 s1 s2 s3 n0 n1 n2 n3 f0 f1 f2 f3
      go_region_law (refine step_append_at rfl (.tmp 39) (.tmp 48) 28 rfl W.heap.size 9 i0 _ 1 16 Try.underlying28 hi hz0 hz1 hz2 rfl (by decide) _ La.length _ (by first | rfl | simp [Act.eval, Act.put]) ((show V.drew.ownsRow W.heap.size 9 1 (.slice a1 La.length c1) La.length (La.map Value.string) from VO.out).alloc _) ⟨V.heap.size, 0, none⟩ 1 1 [.string S] (by first | rfl | simp [Act.eval, Act.put]) rfl (cells_newK _ _ _) (by simp [Value.oneCell']) (by unfold maxLen; omega) (by omega) (by have := VC.out.size; show W.heap.size ≤ (V.alloc _).heap.size; rw [World.size_alloc]; omega) ?_; intro v' V2 hown' hgrow _; obtain ⟨a2, c2, rfl⟩ := row_shape hown'; have GR : Hid ((V.alloc (.cells #[.string S] 9)).grownBy V2 (Value.ownBlock (.slice a1 La.length c1))) := ⟨hgrow.os, hgrow.tape, hgrow.output, hgrow.size, hgrow.block⟩; have HO2 := hideP hown'; obtain ⟨HN2, HW2⟩ := more_grown VO.out VN.out VB.out GR.out; obtain ⟨⟨y0, y1, y2, y3⟩, ⟨g0, g1, g2, g3⟩, yl⟩ := box4 HN2.out; obtain ⟨_, ⟨t0, t1, t2, t3⟩, tl⟩ := box4 HW2.out; clear hown' hgrow)
      all_goals
        go_wp2_with fail
        refine bodyPost_ret (results_cell_row rfl _ _ w.heap.size 60 #[.int .i64 ((L.length : Int) + 1), .int .i64 A, .slice a2 (La.length + 1) c2, .pointer (some ⟨b1, 0, none⟩)] (0, 0) _ rfl (set4 ((Below.heap_setCell _ _ _ _ (by show w.heap.size ≠ N; have := M2.out; have := HZ.out; omega)).trans HW2.out)) Try.underlying60 rfl (by kernel_rfl)) rfl ?_
        exact more_end (ys := La) hn HS2.out hd HX.out HAs.out HTA.out rfl (by omega) HZ.out HC0.out VC.out M2.out VN.out VB.out VO.out VP.out GR.out HO2.out HN2.out HW2.out
end Go.Proofs.Ytldcfglkcifklaa
