/- Part. -/
import Derived.Test.YtlhmofphpfdjlaaGreatDoorPart20
set_option maxRecDepth 100000
set_option maxHeartbeats 4000000
/- Operations of one rank. -/
namespace Go.Proofs.YtlhmofphpfdjlaaGreatDoor
open Go.Proofs.Tryz
open Go.RowKit
attribute [local go_sem ↓] Go.wp_at_zero Go.wp_at_succ
/-- The world with another content of one block. -/
def withObj (w : World) (b : Nat) (o : Obj) : World := { w with heap := w.heap.setIfInBounds b o }
/-- The expression x, whatever block nb holds. -/
def NdX (lo nb : Nat) (w : World) (x : NV) (D : Ty) : Prop := ∀ o, NdV lo (withObj w nb o) x D
section
variable {w w' : World} {lo nb pb : Nat} {x y : NV} {D : Ty}
theorem withObj_size (o : Obj) : (withObj w nb o).heap.size = w.heap.size := by simp [withObj]
theorem withObj_other (o : Obj) {i : Nat} (hi : i ≠ nb) : (withObj w nb o).heap[i]? = w.heap[i]? := by
  unfold withObj
  simp only [Array.getElem?_setIfInBounds]
  rw [if_neg (fun e => hi e.symm)]
theorem withObj_at (o : Obj) (h : nb < w.heap.size) : (withObj w nb o).heap[nb]? = some o := by
  unfold withObj
  simp [h]
theorem NdX.keep (h : NdX lo nb w x D) (hn : nb < w.heap.size) (hs : w.heap.size <= w'.heap.size) (hk : ∀ b, lo <= b -> b < w.heap.size -> b ≠ nb -> w'.heap[b]? = w.heap[b]?) : NdX lo nb w' x D := fun o =>
  (h o).keep (by rw [withObj_size, withObj_size]; exact hs) fun b hb hl => by
    rw [withObj_size] at hl
    by_cases e : b = nb
    · subst e
      rw [withObj_at o (by omega), withObj_at o hn]
    · rw [withObj_other o e, withObj_other o e]
      exact hk b hb hl e
theorem NdX.now (h : NdX lo nb w x D) (hn : nb < w.heap.size) : NdV lo w x D := by
  obtain ⟨o, ho⟩ : ∃ o, w.heap[nb]? = some o := ⟨_, Array.getElem?_eq_getElem hn⟩
  refine (h o).keep (by rw [withObj_size]; exact Nat.le_refl _) fun b hb hl => ?_
  by_cases e : b = nb
  · subst e
    rw [withObj_at o hn, ho]
  · rw [withObj_other o e]
theorem NdX.stay (h : NdX lo nb w x D) (hn : nb < w.heap.size) (hs : Stay pb w w') (hp : pb < lo) : NdX lo nb w' x D := h.keep hn hs.size fun b hb hl _ => hs.keep b (by omega) hl
theorem NdX.below (h : NdX lo nb w x D) (hn : nb < w.heap.size) (hb : Below w.heap.size w w') : NdX lo nb w' x D := h.keep hn hb.size fun b _ hl _ => hb.block b hl
theorem NdX.alloc (h : NdX lo nb w x D) (hn : nb < w.heap.size) (o : Obj) : NdX lo nb (w.alloc o) x D := h.below hn (bl_alloc _ _)
theorem NdX.put8 (h : NdX lo nb w x D) (hn : nb < w.heap.size) (y : NV) : NdX lo nb (put8 w nb y) x D := h.keep hn (by rw [put8_size]; exact Nat.le_refl _) fun b _ _ e => put8_other e
/-- What was made ahead of the block, or behind it. -/
theorem ndX_old (h : NdV lo w x D) (o : Obj) : NdX lo w.heap.size (w.alloc o) x D := fun o' =>
  h.keep (by rw [withObj_size]; simp) fun b _ hl => (withObj_other o' (by omega)).trans (Below.heap_alloc _ _ _ hl)
theorem ndX_new {lo' : Nat} (h : NdV lo' w x D) (hl : nb < lo') (hlo : lo <= lo') : NdX lo nb w x D := fun o =>
  (h.keep (by rw [withObj_size]; exact Nat.le_refl _) fun b hb _ => withObj_other o (by omega)).lower hlo
theorem op_nodeX {kb : Nat} {t : Tok} {D1 D2 : Ty} (h1 : NdX lo nb w x D1) (h2 : NdX lo nb w y D2) (hn : nb < w.heap.size) (hb : Below w.heap.size w w') (hlo : lo <= kb) (hnk : kb ≠ nb) (hk : w'.heap[kb]? = some (.cells #[.int .i64 x.k, .string x.tx, .int .i64 x.N, .int .i64 x.li, .int .i64 x.co, .slice x.ta x.tl x.tc, .slice x.na x.nl x.nc, .slice x.ka x.kl x.kc, .int .i64 y.k, .string y.tx, .int .i64 y.N, .int .i64 y.li, .int .i64 y.co, .slice y.ta y.tl y.tc, .slice y.na y.nl y.nc, .slice y.ka y.kl y.kc] 27)) :
    NdX lo nb w' (opNV t kb) (mkE 14 t.text 0 t.line t.col [] [] [D1, D2]) := fun o =>
  ndV_two (h1.below hn hb o) (h2.below hn hb o) ((withObj_other o hnk).trans hk) hlo (opNV t kb) [] [] ⟨rfl, rfl⟩ ⟨rfl, Nat.zero_le _, 0, .inl rfl⟩ ⟨rfl, Nat.zero_le _, .inl rfl⟩
end
theorem TextsC.stay {w w1 : World} {xb pb : Nat} {L : List (List UInt8)} (h : TextsC w xb L) (hs : Stay pb w w1) (hp : pb < xb) : TextsC w1 xb L :=
  ⟨Nat.lt_of_lt_of_le h.1 hs.size, fun i hi => (World.cell?_of_block (w := w) (a := ⟨xb, i, none⟩) (hs.keep xb hp h.1)).trans (h.2 i hi)⟩
/-- The eight cells of a box. -/
def Cells8 (W : World) (b : Nat) (x : NV) : Prop := W.cell? ⟨b, 0, none⟩ = some (.int .i64 x.k) /\ W.cell? ⟨b, 1, none⟩ = some (.string x.tx) /\ W.cell? ⟨b, 2, none⟩ = some (.int .i64 x.N) /\ W.cell? ⟨b, 3, none⟩ = some (.int .i64 x.li) /\ W.cell? ⟨b, 4, none⟩ = some (.int .i64 x.co) /\
  W.cell? ⟨b, 5, none⟩ = some (.slice x.ta x.tl x.tc) /\ W.cell? ⟨b, 6, none⟩ = some (.slice x.na x.nl x.nc) /\ W.cell? ⟨b, 7, none⟩ = some (.slice x.ka x.kl x.kc)
def TokB (W : World) (b : Nat) (t : Tok) : Prop := W.cell? ⟨b, 0, none⟩ = some (.int .i64 t.kind) /\ W.cell? ⟨b, 1, none⟩ = some (.string ⟨t.text.toArray⟩) /\ W.cell? ⟨b, 2, none⟩ = some (.int .i64 t.line) /\ W.cell? ⟨b, 3, none⟩ = some (.int .i64 t.col)
theorem tokB {W : World} {b : Nat} {t : Tok} (h : W.heap[b]? = some (.cells #[.int .i64 t.kind, .string ⟨t.text.toArray⟩, .int .i64 t.line, .int .i64 t.col] 98)) : TokB W b t := (res_facts h).1
/-- Where a rank stands behind one more operand. -/
def Rank4 (pb tb cap d nb xb : Nat) (ts : List Tok) (L : List (List UInt8)) (R : Pr Ty) (sub : Nat -> Pr Ty) (m : Nat) (w : World) (x : NV) (D : Ty) (t : Tok) (w4 : World) (y : NV) (D2 : Ty) (b2 : Nat) : Prop :=
  R = leftA ts L sub m (mkE 14 t.text 0 t.line t.col [] [] [D, D2]) b2 /\ Stay pb w w4 /\ Ps w4 pb tb cap ts b2 d /\ w4.heap[nb]? = some x.obj /\ NdX (w.heap.size + 1) nb w4 x D /\ NdX (w.heap.size + 1) nb w4 y D2 /\ w4.heap[w.heap.size]? = some zNV.obj /\ TextsC w4 xb L
/-- The rest of operations of one rank. -/
theorem left_none {ts : List Tok} {L : List (List UInt8)} {sub : Nat -> Pr Ty} {f a : Nat} {x : Ty} (h : (L.any fun s => seesA ts a s) = false) : leftA ts L sub (f + 1) x a = .inl (x, a) := by
  rw [leftA]
  have : L.find? (seesA ts a) = none := List.find?_eq_none.2 fun s hs => by
    have := List.any_eq_false.1 h s hs
    simpa using this
  rw [this]
theorem left_some {ts : List Tok} {L : List (List UInt8)} {sub : Nat -> Pr Ty} {f a : Nat} {x : Ty} (h : (L.any fun s => seesA ts a s) = true) : leftA ts L sub (f + 1) x a = (sub (a + 1)).go fun y b => leftA ts L sub f (mkE 14 (tkA ts a).text 0 (tkA ts a).line (tkA ts a).col [] [] [x, y]) b := by
  rw [leftA]
  obtain ⟨s, hs, h2⟩ := List.any_eq_true.1 h
  have : (L.find? (seesA ts a)).isSome = true := List.find?_isSome.2 ⟨s, hs, h2⟩
  obtain ⟨q, hq⟩ := Option.isSome_iff_exists.1 this
  have hsee := List.find?_some hq
  have hqt : q = (tkA ts a).text := by
    unfold seesA at hsee
    simp only [Bool.and_eq_true, beq_iff_eq] at hsee
    exact hsee.2.symm
  rw [hq, hqt]
  rfl
theorem rank_c (pb tb cap d xb xc : Nat) (ts : List Tok) (L : List (List UInt8)) (hl : L.length <= 100) (g : Nat) (sub : Nat -> Pr Ty) (hg : Reads pb tb cap d ts NdE g sub)
    (a : Nat) (w : World) (h : Ps w pb tb cap ts a d) (hL : TextsC w xb L) (hpx : pb < xb) (ok : ToksOk ts) :
    Calls prog 95 #[.pointer (some ⟨pb, 0, none⟩), .func (.func g) #[] #[], .slice (some ⟨xb, 0, none⟩) L.length xc] w (PPost pb tb cap ts d w NdE ((sub a).go fun x a => leftA ts L sub ts.length x a)) := by
  have H := hideP h
  have OK := hideP ok
  have HG := hideP hg
  have HL := hideP hL
  have hen := hg.enters
  have hp := h.ltp
  obtain ⟨R, hR⟩ : ∃ R, R = ((sub a).go fun x a => leftA ts L sub ts.length x a) := ⟨_, rfl⟩
  rw [<- hR]
  have HRr := hideP hR
  clear h ok hg hL hR
  go_enter func95, ntmps95
  go_wp2_with fail
  refine (HG.out.calls a _ (H.out.alloc _)).mono ?_
  rintro e w1 ⟨hst, hpost⟩
  have HST := hideP ((Stay.of hp (bl_alloc _ _)).trans hst)
  have HST' := hideP hst
  have HR := hideP ((hst.keep _ hp (by simp)).trans (heap_alloc_last w zNV.obj))
  clear hst
  rcases hs : sub a with ⟨D, b⟩ | ⟨er, li, co⟩
  case inr =>
    rw [hs] at hpost
    have HE : Hid (R = .inr (er, li, co)) := by show _ = _; simp only [HRr.out, hs, pr_inr]
    subst hpost
    clear hs
    go_wp2_with fail
    exact ⟨rfl, HST.out, by rw [HE.out]⟩
  rw [hs] at hpost
  obtain ⟨hps, v, rfl, x, rfl, hv⟩ := hpost
  have HRA : Hid (R = leftA ts L sub ts.length D b) := by show _ = _; simp only [HRr.out, hs, pr_inl]
  have HP := hideP hps
  have HT := hideP hv
  have HU := hideP (HG.out.up _ _ _ hs)
  clear hps hv hs HRr
  obtain ⟨nb, hnb⟩ : ∃ nb, nb = w1.heap.size := ⟨_, rfl⟩
  have HNb := hideP hnb
  have hb0 : w.heap.size < nb := by rw [hnb]; exact lt_of_block HR.out
  have HX0 : Hid (NdX (w.heap.size + 1) nb (w1.alloc x.obj) x D) := by rw [hnb]; exact ndX_old (by simpa using HT.out) _
  have HN0 : Hid ((w1.alloc x.obj).heap[nb]? = some x.obj) := by rw [hnb]; exact heap_alloc_last _ _
  have HTx : Hid (TextsC (w1.alloc x.obj) xb L) := by
    have h1 := (HL.out.below (bl_alloc w zNV.obj)).stay HST'.out hpx
    exact h1.below (bl_alloc _ _)
  go_wp2_with fail
  rw [<- hnb]
  clear hnb
  go_loopg [8] (ts.length - b) (fun gk _ wr => ∃ (b m : Nat) (x : NV) (D : Ty), Hid (wr.heap[nb]? = some x.obj) /\ Hid (NdX (w.heap.size + 1) nb wr x D) /\ Hid (Stay pb w wr) /\ Hid (Ps wr pb tb cap ts b d) /\ Hid (wr.heap[w.heap.size]? = some zNV.obj) /\ Hid (TextsC wr xb L) /\ Hid (R = leftA ts L sub m D b) /\ Hid (ts.length <= b + m) /\ ts.length - b <= gk)
  case atStart => exact ⟨b, ts.length, x, D, HN0, HX0, HST.out.alloc hp _, HP.out.alloc _, (Below.heap_alloc _ _ _ (lt_of_block HR.out)).trans HR.out, HTx, HRA, Nat.le_add_left _ _, Nat.le_refl _⟩
  case round =>
    clear HX0 HN0 HTx HP HT HU HRA HST HR HST' HNb
    obtain ⟨b, m, x, D, HN, HX, HSt, HPs, HR, HTx, HRA, HLe, hgk⟩ := hrel
    have HI := hideP (is_r pb tb cap b xb xc ts L wr HPs.out.rd HTx.out hl)
    obtain ⟨m, rfl⟩ : ∃ q, m = q + 1 := ⟨m - 1, by have := HLe.out; have := HPs.out.lt; omega⟩
    cases hs : L.any fun s => seesA ts b s with
    | false =>
      have HE := hideP (HRA.out.trans (left_none hs))
      rw [hs] at HI
      clear hs
      go_wp2_with fail
      refine HI.out.mono ?_
      rintro e w2 ⟨rfl, hb2⟩
      have HST2 := hideP (HSt.out.trans (Stay.of HPs.out.ltp hb2))
      have HPS2 := hideP (HPs.out.below hb2)
      have HX2 := hideP (HX.out.below (lt_of_block HN.out) hb2)
      have HR2 := hideP ((hb2.block _ (lt_of_block HR.out)).trans HR.out)
      have HN2 := hideP ((hb2.block _ (lt_of_block HN.out)).trans HN.out)
      obtain ⟨⟨r0, r1, r2, r3, r4, r5, r6, r7⟩, ⟨f0, f1, f2, f3, f4, f5, f6, f7⟩, hr1⟩ := box8 HR2.out
      obtain ⟨⟨n0, n1, n2, n3, n4, n5, n6, n7⟩, _, hn1⟩ := box8 HN2.out
      have hne : ¬ nb = w.heap.size := by omega
      clear hb2
      go_wp2_with fail
      rw [HE.out]
      refine bodyPost_ret (results_cell_row rfl _ _ w.heap.size 27 _ (0, 0) _ rfl (put8_heap (x := x) HR2.out) underlying27 rfl (by kernel_rfl)) rfl ⟨stay_put8 HST2.out hp (Nat.le_refl _) x, ps_put8 HPS2.out hp x, _, rfl, x, rfl, ?_⟩
      exact ((HX2.out.now hn1).put8 (Nat.lt_succ_self _) x).lower (Nat.le_succ _)
    | true =>
      have HRB := hideP (HRA.out.trans (left_some hs))
      have hsee : ∃ s, seesA ts b s = true := by
        obtain ⟨s, _, h2⟩ := List.any_eq_true.1 hs
        exact ⟨s, h2⟩
      have HNx : Hid (b + 1 < ts.length) := by
        obtain ⟨s, h2⟩ := hsee
        exact sees_next OK.out.ends HPs.out.lt h2
      rw [hs] at HI
      clear hs hsee
      obtain ⟨t, ht⟩ : ∃ t, t = tkA ts b := ⟨_, rfl⟩
      rw [<- ht] at HRB
      go_wp2_with fail
      refine HI.out.mono ?_
      rintro e w2 ⟨rfl, hb2⟩
      have HST2 := hideP (HSt.out.trans (Stay.of HPs.out.ltp hb2))
      have HPS2 := hideP (HPs.out.below hb2)
      have HX2 := hideP (HX.out.below (lt_of_block HN.out) hb2)
      have HR2 := hideP ((hb2.block _ (lt_of_block HR.out)).trans HR.out)
      have HN2 := hideP ((hb2.block _ (lt_of_block HN.out)).trans HN.out)
      have HT2 := hideP (HTx.out.below hb2)
      clear hb2
      go_wp2_with fail
      refine (pass_c pb tb cap b d ts _ HPS2.out HNx.out OK.out.len).mono ?_
      rw [<- ht]
      rintro e w3 ⟨rfl, hst, hps⟩
      have HPs3 : Hid (pb < w3.heap.size) := hps.ltp
      have HST3 := hideP ((HST2.out.trans hst).alloc hp (.cells #[.int .i64 t.kind, .string ⟨t.text.toArray⟩, .int .i64 t.line, .int .i64 t.col] 98))
      have HPS3 := hideP (hps.alloc (.cells #[.int .i64 t.kind, .string ⟨t.text.toArray⟩, .int .i64 t.line, .int .i64 t.col] 98))
      have HX3 := hideP ((HX2.out.stay (lt_of_block HN2.out) hst (by omega)).alloc (Nat.lt_of_lt_of_le (lt_of_block HN2.out) hst.size) (.cells #[.int .i64 t.kind, .string ⟨t.text.toArray⟩, .int .i64 t.line, .int .i64 t.col] 98))
      have HR3 := hideP ((Below.heap_alloc w3 (.cells #[.int .i64 t.kind, .string ⟨t.text.toArray⟩, .int .i64 t.line, .int .i64 t.col] 98) _ (Nat.lt_of_lt_of_le (lt_of_block HR2.out) hst.size)).trans ((hst.keep _ hp (lt_of_block HR2.out)).trans HR2.out))
      have HN3 := hideP ((Below.heap_alloc w3 (.cells #[.int .i64 t.kind, .string ⟨t.text.toArray⟩, .int .i64 t.line, .int .i64 t.col] 98) _ (Nat.lt_of_lt_of_le (lt_of_block HN2.out) hst.size)).trans ((hst.keep _ (by omega) (lt_of_block HN2.out)).trans HN2.out))
      have HT3 := hideP ((HT2.out.stay hst hpx).below (bl_alloc _ (.cells #[.int .i64 t.kind, .string ⟨t.text.toArray⟩, .int .i64 t.line, .int .i64 t.col] 98)))
      have HCw := hideP (box8 ((hst.keep _ (by omega) (lt_of_block HN2.out)).trans HN2.out)).1
      have HLw := hideP (Nat.lt_of_lt_of_le (lt_of_block HN2.out) hst.size)
      have HTb := hideP (heap_alloc_last w3 (.cells #[.int .i64 t.kind, .string ⟨t.text.toArray⟩, .int .i64 t.line, .int .i64 t.col] 98))
      clear hst hps ht
      have HC : Hid (Calls prog g #[.pointer (some ⟨pb, 0, none⟩)] (w3.alloc (.cells #[.int .i64 t.kind, .string ⟨t.text.toArray⟩, .int .i64 t.line, .int .i64 t.col] 98)).drew fun e w4 => (∃ chain, e = .panicked chain /\ PPost pb tb cap ts d w NdE R e w4) ∨
          ∃ (y : NV) (D2 : Ty) (b2 : Nat), e = .returned y.val /\ Cells8 w4 nb x /\ TokB w4 w3.heap.size t /\ Hid (Rank4 pb tb cap d nb xb ts L R sub m w x D t w4 y D2 b2 /\ b + 1 <= b2)) := by
        refine (HG.out.calls (b + 1) _ HPS3.out.drew).mono ?_
        rintro e w4 ⟨hst', hpost⟩
        have hst := hst'.undrew
        have hst4 := HST3.out.trans hst
        rcases hk : sub (b + 1) with ⟨D2, b2⟩ | ⟨er, li, co⟩
        · rw [hk] at hpost
          obtain ⟨hps, v, rfl, y, rfl, hv⟩ := hpost
          have hn4 := (hst.keep nb (by omega) (lt_of_block HN3.out)).trans HN3.out
          refine .inr ⟨y, D2, b2, rfl, (box8 hn4).1, tokB ((hst.keep w3.heap.size (by have := HPS2.out.ltp; have := HPs3.out; omega) (lt_of_block HTb.out)).trans HTb.out), ⟨by rw [HRB.out, hk]; rfl, hst4, hps, hn4, HX3.out.stay (lt_of_block HN3.out) hst (by omega), ndX_new hv (lt_of_block HN3.out) (lt_of_block HR3.out), (hst.keep _ hp (lt_of_block HR3.out)).trans HR3.out, HT3.out.stay hst hpx⟩, HG.out.up _ _ _ hk⟩
        · rw [hk] at hpost
          subst hpost
          exact .inl ⟨_, rfl, hst4, by rw [HRB.out, hk]; rfl⟩
      have HC2 : Hid (∀ (w4 : World) (y : NV) (D2 : Ty) (b2 : Nat), Hid (Rank4 pb tb cap d nb xb ts L R sub m w x D t w4 y D2 b2 /\ b + 1 <= b2) -> Calls prog 115 #[tokV t, x.val, y.val] w4 fun e w5 => ∃ kb, e = .returned (opNV t kb).val /\ Box8 w5 nb x /\ Hid ((put8 w5 nb (opNV t kb)).heap[nb]? = some (opNV t kb).obj /\ NdX (w.heap.size + 1) nb (put8 w5 nb (opNV t kb)) (opNV t kb) (mkE 14 t.text 0 t.line t.col [] [] [D, D2]) /\ Stay pb w (put8 w5 nb (opNV t kb)) /\ Ps (put8 w5 nb (opNV t kb)) pb tb cap ts b2 d /\ (put8 w5 nb (opNV t kb)).heap[w.heap.size]? = some zNV.obj /\ TextsC (put8 w5 nb (opNV t kb)) xb L /\ R = leftA ts L sub m (mkE 14 t.text 0 t.line t.col [] [] [D, D2]) b2 /\ b + 1 <= b2)) := by
        intro w4 y D2 b2 hh
        obtain ⟨⟨q1, q2, q3, q4, q5, q6, q7, q8⟩, q9⟩ := hh.out
        refine (operation_c t x y w4).mono ?_
        rintro e w5 ⟨kb, rfl, hb, hkb, hk⟩
        have hn5 := (hb.block nb (lt_of_block q4)).trans q4
        have hnb4 := lt_of_block q4
        have hx5 := op_nodeX (t := t) q5 q6 hnb4 hb (by omega) (by omega) hk
        refine ⟨kb, rfl, box8 hn5, put8_heap hn5, hx5.put8 (lt_of_block hn5) _, stay_put8 (q2.trans (Stay.of q3.ltp hb)) hp (by omega) _, ps_put8 (q3.below hb) (by omega) _, ?_, ?_, q1, q9⟩
        · exact (put8_other (by omega)).trans ((hb.block _ (lt_of_block q7)).trans q7)
        · have h8 := q8.below hb
          exact ⟨by rw [put8_size]; exact h8.1, fun i hi => (World.cell?_of_block (w := w5) (a := ⟨xb, i, none⟩) (put8_other (by have := HL.out.1; show xb ≠ nb; omega))).trans (h8.2 i hi)⟩
      obtain ⟨m0, m1, m2, m3, m4, m5, m6, m7⟩ := HCw.out
      have hlw3 := HLw.out
      go_wp2_with fail
      go_region_with (first
        | (go_at_call 115; refine (HC2.out _ _ _ _ HX4).mono ?_; rintro e w5 ⟨kb, rfl, t8, HX5⟩; obtain ⟨⟨p0, p1, p2, p3, p4, p5, p6, p7⟩, ⟨f0, f1, f2, f3, f4, f5, f6, f7⟩, hl5⟩ := t8)
        | (refine HC.out.mono ?_; rintro e w4 (⟨ch, rfl, hf⟩ | ⟨y, D2, b2, rfl, t5, t6, HX4⟩); exact ⟨rfl, hf⟩; unfold Cells8 at t5; unfold TokB at t6; obtain ⟨n0, n1, n2, n3, n4, n5, n6, n7⟩ := t5; obtain ⟨k0, k1, k2, k3⟩ := t6))
      all_goals
        go_wp2_with fail
        obtain ⟨g1, g2, g3, g4, g5, g6, g7, g8⟩ := HX5.out
        go_roundg (ts.length - b2)
        case measure => have := g4.lt; omega
        case rel => exact ⟨b2, m, opNV t kb, _, g1, g2, g3, g4, g5, g6, g7, (by have := HLe.out; show _ <= _; omega), Nat.le_refl _⟩
end Go.Proofs.YtlhmofphpfdjlaaGreatDoor
