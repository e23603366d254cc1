/- Part of the proof of ParseTypes: the texts that follow, in build order. -/
import Derived.Test.YtfjlkkohccihnabGreatDoorPart23
import Derived.Test.YtfjlkkohccihnabGreatDoorPart10

/- The reference's parser of types: prim. -/
namespace Go.Proofs.YtfjlkkohccihnabGreatDoor
open Go.RowKit
attribute [local go_sem ↓] Go.wp_at_zero Go.wp_at_succ

/-- prim, behind the words. -/
def primC (ts : List Tok) (K : Nat → Pr Ty) (f a : Nat) : Pr Ty :=
  if seesA ts a [40] then (K (a + 1)).go fun t a => (wantA ts a [41]).go fun _ a => .inl (t, a)
  else if seesA ts a [123] then
    if seesA ts (a + 1) [125] then .inl (mkT 5 [] [] [], a + 2)
    else (manyA ts (fieldA ts K) [44] f (a + 1)).go fun l a => (wantA ts a [125]).go fun _ a => .inl (mkT 5 [] (l.map (·.1)) (l.map (·.2)), a)
  else (nameA ts a).go fun s a => .inl (mkT 8 s [] [], a)
theorem rprim_word {ts : List Tok} {K : Nat → Pr Ty} {f : Nat} {S : Sta} {j : Nat} (hj : j < 5) (h0 : ∀ i : Nat, i < j → seesS ts S (baseV i) = false) (h : seesS ts S (baseV j) = true) : ∃ a, S = .inl a ∧ liftS (primA ts K f) S = .inl (mkT j [] [] [], a + 1) := by
  cases S with
  | inr p => cases h
  | inl a =>
    refine ⟨a, rfl, ?_⟩
    show primA ts K f a = _
    unfold primA
    have h1 : ∀ i : Nat, i < j → seesA ts a (baseV i) = false := h0
    have h2 : seesA ts a (baseV j) = true := h
    match j, hj with
    | 0, _ => rw [if_pos (show seesA ts a (baseV 0) = true from h2)]; rfl
    | 1, _ => rw [if_neg (by rw [show baseV 0 = baseV ((0 : Nat) : Int) from rfl, h1 0 (by omega)]; simp), if_pos (show seesA ts a (baseV 1) = true from h2)]; rfl
    | 2, _ => rw [if_neg (by rw [show baseV 0 = baseV ((0 : Nat) : Int) from rfl, h1 0 (by omega)]; simp), if_neg (by rw [show baseV 1 = baseV ((1 : Nat) : Int) from rfl, h1 1 (by omega)]; simp), if_pos (show seesA ts a (baseV 2) = true from h2)]; rfl
    | 3, _ => rw [if_neg (by rw [show baseV 0 = baseV ((0 : Nat) : Int) from rfl, h1 0 (by omega)]; simp), if_neg (by rw [show baseV 1 = baseV ((1 : Nat) : Int) from rfl, h1 1 (by omega)]; simp), if_neg (by rw [show baseV 2 = baseV ((2 : Nat) : Int) from rfl, h1 2 (by omega)]; simp), if_pos (show seesA ts a (baseV 3) = true from h2)]; rfl
    | 4, _ => rw [if_neg (by rw [show baseV 0 = baseV ((0 : Nat) : Int) from rfl, h1 0 (by omega)]; simp), if_neg (by rw [show baseV 1 = baseV ((1 : Nat) : Int) from rfl, h1 1 (by omega)]; simp), if_neg (by rw [show baseV 2 = baseV ((2 : Nat) : Int) from rfl, h1 2 (by omega)]; simp), if_neg (by rw [show baseV 3 = baseV ((3 : Nat) : Int) from rfl, h1 3 (by omega)]; simp), if_pos (show seesA ts a (baseV 4) = true from h2)]; rfl
theorem rprim_rest {ts : List Tok} {K : Nat → Pr Ty} {f : Nat} {S : Sta} (h0 : ∀ i : Nat, i < 5 → seesS ts S (baseV i) = false) : liftS (primA ts K f) S = liftS (primC ts K f) S := by
  cases S with
  | inr p => rfl
  | inl a =>
    have h1 : ∀ i : Nat, i < 5 → seesA ts a (baseV i) = false := h0
    show primA ts K f a = primC ts K f a
    unfold primA primC
    rw [if_neg (by rw [show baseV 0 = baseV ((0 : Nat) : Int) from rfl, h1 0 (by omega)]; simp), if_neg (by rw [show baseV 1 = baseV ((1 : Nat) : Int) from rfl, h1 1 (by omega)]; simp), if_neg (by rw [show baseV 2 = baseV ((2 : Nat) : Int) from rfl, h1 2 (by omega)]; simp), if_neg (by rw [show baseV 3 = baseV ((3 : Nat) : Int) from rfl, h1 3 (by omega)]; simp), if_neg (by rw [show baseV 4 = baseV ((4 : Nat) : Int) from rfl, h1 4 (by omega)]; simp)]

abbrev baseO : Obj := .cells #[.string ⟨#[97, 110, 121]⟩, .string ⟨#[110, 117, 108, 108]⟩, .string ⟨#[98, 111, 111, 108]⟩, .string ⟨#[105, 110, 116]⟩, .string ⟨#[115, 116, 114]⟩] 9
theorem base_cell {w : World} {b i : Nat} (h : w.heap[b]? = some baseO) (hi : i < 5) : w.cell? ⟨b, i, none⟩ = some (.string ⟨(baseV i).toArray⟩) := by
  rw [cell_of_row _ _ _ _ _ _ h]
  match i, hi with
  | 0, _ | 1, _ | 2, _ | 3, _ | 4, _ => rfl

section
variable {pb tb cap d b c m : Nat} {ts : List Tok} {w0 w w4 : World} {S : Sta} {bx : List (Nat × Obj)} {o : Option Nat} {K : Nat → Pr Ty}
theorem RX.grown (h : RX pb tb cap ts w0 w d S bx) (hg : w.grownBy w4 o) (hB : ∀ q, o = some q → w0.heap.size ≤ q) (hbx : ∀ p ∈ bx, ∀ q, o = some q → q ≠ p.1) : RX pb tb cap ts w0 w4 d S bx := by
  have hp := h.hp
  refine ⟨h.st.grown hg h.hp hB, ?_, h.hp, fun p hpx => ?_⟩
  · obtain ⟨a, ha⟩ := h.at_
    exact ⟨a, (hg.block _ ha.ltp (fun e => by have := hB _ e.symm; omega)).trans ha.blk, ha.lt, ha.live, ha.bad, ha.tlt, toksC_keep ha.toks (hg.block _ (Nat.lt_trans ha.tlt ha.ltp) (fun e => by have := hB _ e.symm; have := ha.tlt; omega))⟩
  · exact ⟨(hg.block _ (lt_of_block (h.box hpx)) (fun e => hbx p hpx _ e.symm rfl)).trans (h.box hpx), (h.has p hpx).2⟩
theorem RX.perm {bx' : List (Nat × Obj)} (h : RX pb tb cap ts w0 w d S bx) (hs : ∀ p ∈ bx', p ∈ bx) : RX pb tb cap ts w0 w d S bx' := ⟨h.st, h.at_, h.hp, fun p hp => h.has p (hs p hp)⟩
theorem RX.put2 {k : Int} {nm : ByteArray} {na ka na' : Option Addr} {nl nc kl kc nl' nc' : Nat} (h : RX pb tb cap ts w0 w d S ((b, tyO k nm na nl nc ka kl kc) :: bx)) (hbx : ∀ p ∈ bx, p.1 ≠ b) : RX pb tb cap ts w0 (w.setCell ⟨b, 2, none⟩ (.slice na' nl' nc')) d S ((b, tyO k nm na' nl' nc' ka kl kc) :: bx) := by
  have hb := (h.has _ (List.mem_cons_self)).2
  have hp := h.hp
  refine ⟨h.st.own hp hb 2 _, h.at_.other (Nat.lt_of_lt_of_le hp hb) 2 _, hp, fun p hpx => ?_⟩
  rcases List.mem_cons.1 hpx with rfl | hpx
  · exact ⟨cells_setCell (h.box (List.mem_cons_self)), hb⟩
  · exact ⟨(Below.heap_setCell _ _ _ _ (hbx p hpx)).trans (h.box (List.mem_cons_of_mem _ hpx)), (h.has p (List.mem_cons_of_mem _ hpx)).2⟩
theorem RX.put3 {k : Int} {nm : ByteArray} {na ka ka' : Option Addr} {nl nc kl kc kl' kc' : Nat} (h : RX pb tb cap ts w0 w d S ((b, tyO k nm na nl nc ka kl kc) :: bx)) (hbx : ∀ p ∈ bx, p.1 ≠ b) : RX pb tb cap ts w0 (w.setCell ⟨b, 3, none⟩ (.slice ka' kl' kc')) d S ((b, tyO k nm na nl nc ka' kl' kc') :: bx) := by
  have hb := (h.has _ (List.mem_cons_self)).2
  have hp := h.hp
  refine ⟨h.st.own hp hb 3 _, h.at_.other (Nat.lt_of_lt_of_le hp hb) 3 _, hp, fun p hpx => ?_⟩
  rcases List.mem_cons.1 hpx with rfl | hpx
  · exact ⟨cells_setCell (h.box (List.mem_cons_self)), hb⟩
  · exact ⟨(Below.heap_setCell _ _ _ _ (hbx p hpx)).trans (h.box (List.mem_cons_of_mem _ hpx)), (h.has p (List.mem_cons_of_mem _ hpx)).2⟩

/-- A field's type, read behind its name and its colon. -/
def fldR (ts : List Tok) (K : Nat → Pr Ty) (c : Nat) : Pr Ty := liftS K (stP (liftS (fun a => wantA ts a [58]) (stP (nameA ts c))))
theorem fld_eq : fieldA ts K c = (fldR ts K c).go fun t b => .inl ((nmP (nameA ts c), t), b) := by
  unfold fieldA fldR
  cases nameA ts c with
  | inr e => rfl
  | inl q =>
    obtain ⟨s, b⟩ := q
    show (wantA ts b [58]).go _ = (liftS K (stP (wantA ts b [58]))).go _
    cases wantA ts b [58] with
    | inr e => rfl
    | inl q => rfl
theorem fld_up (hu : ∀ a x b, K a = .inl (x, b) → a ≤ b) {t : Ty} (h : fldR ts K c = .inl (t, b)) : c ≤ b := by
  unfold fldR at h
  cases h1 : nameA ts c with
  | inr e => rw [h1] at h; cases h
  | inl q =>
    obtain ⟨s, b1⟩ := q
    rw [h1] at h
    have u1 := name_up h1
    replace h : liftS K (stP (wantA ts b1 [58])) = .inl (t, b) := h
    cases h2 : wantA ts b1 [58] with
    | inr e => rw [h2] at h; cases h
    | inl q =>
      obtain ⟨s2, b2⟩ := q
      rw [h2] at h
      have u2 := want_up h2
      have := hu _ _ _ h
      omega
theorem fld_txt (ok : ToksOk ts) {x : List UInt8 × Ty} (h : fieldA ts K c = .inl (x, b)) : x.1.length ≤ 70000 := by
  rw [fld_eq] at h
  unfold fldR at h
  cases h1 : nameA ts c with
  | inr e => rw [h1] at h; cases h
  | inl q =>
    rw [h1] at h
    have hn : q.1.length ≤ 70000 := by
      unfold nameA at h1
      split at h1
      · injection h1 with h1; rw [← h1]; exact ok.txt c
      · cases h1
    cases h2 : liftS K (stP (liftS (fun a => wantA ts a [58]) (stP (Sum.inl q : Pr (List UInt8))))) with
    | inr e => rw [h2] at h; cases h
    | inl z =>
      rw [h2] at h
      injection h with h
      injection h with h _
      rw [← h]
      exact hn
/-- The head of the list of fields: these are read, and it goes on at c. -/
def FldAt (ts : List Tok) (K : Nat → Pr Ty) (Rm : Pr (List (List UInt8 × Ty))) (acc : List (List UInt8 × Ty)) (m c : Nat) : Prop :=
  Rm = (manyA ts (fieldA ts K) [44] m c).go fun l b => .inl (acc ++ l, b)
theorem fld_start : FldAt ts K (manyA ts (fieldA ts K) [44] m c) [] m c := by
  unfold FldAt
  cases manyA ts (fieldA ts K) [44] m c <;> rfl
theorem fld_next {Rm : Pr (List (List UInt8 × Ty))} {acc : List (List UInt8 × Ty)} (h : FldAt ts K Rm acc (m + 1) c) (hs : seesS ts (stP (fldR ts K c)) [44] = true) : ∃ t b, fldR ts K c = .inl (t, b) ∧ FldAt ts K Rm (acc ++ [(nmP (nameA ts c), t)]) m (b + 1) := by
  unfold FldAt at h ⊢
  rw [manyA, fld_eq] at h
  cases hR : fldR ts K c with
  | inr e => rw [hR] at hs; cases hs
  | inl q =>
    obtain ⟨t, b⟩ := q
    rw [hR] at hs h
    refine ⟨t, b, rfl, ?_⟩
    rw [h]
    show Pr.go (if seesA ts b [44] then _ else _) _ = _
    rw [if_pos (show seesA ts b [44] = true from hs)]
    cases manyA ts (fieldA ts K) [44] m (b + 1) with
    | inr e => rfl
    | inl q =>
      show Sum.inl (acc ++ (_ :: q.1), q.2) = Sum.inl ((acc ++ [_]) ++ q.1, q.2)
      simp
theorem fld_end {Rm : Pr (List (List UInt8 × Ty))} {acc : List (List UInt8 × Ty)} (h : FldAt ts K Rm acc (m + 1) c) (hs : seesS ts (stP (fldR ts K c)) [44] = false) : (∃ t b, fldR ts K c = .inl (t, b) ∧ Rm = .inl (acc ++ [(nmP (nameA ts c), t)], b)) ∨ ∃ e, fldR ts K c = .inr e ∧ Rm = .inr e := by
  unfold FldAt at h
  rw [manyA, fld_eq] at h
  cases hR : fldR ts K c with
  | inr e => rw [hR] at h; exact .inr ⟨e, rfl, h⟩
  | inl q =>
    obtain ⟨t, b⟩ := q
    rw [hR] at hs h
    refine .inl ⟨t, b, rfl, ?_⟩
    rw [h]
    show Pr.go (if seesA ts b [44] then _ else _) _ = _
    rw [if_neg (by rw [show seesA ts b [44] = false from hs]; simp)]
    rfl
end
theorem setStay (w : World) (b o : Nat) (v : Value) : Stay b w (w.setCell ⟨b, o, none⟩ v) := (Stay.refl b w).set o v

set_option maxRecDepth 100000 in
set_option maxHeartbeats 4000000 in
theorem rprim_c (pb tb cap d : Nat) (ts : List Tok) (ok : ToksOk ts) (K : Nat → Pr Ty) (f : Nat) (hf : ts.length ≤ f + 1) (hu : ∀ a x b, K a = .inl (x, b) → a ≤ b)
    (hK : ∀ S w, RAt w pb tb cap ts d S → Calls Tryz.prog 31 #[.pointer (some ⟨pb, 0, none⟩)] w (RTy pb tb cap ts d w (liftS K S)))
    (S : Sta) (w : World) (h : RAt w pb tb cap ts d S) :
    Calls Tryz.prog 123 #[.pointer (some ⟨pb, 0, none⟩)] w (RTy pb tb cap ts d w (liftS (primA ts K (f + 1)) S)) := by
  obtain ⟨R, hR⟩ : ∃ R, R = liftS (primA ts K (f + 1)) S := ⟨_, rfl⟩
  rw [← hR]
  have HR := hideP hR
  have HK := hideP hK
  have HU := hideP hu
  have OK := hideP ok
  have X0 := hideP (rx_init h zTyO)
  have X1 := hideP (X0.out.alloc baseO)
  clear h hK ok hR hu X0
  go_enter Tryz.func123, Tryz.ntmps123
  go_wp2_with fail
  have hp := X1.out.hp
  have X1' : Hid (RX pb tb cap ts w ((w.alloc zTyO).alloc baseO) d S [(w.heap.size + 1, baseO), (w.heap.size, zTyO)]) := by
    have := X1.out
    rw [World.size_alloc] at this
    exact this
  clear X1
  go_loopw [4] (fun i wr => ∃ j : Nat, j ≤ 5 ∧ i = .int .i64 j ∧ Hid (RX pb tb cap ts w wr d S [(w.heap.size + 1, baseO), (w.heap.size, zTyO)]) ∧ Hid (∀ i : Nat, i < j → seesS ts S (baseV i) = false)) (fun i _ => 5 - (intOf i).toNat)
  case atStart => exact ⟨0, by omega, rfl, X1', fun i hi => by omega⟩
  case round =>
    clear X1'
    obtain ⟨j, hj, rfl, X, HN⟩ := hrel
    by_cases hj5 : j < 5
    · have hj5' : (j : Int) < 5 := by omega
      have hbc := base_cell (X.out.box (p := (w.heap.size + 1, baseO)) (by simp)) hj5
      obtain ⟨Bj, hBj⟩ : ∃ Bj : ByteArray, Bj = ⟨(baseV (j : Int)).toArray⟩ := ⟨_, rfl⟩
      have HC := hideP (rtake_c pb tb cap d ts S (baseV (j : Int)) _ X.out.at_ OK.out)
      rw [← hBj] at hbc HC
      clear hBj
      go_wp2_with fail
      refine HC.out.mono ?_
      rintro e w2 ⟨rfl, hst, hat⟩
      have X2 := hideP (X.out.step hst hat)
      clear hst hat HC hbc X
      cases hs : seesS ts S (baseV (j : Int)) with
      | true =>
        rw [hs, if_pos rfl] at X2
        obtain ⟨a, rfl, hRa⟩ := rprim_word (K := K) (f := f + 1) hj5 HN.out hs
        have HRa : Hid (R = .inl (mkT j [] [] [], a + 1)) := by rw [HR.out]; exact hRa
        clear hs hRa
        obtain ⟨⟨r0, r1, r2, r3⟩, ⟨f0, f1, f2, f3⟩, hrl⟩ := res_facts (X2.out.box (p := (w.heap.size, zTyO)) (by simp))
        go_wp2_with fail
        refine bodyPost_ret (results_cell_row rfl _ _ w.heap.size 36 _ (0, 0) _ rfl (set4 (X2.out.box (p := (w.heap.size, zTyO)) (by simp)) _ _ _ _) Tryz.underlying36 rfl (by kernel_rfl)) rfl ⟨stay_set4 X2.out.st hp (Nat.le_refl _) _ _ _ _, ?_, j, ⟨#[]⟩, none, 0, 0, none, 0, 0, rfl, ?_⟩
        · rw [HRa.out]
          exact X2.out.at_.set4 hp _ _ _ _
        · intro y c ey
          rw [HRa.out] at ey
          injection ey with ey
          injection ey with ey _
          rw [← ey]
          exact tyE_leaf _ _ _ _ (by match j, hj5 with | 0, _ | 1, _ | 2, _ | 3, _ | 4, _ => rfl) (by decide)
      | false =>
        rw [hs, if_neg (by simp)] at X2
        have HN2 : Hid (∀ i : Nat, i < j + 1 → seesS ts S (baseV i) = false) := fun i hi => by
          by_cases e : i = j
          · rw [e]; exact hs
          · exact HN.out i (by omega)
        clear hs
        go_wp2_with fail
        go_roundw
        case rel => exact ⟨j + 1, by omega, by go_num, X2, HN2⟩
        case measure => simp [intOf]; omega
    · have hj5' : ¬ (j : Int) < 5 := by omega
      have HRr : Hid (R = liftS (primC ts K (f + 1)) S) := by rw [HR.out]; exact rprim_rest fun i hi => HN.out i (by omega)
      clear HN
      go_wp2_with fail
      refine (rtake_c pb tb cap d ts S [40] _ X.out.at_ OK.out).mono ?_
      rintro e w2 ⟨rfl, hst, hat⟩
      have X2 := hideP (X.out.step hst hat)
      clear hst hat X
      cases hs : seesS ts S [40] with
      | true =>
        rw [hs, if_pos rfl] at X2
        obtain ⟨a, rfl⟩ : ∃ a, S = .inl a := by cases S with
          | inl a => exact ⟨a, rfl⟩
          | inr p => cases hs
        obtain ⟨R1, hR1⟩ : ∃ R1, R1 = K (a + 1) := ⟨_, rfl⟩
        have HRa : Hid (R = R1.go fun t a => (wantA ts a [41]).go fun _ a => .inl (t, a)) := by
          rw [HRr.out, hR1]
          show primC ts K (f + 1) a = _
          unfold primC
          rw [if_pos (show seesA ts a [40] = true from hs)]
        have HC := hideP (HK.out _ _ X2.out.at_)
        have e1 : liftS K (nextS (.inl a)) = R1 := hR1.symm
        rw [e1] at HC
        clear hs hR1 e1 HRr HR
        go_wp2_with fail
        refine HC.out.mono ?_
        rintro e w3 ⟨hst, hat, k1, nm1, na1, nl1, nc1, ka1, kl1, kc1, rfl, hv⟩
        have X3 := hideP ((X2.out.step hst hat).alloc (tyO k1 nm1 na1 nl1 nc1 ka1 kl1 kc1))
        have hwl : w.heap.size + 1 ≤ w2.heap.size := lt_of_block (X2.out.box (p := (w.heap.size, zTyO)) (by simp))
        have HV3 := hideP ((hv.alloc (tyO k1 nm1 na1 nl1 nc1 ka1 kl1 kc1)).lower hwl)
        have hwl3 : w.heap.size < w3.heap.size := Nat.lt_of_lt_of_le hwl hst.size
        clear hst hat hv HC X2
        go_wp2_with fail
        generalize w3.alloc (tyO k1 nm1 na1 nl1 nc1 ka1 kl1 kc1) = W3 at X3 HV3 ⊢
        generalize w3.heap.size = tb2 at X3 hwl3 ⊢
        refine (rwant_c pb tb cap d ts (stP R1) [41] _ X3.out.at_ OK.out).mono ?_
        rintro e w4 ⟨rfl, hst, hat⟩
        have X4 := hideP (X3.out.step hst hat)
        have HV4 := hideP (HV3.out.stay hst (by omega))
        clear hst hat X3 HV3
        obtain ⟨⟨r0, r1, r2, r3⟩, ⟨f0, f1, f2, f3⟩, hrl⟩ := res_facts (X4.out.box (p := (w.heap.size, zTyO)) (by simp))
        obtain ⟨⟨t0, t1, t2, t3⟩, _, htl⟩ := res_facts (X4.out.box (p := (tb2, tyO k1 nm1 na1 nl1 nc1 ka1 kl1 kc1)) (by simp))
        have hne : ¬ tb2 = w.heap.size := by omega
        go_wp2_with fail
        refine bodyPost_ret (results_cell_row rfl _ _ w.heap.size 36 _ (0, 0) _ rfl (set4 (X4.out.box (p := (w.heap.size, zTyO)) (by simp)) _ _ _ _) Tryz.underlying36 rfl (by kernel_rfl)) rfl ⟨stay_set4 X4.out.st hp (Nat.le_refl _) _ _ _ _, ?_, k1, nm1, na1, nl1, nc1, ka1, kl1, kc1, rfl, ?_⟩
        · have := X4.out.at_.set4 hp (.int .i64 k1) (.string nm1) (.slice na1 nl1 nc1) (.slice ka1 kl1 kc1)
          have e2 : stP R = stP (liftS (fun a => wantA ts a [41]) (stP R1)) := by
            rw [HRa.out]
            cases R1 with
            | inr p => rfl
            | inl q =>
              show stP ((wantA ts q.2 [41]).go _) = stP (wantA ts q.2 [41])
              cases wantA ts q.2 [41] <;> rfl
          rw [e2]
          exact this
        · intro y c ey
          rw [HRa.out] at ey
          cases hR1 : R1 with
          | inr p => rw [hR1] at ey; cases ey
          | inl q =>
            rw [hR1] at ey
            replace ey : (wantA ts q.2 [41]).go (fun _ a => .inl (q.1, a)) = .inl (y, c) := ey
            cases hw : wantA ts q.2 [41] with
            | inr p => rw [hw] at ey; cases ey
            | inl z =>
              rw [hw] at ey
              injection ey with ey
              injection ey with ey _
              rw [← ey]
              exact TyE.lower (TyE.set4 (HV4.out q.1 q.2 hR1) (by omega) _ _ _ _) (by omega)
      | false =>
        rw [hs, if_neg (by simp)] at X2
        have HNo := hideP hs
        clear hs
        go_wp2_with fail
        refine (rtake_c pb tb cap d ts S [123] _ X2.out.at_ OK.out).mono ?_
        rintro e w3 ⟨rfl, hst, hat⟩
        have X3 := hideP (X2.out.step hst hat)
        clear hst hat X2
        cases hs : seesS ts S [123] with
        | false =>
          rw [hs, if_neg (by simp)] at X3
          obtain ⟨R1, hR1⟩ : ∃ R1, R1 = liftS (nameA ts) S := ⟨_, rfl⟩
          have HRa : Hid (R = R1.go fun s a => .inl (mkT 8 s [] [], a)) := by
            rw [HRr.out, hR1]
            cases S with
            | inr p => rfl
            | inl a =>
              show primC ts K (f + 1) a = _
              unfold primC
              rw [if_neg (by rw [show seesA ts a [40] = false from HNo.out]; simp), if_neg (by rw [show seesA ts a [123] = false from hs]; simp)]
              rfl
          have HC := hideP (rname_c pb tb cap d ts S _ X3.out.at_ OK.out)
          rw [← hR1] at HC
          have HTx : Hid (∀ s b, R1 = .inl (s, b) → s.length ≤ 70000) := fun s b e => by
            rw [hR1] at e
            cases S with
            | inr p => cases e
            | inl a =>
              have e' : nameA ts a = .inl (s, b) := e
              unfold nameA at e'
              split at e'
              · injection e' with e'; injection e' with e' _; rw [← e']; exact OK.out.txt a
              · cases e'
          clear hs hR1 HRr HR HNo
          go_wp2_with fail
          refine HC.out.mono ?_
          rintro e w4 ⟨rfl, hst, hat⟩
          have X4 := hideP (X3.out.step hst hat)
          clear hst hat HC X3
          obtain ⟨⟨r0, r1, r2, r3⟩, ⟨f0, f1, f2, f3⟩, hrl⟩ := res_facts (X4.out.box (p := (w.heap.size, zTyO)) (by simp))
          go_wp2_with fail
          refine bodyPost_ret (results_cell_row rfl _ _ w.heap.size 36 _ (0, 0) _ rfl (set4 (X4.out.box (p := (w.heap.size, zTyO)) (by simp)) _ _ _ _) Tryz.underlying36 rfl (by kernel_rfl)) rfl ⟨stay_set4 X4.out.st hp (Nat.le_refl _) _ _ _ _, ?_, 8, _, none, 0, 0, none, 0, 0, rfl, ?_⟩
          · have := X4.out.at_.set4 hp (.int .i64 8) (.string ⟨(nmP R1).toArray⟩) (.slice none 0 0) (.slice none 0 0)
            have e2 : stP R = stP R1 := by rw [HRa.out]; cases R1 <;> rfl
            rw [e2]
            exact this
          · intro y c ey
            rw [HRa.out] at ey
            cases hR1 : R1 with
            | inr p => rw [hR1] at ey; cases ey
            | inl q =>
              rw [hR1] at ey
              injection ey with ey
              injection ey with ey _
              rw [← ey]
              exact tyE_leaf _ _ _ _ (by decide) (Nat.le_trans (HTx.out q.1 q.2 hR1) (by decide))
        | true =>
          rw [hs, if_pos rfl] at X3
          obtain ⟨a, rfl⟩ : ∃ a, S = .inl a := by cases S with
            | inl a => exact ⟨a, rfl⟩
            | inr p => cases hs
          have HRa : Hid (R = if seesA ts (a + 1) [125] then .inl (mkT 5 [] [] [], a + 2) else (manyA ts (fieldA ts K) [44] (f + 1) (a + 1)).go fun l a => (wantA ts a [125]).go fun _ a => .inl (mkT 5 [] (l.map (·.1)) (l.map (·.2)), a)) := by
            rw [HRr.out]
            show primC ts K (f + 1) a = _
            unfold primC
            rw [if_neg (by rw [show seesA ts a [40] = false from HNo.out]; simp), if_pos (show seesA ts a [123] = true from hs)]
          clear hs HRr HR HNo
          have X4 := hideP (X3.out.alloc (tyO 5 ⟨#[]⟩ none 0 0 none 0 0))
          have hwl3 : w.heap.size < w3.heap.size := lt_of_block (X3.out.box (p := (w.heap.size, zTyO)) (by simp))
          have hwl4 : w.heap.size + 1 < w3.heap.size := lt_of_block (X3.out.box (p := (w.heap.size + 1, baseO)) (by simp))
          clear X3
          go_wp2_with fail
          generalize w3.alloc (tyO 5 ⟨#[]⟩ none 0 0 none 0 0) = W4 at X4 ⊢
          generalize w3.heap.size = tb2 at X4 hwl3 hwl4 ⊢
          refine (rtake_c pb tb cap d ts (.inl (a + 1)) [125] _ X4.out.at_ OK.out).mono ?_
          rintro e w5 ⟨rfl, hst, hat⟩
          have X5 := hideP (X4.out.step hst hat)
          clear hst hat X4
          cases hs : seesS ts (.inl (a + 1)) [125] with
          | true =>
            rw [hs, if_pos rfl] at X5
            have HRb : Hid (R = .inl (mkT 5 [] [] [], a + 2)) := by rw [HRa.out, if_pos (show seesA ts (a + 1) [125] = true from hs)]; exact rfl
            clear hs HRa
            obtain ⟨⟨r0, r1, r2, r3⟩, ⟨f0, f1, f2, f3⟩, hrl⟩ := res_facts (X5.out.box (p := (w.heap.size, zTyO)) (by simp))
            obtain ⟨⟨t0, t1, t2, t3⟩, _, htl⟩ := res_facts (X5.out.box (p := (tb2, tyO 5 ⟨#[]⟩ none 0 0 none 0 0)) (by simp))
            have hne : ¬ tb2 = w.heap.size := by omega
            go_wp2_with fail
            refine bodyPost_ret (results_cell_row rfl _ _ w.heap.size 36 _ (0, 0) _ rfl (set4 (X5.out.box (p := (w.heap.size, zTyO)) (by simp)) _ _ _ _) Tryz.underlying36 rfl (by kernel_rfl)) rfl ⟨stay_set4 X5.out.st hp (Nat.le_refl _) _ _ _ _, ?_, 5, ⟨#[]⟩, none, 0, 0, none, 0, 0, rfl, ?_⟩
            · rw [HRb.out]
              exact X5.out.at_.set4 hp _ _ _ _
            · intro y c ey
              rw [HRb.out] at ey
              injection ey with ey
              injection ey with ey _
              rw [← ey]
              exact tyE_leaf _ _ _ _ (by decide) (by decide)
          | false =>
            rw [hs, if_neg (by simp)] at X5
            have HRb : Hid (R = (manyA ts (fieldA ts K) [44] (f + 1) (a + 1)).go fun l a => (wantA ts a [125]).go fun _ a => .inl (mkT 5 [] (l.map (·.1)) (l.map (·.2)), a)) := by rw [HRa.out, if_neg (by rw [show seesA ts (a + 1) [125] = false from hs]; simp)]; exact rfl
            clear hs HRa
            obtain ⟨Rm, hRm⟩ : ∃ Rm, Rm = manyA ts (fieldA ts K) [44] (f + 1) (a + 1) := ⟨_, rfl⟩
            have HRm := hideP hRm
            have HF0 : Hid (FldAt ts K Rm [] (f + 1) (a + 1)) := by rw [hRm]; exact fld_start
            rw [← hRm] at HRb
            clear hRm
            obtain ⟨i0, hi, hz0, hz1, hz2⟩ := info_parts info_ty
            obtain ⟨s0, si, sz0, sz1, sz2⟩ := info_parts info_str
            go_wp2_with fail
            go_loopg [] (ts.length) (fun gk wr => ∃ (c m : Nat) (acc : List (List UInt8 × Ty)) (na ka : Option Addr) (nc kc : Nat) (cn ck : List (List Value)) (ns : List (List UInt8)) (ks : List (Option Ty)), Hid (ns = acc.map (·.1) ∧ ks = acc.map (fun p => some p.2)) ∧ Hid (RX pb tb cap ts w wr d (.inl c) [(tb2, tyO 5 ⟨#[]⟩ na ns.length nc ka ks.length kc), (w.heap.size + 1, baseO), (w.heap.size, zTyO)]) ∧ Hid (RowsC StrC (tb2 + 1) 9 1 (Value.slice ka ks.length kc).ownBlock wr (.slice na ns.length nc) cn ns) ∧ Hid (RowsC TyQ (tb2 + 1) 36 4 (Value.slice na ns.length nc).ownBlock wr (.slice ka ks.length kc) ck ks) ∧ Hid (FldAt ts K Rm acc m c) ∧ Hid (ts.length ≤ c + m) ∧ Hid (acc.length ≤ c) ∧ Hid (ts.length - c ≤ gk))
            case atStart =>
              exact ⟨a + 1, f + 1, [], none, none, 0, 0, [], [], [], [], ⟨rfl, rfl⟩, X5, rows_nil _ _ _ _ _, rows_nil _ _ _ _ _, HF0, (by show _ ≤ _; omega), Nat.zero_le _, (by show _ ≤ _; omega)⟩
            case round =>
              clear X5 HF0
              obtain ⟨c, m, acc, na, ka, nc, kc, cn, ck, ns, ks, HNS, X, HN, HV, HF, HM, HA, HG⟩ := hrel
              have hcl : c < ts.length := by
                obtain ⟨a', ha⟩ := X.out.at_
                have e1 := ha.live c rfl
                have := ha.lt
                omega
              obtain ⟨m, rfl⟩ : ∃ q, m = q + 1 := ⟨m - 1, by have := HM.out; omega⟩
              have hlen : ts.length ≤ 8193 := OK.out.len
              have hnl : ns.length ≤ 8193 := by have := HA.out; rw [HNS.out.1, List.length_map]; omega
              have hkl : ks.length ≤ 8193 := by have := HA.out; rw [HNS.out.2, List.length_map]; omega
              have htb : tb2 < wr.heap.size := lt_of_block (X.out.box (p := (tb2, tyO 5 ⟨#[]⟩ na ns.length nc ka ks.length kc)) (by simp))
              have hwtb : pb < tb2 + 1 := by omega
              obtain ⟨nmv, hnmv⟩ : ∃ s, s = nmP (nameA ts c) := ⟨_, rfl⟩
              obtain ⟨R3, hR3⟩ : ∃ R3, R3 = fldR ts K c := ⟨_, rfl⟩
              have HNm := hideP hnmv
              have HR3 := hideP hR3
              clear hnmv hR3
              have HC1 : Hid (Calls Tryz.prog 116 #[.pointer (some ⟨pb, 0, none⟩)] wr fun r w' => r = .returned (.string ⟨nmv.toArray⟩) ∧ Stay pb wr w' ∧ RAt w' pb tb cap ts d (stP (nameA ts c))) := by
                rw [HNm.out]
                exact rname_c pb tb cap d ts (.inl c) wr X.out.at_ OK.out
              go_wp2_with fail
              refine HC1.out.mono ?_
              rintro e w1 ⟨rfl, hst, hat⟩
              have X1 := hideP (X.out.step hst hat)
              have HN1 := hideP (HN.out.stay hst hwtb)
              have HV1 := hideP (HV.out.stay hst hwtb)
              have htb1 : tb2 < w1.heap.size := Nat.lt_of_lt_of_le htb hst.size
              clear hst hat X HN HV HC1
              go_wp2_with fail
              refine (rwant_c pb tb cap d ts _ [58] _ X1.out.at_ OK.out).mono ?_
              rintro e w2 ⟨rfl, hst, hat⟩
              have X2 := hideP (X1.out.step hst hat)
              have HN2 := hideP (HN1.out.stay hst hwtb)
              have HV2 := hideP (HV1.out.stay hst hwtb)
              have htb2 : tb2 < w2.heap.size := Nat.lt_of_lt_of_le htb1 hst.size
              clear hst hat X1 HN1 HV1
              have HC3 := hideP (HK.out _ _ X2.out.at_)
              rw [show liftS K (stP (liftS (fun a => wantA ts a [58]) (stP (nameA ts c)))) = R3 from HR3.out.symm] at HC3
              go_wp2_with fail
              refine HC3.out.mono ?_
              rintro e w3 ⟨hst, hat, k1, nm1, na1, nl1, nc1, ka1, kl1, kc1, rfl, hv⟩
              have hnO : ∀ q, (Value.slice na ns.length nc).ownBlock = some q → tb2 + 1 ≤ q ∧ q < w3.heap.size := fun q hq => (HN2.out.stay hst hwtb).own q hq
              have hkO : ∀ q, (Value.slice ka ks.length kc).ownBlock = some q → tb2 + 1 ≤ q ∧ q < w3.heap.size := fun q hq => (HV2.out.stay hst hwtb).own q hq
              have HNO := hideP hnO
              have HKO := hideP hkO
              have hst3 := hst.trans ((Stay.refl pb w3).alloc (Nat.lt_of_lt_of_le X2.out.at_.ltp hst.size) (tyO k1 nm1 na1 nl1 nc1 ka1 kl1 kc1))
              have X3 := hideP ((X2.out.step hst hat).alloc (tyO k1 nm1 na1 nl1 nc1 ka1 kl1 kc1))
              have HN3 := hideP (HN2.out.stay hst3 hwtb)
              have HV3 := hideP (HV2.out.stay hst3 hwtb)
              have HMd := hideP ((Made.new (rep := TyQ) (B := tb2 + 1) (tyQ_of hv) htb2 (G := fun q => (Value.slice ka ks.length kc).ownBlock = some q ∨ (Value.slice na ns.length nc).ownBlock = some q) fun q hq => HV2.out.all q hq).stay ((Stay.refl pb w3).alloc (Nat.lt_of_lt_of_le X2.out.at_.ltp hst.size) (tyO k1 nm1 na1 nl1 nc1 ka1 kl1 kc1)) hwtb)
              have htb3 : tb2 < w3.heap.size := Nat.lt_of_lt_of_le htb2 hst.size
              clear hst hat hv HC3 X2 HN2 HV2 hnO hkO hst3
              have hwl : w3.heap.size < (w3.alloc (tyO k1 nm1 na1 nl1 nc1 ka1 kl1 kc1)).heap.size := by simp
              obtain ⟨⟨t0, t1, t2, t3⟩, ⟨f0, f1, f2, f3⟩, htl⟩ := res_facts (X3.out.box (p := (tb2, tyO 5 ⟨#[]⟩ na ns.length nc ka ks.length kc)) (by simp))
              have HCN : Hid (∀ j u, ([.string ⟨nmv.toArray⟩] : List Value)[j]? = some u → ((w3.alloc (tyO k1 nm1 na1 nl1 nc1 ka1 kl1 kc1)).alloc (.cells #[.string ⟨nmv.toArray⟩] 9)).cell? ((⟨w3.heap.size + 1, 0, none⟩ : Addr).add j) = some u) := fun j u h => by
                have := cells_newK (w3.alloc (tyO k1 nm1 na1 nl1 nc1 ka1 kl1 kc1)) [.string ⟨nmv.toArray⟩] 9 j u h
                rw [World.size_alloc] at this
                exact this
              go_wp2_with (at_builtin; refine wpList_append_own_at _ rfl (.tmp 53) (.tmp 55) 24 rfl (tb2 + 1) 9 s0 _ 1 16 Tryz.underlying24 si sz0 sz1 sz2 rfl (by decide) _ _ _ rfl (HN3.out.ow.alloc _) ⟨_, 0, none⟩ 1 1 [.string ⟨nmv.toArray⟩] rfl rfl HCN.out (by simp [Value.oneCell']) (by unfold maxLen; omega) (by omega) (by simp; omega) ?_)
              intro vn' w4 hown' hgrow _ hloc
              have hptl : pb < (w3.alloc (tyO k1 nm1 na1 nl1 nc1 ka1 kl1 kc1)).heap.size := X3.out.at_.ltp
              have HN4 := hideP (HN3.out.put (x := nmv) (rep := StrC) hown' hgrow (hloc.imp_right fun e => ⟨_, e, by simp⟩) ((Stay.refl pb _).alloc hptl _) hwtb rfl ((Made.new (rep := StrC) (lo := w3.heap.size + 1) (wx := w3.alloc (tyO k1 nm1 na1 nl1 nc1 ka1 kl1 kc1)) rfl (by omega) fun q hq => by have := HN3.out.all q hq; simpa using this).stay ((Stay.refl pb _).alloc hptl _) hwtb))
              have HV4 := hideP ((HV3.out.stay ((Stay.refl pb _).alloc hptl (.cells #[.string ⟨nmv.toArray⟩] 9)) hwtb).beside (o' := vn'.ownBlock) hgrow (hloc.imp_right fun e => ⟨_, e, by simp, (hown'.lt _ e).2⟩) (by simp; omega))
              have HMd4 := hideP ((HMd.out.stay ((Stay.refl pb _).alloc hptl (.cells #[.string ⟨nmv.toArray⟩] 9)) hwtb).grown (G' := fun q => (Value.slice ka ks.length kc).ownBlock = some q ∨ vn'.ownBlock = some q) hgrow (fun q hq => .inr hq) fun q hq => by
                rcases hq with hq | hq
                · exact .inl (.inl hq)
                · rcases hloc with e | e
                  · exact .inl (.inr (e ▸ hq))
                  · rw [e] at hq; injection hq with hq; exact .inr (by rw [← hq]; simp))
              have X4 := hideP ((X3.out.alloc (.cells #[.string ⟨nmv.toArray⟩] 9)).drop.grown hgrow (fun q hq => by have := HNO.out q hq; omega) fun p hp q hq => by
                have := HNO.out q hq
                simp only [List.mem_cons, List.not_mem_nil, or_false] at hp
                rcases hp with rfl | rfl | rfl | rfl
                · show q ≠ w3.heap.size; omega
                · show q ≠ tb2; omega
                · show q ≠ w.heap.size + 1; omega
                · show q ≠ w.heap.size; omega)
              obtain ⟨na4, nc4, rfl⟩ := row_shape hown'
              clear hown' hgrow hloc HCN t0 t1 t2 t3 f0 f1 f2 f3 htl hwl hptl HN3 HV3 HMd X3 HNO HKO
              generalize w3.heap.size = nb at X4 htb3 ⊢
              obtain ⟨⟨t0, t1, t2, t3⟩, ⟨f0, f1, f2, f3⟩, htl⟩ := res_facts (X4.out.box (p := (tb2, tyO 5 ⟨#[]⟩ na ns.length nc ka ks.length kc)) (by simp))
              obtain ⟨⟨b0, b1, b2, b3⟩, _, hbl⟩ := res_facts (X4.out.box (p := (nb, tyO k1 nm1 na1 nl1 nc1 ka1 kl1 kc1)) (by simp))
              have hne : ¬ nb = tb2 := by omega
              have hne' : ¬ tb2 = nb := by omega
              have X5 : Hid (RX pb tb cap ts w (w4.setCell ⟨tb2, 2, none⟩ (.slice na4 (ns.length + 1) nc4)) d (stP R3) [(tb2, tyO 5 ⟨#[]⟩ na4 (ns.length + 1) nc4 ka ks.length kc), (nb, tyO k1 nm1 na1 nl1 nc1 ka1 kl1 kc1), (w.heap.size + 1, baseO), (w.heap.size, zTyO)]) := by
                refine RX.put2 (na := na) (nl := ns.length) (nc := nc) (X4.out.perm (fun p hp => ?_)) fun p hp => ?_
                · simp only [List.mem_cons, List.not_mem_nil, or_false] at hp ⊢
                  rcases hp with h | h | h | h
                  · exact .inr (.inl h)
                  · exact .inl h
                  · exact .inr (.inr (.inl h))
                  · exact .inr (.inr (.inr h))
                · simp only [List.mem_cons, List.not_mem_nil, or_false] at hp
                  rcases hp with rfl | rfl | rfl
                  · show nb ≠ tb2; omega
                  · show w.heap.size + 1 ≠ tb2; omega
                  · show w.heap.size ≠ tb2; omega
              have HN5 := hideP (HN4.out.stay (setStay w4 tb2 2 (.slice na4 (ns.length + 1) nc4)) (Nat.lt_succ_self _))
              have HV5 := hideP (HV4.out.stay (setStay w4 tb2 2 (.slice na4 (ns.length + 1) nc4)) (Nat.lt_succ_self _))
              have HMd5 := hideP (HMd4.out.stay (setStay w4 tb2 2 (.slice na4 (ns.length + 1) nc4)) (Nat.lt_succ_self _))
              clear HN4 HV4 HMd4 X4
              have HCN : Hid (∀ j u, ([.int .i64 k1, .string nm1, .slice na1 nl1 nc1, .slice ka1 kl1 kc1] : List Value)[j]? = some u → ((w4.setCell ⟨tb2, 2, none⟩ (.slice na4 (ns.length + 1) nc4)).alloc (.cells #[.int .i64 k1, .string nm1, .slice na1 nl1 nc1, .slice ka1 kl1 kc1] 36)).cell? ((⟨w4.heap.size, 0, none⟩ : Addr).add j) = some u) := fun j u h => by
                have := cells_newK (w4.setCell ⟨tb2, 2, none⟩ (.slice na4 (ns.length + 1) nc4)) [.int .i64 k1, .string nm1, .slice na1 nl1 nc1, .slice ka1 kl1 kc1] 36 j u h
                rw [size_set] at this
                exact this
              go_wp2_with (at_builtin; refine wpList_append_own_at _ rfl (.tmp 59) (.tmp 61) 23 rfl (tb2 + 1) 36 i0 _ 4 72 Tryz.underlying23 hi hz0 hz1 hz2 rfl (by decide) _ _ _ rfl (HV5.out.ow.alloc _) ⟨_, 0, none⟩ 1 1 [.int .i64 k1, .string nm1, .slice na1 nl1 nc1, .slice ka1 kl1 kc1] rfl rfl HCN.out (by simp [Value.oneCell']) (by unfold maxLen; omega) (by omega) (by simp; omega) ?_)
              intro vk' w6 hown' hgrow _ hloc
              have hptl : pb < (w4.setCell ⟨tb2, 2, none⟩ (.slice na4 (ns.length + 1) nc4)).heap.size := X5.out.at_.ltp
              have HV6 := hideP (HV5.out.put (x := okP R3) (rep := TyQ) hown' hgrow (hloc.imp_right fun e => ⟨_, e, by simp⟩) ((Stay.refl pb _).alloc hptl _) hwtb rfl (HMd5.out.stay ((Stay.refl pb _).alloc hptl _) hwtb))
              have HN6 := hideP ((HN5.out.stay ((Stay.refl pb _).alloc hptl (.cells #[.int .i64 k1, .string nm1, .slice na1 nl1 nc1, .slice ka1 kl1 kc1] 36)) hwtb).beside (o' := vk'.ownBlock) hgrow (hloc.imp_right fun e => ⟨_, e, by simp, (hown'.lt _ e).2⟩) (by simp; omega))
              have X6 : Hid (RX pb tb cap ts w w6 d (stP R3) [(tb2, tyO 5 ⟨#[]⟩ na4 (ns.length + 1) nc4 ka ks.length kc), (w.heap.size + 1, baseO), (w.heap.size, zTyO)]) := by
                refine RX.grown (RX.perm (X5.out.alloc (.cells #[.int .i64 k1, .string nm1, .slice na1 nl1 nc1, .slice ka1 kl1 kc1] 36)).drop fun p hp => ?_) hgrow (fun q hq => by have := HV5.out.own q hq; omega) fun p hp q hq => ?_
                · simp only [List.mem_cons, List.not_mem_nil, or_false] at hp ⊢
                  rcases hp with h | h | h
                  · exact .inl h
                  · exact .inr (.inr (.inl h))
                  · exact .inr (.inr (.inr h))
                · have := HV5.out.own q hq
                  simp only [List.mem_cons, List.not_mem_nil, or_false] at hp
                  rcases hp with rfl | rfl | rfl
                  · show q ≠ tb2; omega
                  · show q ≠ w.heap.size + 1; omega
                  · show q ≠ w.heap.size; omega
              obtain ⟨ka6, kc6, rfl⟩ := row_shape hown'
              clear hown' hgrow hloc HCN t0 t1 t2 t3 f0 f1 f2 f3 htl hptl b0 b1 b2 b3 hbl HN5 HV5 HMd5 X5
              obtain ⟨⟨t0, t1, t2, t3⟩, ⟨f0, f1, f2, f3⟩, htl⟩ := res_facts (X6.out.box (p := (tb2, tyO 5 ⟨#[]⟩ na4 (ns.length + 1) nc4 ka ks.length kc)) (by simp))
              have X7 : Hid (RX pb tb cap ts w (w6.setCell ⟨tb2, 3, none⟩ (.slice ka6 (ks.length + 1) kc6)) d (stP R3) [(tb2, tyO 5 ⟨#[]⟩ na4 (ns.length + 1) nc4 ka6 (ks.length + 1) kc6), (w.heap.size + 1, baseO), (w.heap.size, zTyO)]) := by
                refine RX.put3 X6.out fun p hp => ?_
                simp only [List.mem_cons, List.not_mem_nil, or_false] at hp
                rcases hp with rfl | rfl
                · show w.heap.size + 1 ≠ tb2; omega
                · show w.heap.size ≠ tb2; omega
              have HN7 := hideP (HN6.out.stay (setStay w6 tb2 3 (.slice ka6 (ks.length + 1) kc6)) (Nat.lt_succ_self _))
              have HV7 := hideP (HV6.out.stay (setStay w6 tb2 3 (.slice ka6 (ks.length + 1) kc6)) (Nat.lt_succ_self _))
              clear HN6 HV6 X6
              go_wp2_with fail
              refine (rtake_c pb tb cap d ts (stP R3) [44] _ X7.out.at_ OK.out).mono ?_
              rintro e w8 ⟨rfl, hst, hat⟩
              have X8 := hideP (X7.out.step hst hat)
              have HN8 := hideP (HN7.out.stay hst hwtb)
              have HV8 := hideP (HV7.out.stay hst hwtb)
              clear hst hat X7 HN7 HV7 t0 t1 t2 t3 f0 f1 f2 f3 htl
              have hl1 : (ns ++ [nmv]).length = ns.length + 1 := by simp
              have hl2 : (ks ++ [okP R3]).length = ks.length + 1 := by simp
              cases hs : seesS ts (stP R3) [44] with
              | true =>
                rw [hs, if_pos rfl] at X8
                rw [HR3.out] at hs
                obtain ⟨t, b, hRb, hnext⟩ := fld_next HF.out hs
                have HNx := hideP hnext
                have hup := fld_up HU.out hRb
                have hS : nextS (stP R3) = .inl (b + 1) := by rw [HR3.out, hRb]; rfl
                have hk3 : okP R3 = some t := by rw [HR3.out, hRb]; rfl
                rw [hS, ← hl1, ← hl2] at X8
                rw [← hl1, ← hl2] at HN8 HV8
                have HNS2 : Hid (ns ++ [nmv] = (acc ++ [(nmP (nameA ts c), t)]).map (·.1) ∧ ks ++ [okP R3] = (acc ++ [(nmP (nameA ts c), t)]).map (fun p => some p.2)) := ⟨by rw [HNS.out.1, HNm.out]; simp, by rw [HNS.out.2, hk3]; simp⟩
                clear hs hRb hnext hS hk3 hl1 hl2
                go_wp2_with fail
                go_roundg (ts.length - (b + 1))
                case measure => have := HG.out; omega
                case rel => exact ⟨b + 1, m, _, na4, ka6, nc4, kc6, _, _, _, _, HNS2, X8, HN8, HV8, HNx, (by have := HM.out; show _ ≤ _; omega), (by have := HA.out; show _ ≤ _; simp; omega), Nat.le_refl _⟩
              | false =>
                rw [hs, if_neg (by simp)] at X8
                rw [HR3.out] at hs
                have HE := hideP (fld_end HF.out hs)
                clear hs
                go_wp2_with fail
                refine (rwant_c pb tb cap d ts (stP R3) [125] _ X8.out.at_ OK.out).mono ?_
                rintro e w9 ⟨rfl, hst, hat⟩
                have X9 := hideP (X8.out.step hst hat)
                have HN9 := hideP (HN8.out.stay hst hwtb)
                have HV9 := hideP (HV8.out.stay hst hwtb)
                clear hst hat X8 HN8 HV8
                obtain ⟨⟨r0, r1, r2, r3⟩, ⟨f0, f1, f2, f3⟩, hrl⟩ := res_facts (X9.out.box (p := (w.heap.size, zTyO)) (by simp))
                obtain ⟨⟨t0, t1, t2, t3⟩, _, htl⟩ := res_facts (X9.out.box (p := (tb2, tyO 5 ⟨#[]⟩ na4 (ns.length + 1) nc4 ka6 (ks.length + 1) kc6)) (by simp))
                have hne2 : ¬ tb2 = w.heap.size := by omega
                have HL1 := hideP hl1
                have HL2 := hideP hl2
                clear hl1 hl2
                go_wp2_with fail
                refine bodyPost_ret (results_cell_row rfl _ _ w.heap.size 36 _ (0, 0) _ rfl (set4 (X9.out.box (p := (w.heap.size, zTyO)) (by simp)) _ _ _ _) Tryz.underlying36 rfl (by kernel_rfl)) rfl ⟨stay_set4 X9.out.st hp (Nat.le_refl _) _ _ _ _, ?_, 5, ⟨#[]⟩, na4, ns.length + 1, nc4, ka6, ks.length + 1, kc6, by simp, ?_⟩
                · have := X9.out.at_.set4 hp (.int .i64 5) (.string ⟨#[]⟩) (.slice na4 (ns.length + 1) nc4) (.slice ka6 (ks.length + 1) kc6)
                  have e2 : stP R = stP (liftS (fun a => wantA ts a [125]) (stP R3)) := by
                    rw [HRb.out, HR3.out]
                    rcases HE.out with ⟨t, b, e1, e2⟩ | ⟨e, e1, e2⟩
                    · rw [e1, e2]
                      show stP ((wantA ts b [125]).go _) = stP (wantA ts b [125])
                      cases wantA ts b [125] <;> rfl
                    · rw [e1, e2]
                      rfl
                  rw [e2]
                  simpa using this
                · intro y cc ey
                  rw [HRb.out] at ey
                  rcases HE.out with ⟨t, b, e1, e2⟩ | ⟨e, e1, e2⟩
                  · rw [e2] at ey
                    replace ey : (wantA ts b [125]).go (fun _ a => .inl (mkT 5 [] ((acc ++ [(nmP (nameA ts c), t)]).map (·.1)) ((acc ++ [(nmP (nameA ts c), t)]).map (·.2)), a)) = .inl (y, cc) := ey
                    cases hw : wantA ts b [125] with
                    | inr p => rw [hw] at ey; cases ey
                    | inl z =>
                      rw [hw] at ey
                      injection ey with ey
                      injection ey with ey _
                      rw [← ey]
                      have hk3 : okP R3 = some t := by rw [HR3.out, e1]; rfl
                      have en : ns ++ [nmv] = (acc ++ [(nmP (nameA ts c), t)]).map (·.1) := by rw [HNS.out.1, HNm.out]; simp
                      have ek : ks ++ [okP R3] = ((acc ++ [(nmP (nameA ts c), t)]).map (·.2)).map some := by rw [HNS.out.2, hk3]; simp
                      have hN := HN9.out
                      have hV := HV9.out
                      rw [en] at hN
                      rw [ek] at hV
                      have hll : (acc ++ [(nmP (nameA ts c), t)]).length ≤ 8193 := by have := HA.out; simp; omega
                      obtain ⟨a', c', a2, c2, ev, hE⟩ := tyE_rec (l := acc ++ [(nmP (nameA ts c), t)]) (lo := tb2 + 1) (w := w9) ⟨_, _, _, _, rfl, hN, rowsQ_map hV⟩ hll (many_all (fun a x b h => fld_txt OK.out h) (f + 1) (HRm.out.symm.trans e2))
                      have hln : (acc ++ [(nmP (nameA ts c), t)]).length = ns.length + 1 := by rw [← HL1.out, en, List.length_map]
                      have hlk : (acc ++ [(nmP (nameA ts c), t)]).length = ks.length + 1 := by rw [← HL2.out, ek, List.length_map, List.length_map]
                      injection ev with ev
                      injection ev with ev
                      injection ev with ev1 ev
                      injection ev with ev2 _
                      injection ev1 with g1 _ g2
                      injection ev2 with g3 _ g4
                      subst g1 g2 g3 g4
                      have hE2 : TyE (tb2 + 1) w9 (.agg #[.int .i64 5, .string ⟨#[]⟩, .slice na4 (ns.length + 1) nc4, .slice ka6 (ks.length + 1) kc6]) (mkT 5 [] ((acc ++ [(nmP (nameA ts c), t)]).map (·.1)) ((acc ++ [(nmP (nameA ts c), t)]).map (·.2))) := by
                        have := hE
                        rw [show (Value.slice na4 (acc ++ [(nmP (nameA ts c), t)]).length nc4) = .slice na4 (ns.length + 1) nc4 by rw [hln], show (Value.slice ka6 (acc ++ [(nmP (nameA ts c), t)]).length kc6) = .slice ka6 (ks.length + 1) kc6 by rw [hlk]] at this
                        exact this
                      exact TyE.lower (TyE.set4 hE2 (by omega) _ _ _ _) (by omega)
                  · rw [e2] at ey; cases ey
end Go.Proofs.YtfjlkkohccihnabGreatDoor

/- The reference's parser of types: Kind. -/
namespace Go.Proofs.YtfjlkkohccihnabGreatDoor
open Go.RowKit

/-- Kind: the rule 'type', live or dead. -/
theorem rkind_c (pb tb cap : Nat) (ts : List Tok) (ok : ToksOk ts) (f : Nat) (hf : ts.length ≤ f + 1) : ∀ (n d : Nat), d + n = 101 → d ≤ 100 → ∀ (S : Sta) (w : World), RAt w pb tb cap ts d S →
    Calls Tryz.prog 31 #[.pointer (some ⟨pb, 0, none⟩)] w (RTy pb tb cap ts d w (liftS (kindA ts (f + 1) n d) S))
  | 0, d, h1, h2, _, _, _ => absurd h1 (by omega)
  | n + 1, d, h1, h2, S, w, h => by
    have hK : d < 100 → ∀ S w, RAt w pb tb cap ts (d + 1) S → Calls Tryz.prog 31 #[.pointer (some ⟨pb, 0, none⟩)] w (RTy pb tb cap ts (d + 1) w (liftS (kindA ts (f + 1) n (d + 1)) S)) := fun hd S w h => rkind_c pb tb cap ts ok f hf n (d + 1) (by omega) (by omega) S w h
    have hu : ∀ a x b, kindA ts (f + 1) n (d + 1) a = .inl (x, b) → a ≤ b := fun a x b h => kind_up h
    have hA : d < 100 → ∀ S w, RAt w pb tb cap ts (d + 1) S → Calls Tryz.prog 66 #[.pointer (some ⟨pb, 0, none⟩)] w (RTy pb tb cap ts (d + 1) w (liftS (altA ts (kindA ts (f + 1) n (d + 1)) (f + 1)) S)) := fun hd S w h => by
      have := ralt_c pb tb cap (d + 1) ts ok (primA ts (kindA ts (f + 1) n (d + 1)) (f + 1)) f hf (fun a x b h => prim_up hu h) (fun S w h => rprim_c pb tb cap (d + 1) ts ok _ f hf hu (hK hd) S w h) S w h
      cases S with
      | inl a => exact this
      | inr p => exact this
    have := rkind_step pb tb cap d ts ok _ _ (by omega) hA hK S w h
    cases S with
    | inl a => exact this
    | inr p => exact this
end Go.Proofs.YtfjlkkohccihnabGreatDoor

/- The reference's parser: end. -/
namespace Go.Proofs.YtfjlkkohccihnabGreatDoor
open Go.RowKit
attribute [local go_sem ↓] Go.wp_at_zero Go.wp_at_succ

def endS (ts : List Tok) : Sta → Sta
  | .inl a => if (tkA ts a).kind == 0 then .inl a else .inr (7, (tkA ts a).line, (tkA ts a).col)
  | .inr p => .inr p
abbrev zDgO : Obj := .cells #[.int .i64 0, .int .i64 0, .int .i64 0, .int .i64 0] 30

set_option maxRecDepth 100000 in
set_option maxHeartbeats 4000000 in
theorem rend_c (pb tb cap d : Nat) (ts : List Tok) (S : Sta) (w : World) (h : RAt w pb tb cap ts d S) :
    Calls Tryz.prog 26 #[.pointer (some ⟨pb, 0, none⟩)] w fun r w' => r = .returned (diagV (lS (endS ts S)) (cS (endS ts S)) (eS (endS ts S))) ∧ Stay pb w w' ∧ RAt w' pb tb cap ts d (endS ts S) := by
  have X0 := hideP (rx_init h zDgO)
  obtain ⟨a, h⟩ := h
  have hal : (a : Int) < (ts.length : Int) := by have := h.lt; omega
  have hpl := h.ltp
  have htl := Nat.lt_trans h.tlt h.ltp
  have hS : (∃ b, S = .inl b ∧ b = a) ∨ ∃ p, S = .inr p ∧ (p.1 == 0) = false := by
    cases S with
    | inl b => exact .inl ⟨b, rfl, h.live b rfl⟩
    | inr p => exact .inr ⟨p, rfl, by have := h.bad p rfl; simpa using this⟩
  have H0 := hideP h
  have h1 := (h.alloc zDgO).drew
  obtain ⟨⟨c0, c1, c2, c3, c4, c5⟩, f1, f2, f3, f4, f5⟩ := h1.cells
  obtain ⟨q0, q1, q2, q3⟩ := h1.toks a h1.lt
  obtain ⟨t, ht⟩ : ∃ t, t = tkA ts a := ⟨_, rfl⟩
  rw [← ht] at q0 q1 q2 q3
  obtain ⟨es, hes⟩ : ∃ es, es = eS S := ⟨_, rfl⟩
  rw [← hes] at c3
  have HES := hideP hes
  have HT := hideP ht
  have H1 := hideP h1
  have hSS := And.intro c0 (And.intro c1 (And.intro c3 q0))
  have HSe := hideP hS
  clear ht hes c0 c1 c2 c3 c4 c5 q0 q1 q2 q3 h h1 hS f1 f2 f3 f4 f5
  rcases HSe.out with ⟨b, hSb, rfl⟩ | ⟨p, hSp, hp0⟩
  · obtain rfl : es = 0 := by rw [HES.out, hSb]; rfl
    have HSb := hideP hSb
    clear hSb
    cases hk : (t.kind == 0) with
    | true =>
      go_enter Tryz.func26, Tryz.ntmps26
      go_wp2_with fail
      go_region_held (fun W => W.cell? ⟨pb, 0, none⟩ = some (.slice (some ⟨tb, 0, none⟩) ts.length cap) ∧ W.cell? ⟨pb, 1, none⟩ = some (.int .i64 b) ∧ W.cell? ⟨pb, 3, none⟩ = some (.int .i64 0) ∧ W.cell? ⟨tb, b * 4, none⟩ = some (.int .i64 t.kind)) (with_reducible assumption) (fail)
      go_wp2_with fail
      have XD := hideP (X0.out.drew.drew)
      have H2 := hideP (H1.out.drew)
      obtain ⟨⟨d0, d1, d2, d3, d4, d5⟩, _⟩ := H2.out.cells
      rw [← HES.out] at d3
      have hTT := And.intro d3 (And.intro d4 d5)
      obtain ⟨⟨r0, r1, r2, r3⟩, ⟨f0, f1, f2, f3⟩, hrl⟩ := res_facts (XD.out.box (p := (w.heap.size, zDgO)) (by simp))
      have HS1 : Hid (∀ o, ((w.alloc o).drew.drew).cell? ⟨pb, 3, none⟩ = some (.int .i64 0) ∧ ((w.alloc o).drew.drew).cell? ⟨pb, 4, none⟩ = some (.int .i64 (lS S)) ∧ ((w.alloc o).drew.drew).cell? ⟨pb, 5, none⟩ = some (.int .i64 (cS S))) := fun o => by
        have := ((H0.out.alloc o).drew.drew).cells.1
        rw [HES.out]
        exact this.2.2.2
      clear hSS d0 d1 d2 d3 d4 d5
      go_region_held (fun W => W.cell? ⟨pb, 3, none⟩ = some (.int .i64 0) ∧ W.cell? ⟨pb, 4, none⟩ = some (.int .i64 (lS S)) ∧ W.cell? ⟨pb, 5, none⟩ = some (.int .i64 (cS S))) (first | with_reducible assumption | with_reducible exact HS1.out _) (fail)
      go_wp2_with fail
      refine bodyPost_ret (results_cell_row rfl _ _ w.heap.size 30 _ (0, 0) _ rfl (heap_alloc_last w _) Tryz.underlying30 rfl (by kernel_rfl)) rfl ?_
      have e1 : endS ts S = S := by rw [HSb.out]; exact if_pos (by rw [← HT.out]; exact hk)
      rw [e1]
      refine ⟨by rw [← HES.out], (Stay.of hpl (bl_alloc w _)).drew.drew, b, (H0.out.alloc _).drew.drew⟩
    | false =>
      go_enter Tryz.func26, Tryz.ntmps26
      go_wp2_with fail
      go_region_held (fun W => W.cell? ⟨pb, 0, none⟩ = some (.slice (some ⟨tb, 0, none⟩) ts.length cap) ∧ W.cell? ⟨pb, 1, none⟩ = some (.int .i64 b) ∧ W.cell? ⟨pb, 3, none⟩ = some (.int .i64 0) ∧ W.cell? ⟨tb, b * 4, none⟩ = some (.int .i64 t.kind)) (with_reducible assumption) (fail)
      have hk2 : (t.kind != 0) = true := by rw [bne, hk]; rfl
      clear hSS
      go_wp2_with fail
      refine (rfail_c pb tb cap d ts S 7 (by decide) _ ⟨_, H1.out⟩).mono ?_
      rintro e w2 ⟨rfl, hst, hat⟩
      have X2 := hideP ((X0.out.drew).step hst hat)
      clear hst hat
      have e1 : endS ts S = failS ts 7 S := by rw [HSb.out]; exact if_neg (by rw [← HT.out, hk]; simp)
      rw [← e1] at X2
      clear e1
      obtain ⟨a2, h2⟩ := X2.out.at_
      obtain ⟨⟨d0, d1, d2, d3, d4, d5⟩, _⟩ := h2.drew.cells
      have hTT := And.intro d3 (And.intro d4 d5)
      have HH2 := hideP h2
      obtain ⟨⟨r0, r1, r2, r3⟩, ⟨f0, f1, f2, f3⟩, hrl⟩ := res_facts (X2.out.drew.box (p := (w.heap.size, zDgO)) (by simp))
      obtain ⟨⟨g0, g1, g2, g3⟩, ⟨k0, k1, k2, k3⟩, hgl⟩ := res_facts (X2.out.box (p := (w.heap.size, zDgO)) (by simp))
      clear h2 d0 d1 d2 d3 d4 d5
      have HS1 : Hid (∀ x0 x1 x2 x3, ((((w2.setCell ⟨w.heap.size, 0, none⟩ x0).setCell ⟨w.heap.size, 1, none⟩ x1).setCell ⟨w.heap.size, 2, none⟩ x2).setCell ⟨w.heap.size, 3, none⟩ x3).drew.cell? ⟨pb, 3, none⟩ = some (.int .i64 (eS (endS ts S))) ∧ ((((w2.setCell ⟨w.heap.size, 0, none⟩ x0).setCell ⟨w.heap.size, 1, none⟩ x1).setCell ⟨w.heap.size, 2, none⟩ x2).setCell ⟨w.heap.size, 3, none⟩ x3).drew.cell? ⟨pb, 4, none⟩ = some (.int .i64 (lS (endS ts S))) ∧ ((((w2.setCell ⟨w.heap.size, 0, none⟩ x0).setCell ⟨w.heap.size, 1, none⟩ x1).setCell ⟨w.heap.size, 2, none⟩ x2).setCell ⟨w.heap.size, 3, none⟩ x3).drew.cell? ⟨pb, 5, none⟩ = some (.int .i64 (cS (endS ts S)))) := fun x0 x1 x2 x3 => by
        obtain ⟨a3, h3⟩ := (X2.out.at_.set4 hpl x0 x1 x2 x3).drew
        exact h3.cells.1.2.2.2
      go_wp2_with fail
      go_region_held (fun W => W.cell? ⟨pb, 3, none⟩ = some (.int .i64 (eS (endS ts S))) ∧ W.cell? ⟨pb, 4, none⟩ = some (.int .i64 (lS (endS ts S))) ∧ W.cell? ⟨pb, 5, none⟩ = some (.int .i64 (cS (endS ts S)))) (first | with_reducible assumption | with_reducible exact HS1.out _ _ _ _) (fail)
      go_wp2_with fail
      refine bodyPost_ret (results_cell_row rfl _ _ w.heap.size 30 _ (0, 0) _ rfl (set4 (X2.out.box (p := (w.heap.size, zDgO)) (by simp)) _ _ _ _) Tryz.underlying30 rfl (by kernel_rfl)) rfl ?_
      exact ⟨rfl, (stay_set4 X2.out.st hpl (Nat.le_refl _) _ _ _ _).drew, (X2.out.at_.set4 hpl _ _ _ _).drew⟩
  · have he : es = p.1 := by rw [HES.out, hSp]; rfl
    rw [← he] at hp0
    have HSp := hideP hSp
    clear hSp he
    go_enter Tryz.func26, Tryz.ntmps26
    go_wp2_with fail
    obtain ⟨c0, c1, c3, q0⟩ := hSS
    go_region
    go_wp2_with fail
    have XD := hideP (X0.out.drew.drew)
    have H2 := hideP (H1.out.drew)
    obtain ⟨⟨d0, d1, d2, d3, d4, d5⟩, _⟩ := H2.out.cells
    rw [← HES.out] at d3
    have hTT := And.intro d3 (And.intro d4 d5)
    obtain ⟨⟨r0, r1, r2, r3⟩, ⟨f0, f1, f2, f3⟩, hrl⟩ := res_facts (XD.out.box (p := (w.heap.size, zDgO)) (by simp))
    have HS1 : Hid (∀ o, ((w.alloc o).drew.drew).cell? ⟨pb, 3, none⟩ = some (.int .i64 es) ∧ ((w.alloc o).drew.drew).cell? ⟨pb, 4, none⟩ = some (.int .i64 (lS S)) ∧ ((w.alloc o).drew.drew).cell? ⟨pb, 5, none⟩ = some (.int .i64 (cS S))) := fun o => by
      have := ((H0.out.alloc o).drew.drew).cells.1
      rw [HES.out]
      exact this.2.2.2
    clear c0 c1 c3 q0 d0 d1 d2 d3 d4 d5
    go_region_held (fun W => W.cell? ⟨pb, 3, none⟩ = some (.int .i64 es) ∧ W.cell? ⟨pb, 4, none⟩ = some (.int .i64 (lS S)) ∧ W.cell? ⟨pb, 5, none⟩ = some (.int .i64 (cS S))) (first | with_reducible assumption | with_reducible exact HS1.out _) (fail)
    go_wp2_with fail
    refine bodyPost_ret (results_cell_row rfl _ _ w.heap.size 30 _ (0, 0) _ rfl (heap_alloc_last w _) Tryz.underlying30 rfl (by kernel_rfl)) rfl ?_
    have e1 : endS ts S = S := by rw [HSp.out]; rfl
    rw [e1]
    refine ⟨by rw [HES.out], (Stay.of hpl (bl_alloc w _)).drew.drew, a, (H0.out.alloc _).drew.drew⟩
end Go.Proofs.YtfjlkkohccihnabGreatDoor

/- gradusref02.letter and digit, each by a contract. -/
namespace Go.Proofs.YtfjlkkohccihnabGreatDoor.Lx
open Go.RowKit

theorem letterR_c (b : UInt8) (w : World) : Calls Tryz.prog 70 #[.int .u8 b.toNat] w fun e w' => e = .returned (.bool (isLet b)) ∧ w' = w := by
  have hways : (b.toNat < 65) ∨ (65 ≤ b.toNat ∧ b.toNat ≤ 90) ∨ (90 < b.toNat ∧ b.toNat < 95) ∨ b.toNat = 95 ∨ b.toNat = 96 ∨ (97 ≤ b.toNat ∧ b.toNat ≤ 122) ∨ 122 < b.toNat := by omega
  unfold isLet
  generalize b.toNat = n at hways ⊢
  rcases hways with h | ⟨h1, h2⟩ | ⟨h1, h2⟩ | rfl | rfl | ⟨h1, h2⟩ | h
  · have e : ((n : Int) == 95) = false := by simp; omega
    go_enter Tryz.func70, Tryz.ntmps70
    go_wp2
    go_ret
    exact ⟨ret_bool (by first | rfl | (simp; done) | (simp; omega) | (rw [Bool.eq_iff_iff]; simp; omega)), rfl⟩
  · go_enter Tryz.func70, Tryz.ntmps70
    go_wp2
    go_ret
    exact ⟨ret_bool (by first | rfl | (simp; done) | (simp; omega) | (rw [Bool.eq_iff_iff]; simp; omega)), rfl⟩
  · have e : ((n : Int) == 95) = false := by simp; omega
    go_enter Tryz.func70, Tryz.ntmps70
    go_wp2
    go_ret
    exact ⟨ret_bool (by first | rfl | (simp; done) | (simp; omega) | (rw [Bool.eq_iff_iff]; simp; omega)), rfl⟩
  · go_enter Tryz.func70, Tryz.ntmps70
    go_wp2
    go_ret
    exact ⟨rfl, rfl⟩
  · go_enter Tryz.func70, Tryz.ntmps70
    go_wp2
    go_ret
    exact ⟨rfl, rfl⟩
  · go_enter Tryz.func70, Tryz.ntmps70
    go_wp2
    go_ret
    exact ⟨ret_bool (by first | rfl | (simp; done) | (simp; omega) | (rw [Bool.eq_iff_iff]; simp; omega)), rfl⟩
  · have e : ((n : Int) == 95) = false := by simp; omega
    go_enter Tryz.func70, Tryz.ntmps70
    go_wp2
    go_ret
    exact ⟨ret_bool (by first | rfl | (simp; done) | (simp; omega) | (rw [Bool.eq_iff_iff]; simp; omega)), rfl⟩

theorem digitR_c (b : UInt8) (w : World) : Calls Tryz.prog 69 #[.int .u8 b.toNat] w fun e w' => e = .returned (.bool (isDig b)) ∧ w' = w := by
  have hways : (b.toNat < 48) ∨ (48 ≤ b.toNat ∧ b.toNat ≤ 57) ∨ 57 < b.toNat := by omega
  unfold isDig
  generalize b.toNat = n at hways ⊢
  rcases hways with h | ⟨h1, h2⟩ | h
  all_goals
    go_enter Tryz.func69, Tryz.ntmps69
    go_wp2
    go_ret
    exact ⟨ret_bool (by first | rfl | (simp; done) | (simp; omega) | (rw [Bool.eq_iff_iff]; simp; omega)), rfl⟩
end Go.Proofs.YtfjlkkohccihnabGreatDoor.Lx
