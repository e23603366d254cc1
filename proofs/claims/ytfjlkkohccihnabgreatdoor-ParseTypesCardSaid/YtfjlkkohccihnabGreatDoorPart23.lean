/- Part of the proof of ParseTypes: the texts that follow, in build order. -/
import Derived.Test.YtfjlkkohccihnabGreatDoorPart22

/- The reference's parser of types: what its calls leave, and type itself. -/
namespace Go.Proofs.YtfjlkkohccihnabGreatDoor
open Go.RowKit
attribute [local go_sem ↓] Go.wp_at_zero Go.wp_at_succ

/-- Where something was read: it lies so, from block lo on. -/
def TyR (lo : Nat) (w : World) (v : Value) (R : Pr Ty) : Prop := ∀ x b, R = .inl (x, b) → TyE lo w v x
section
variable {lo lo' pb b o : Nat} {w w' : World} {v : Value} {R : Pr Ty}
theorem TyR.keep (h : TyR lo w v R) (hs : w.heap.size ≤ w'.heap.size) (hk : ∀ b, lo ≤ b → b < w.heap.size → w'.heap[b]? = w.heap[b]?) : TyR lo w' v R := fun x b e => (h x b e).keep hs hk
theorem TyR.lower (h : TyR lo w v R) (hl : lo' ≤ lo) : TyR lo' w v R := fun x b e => (h x b e).lower hl
theorem TyR.stay (h : TyR lo w v R) (hs : Stay pb w w') (hp : pb < lo) : TyR lo w' v R := fun x b e => (h x b e).stay hs hp
theorem TyR.alloc (h : TyR lo w v R) (o : Obj) : TyR lo (w.alloc o) v R := fun x b e => (h x b e).alloc o
theorem TyR.set1 (h : TyR lo w v R) (hb : b < lo) (o : Nat) (u : Value) : TyR lo (w.setCell ⟨b, o, none⟩ u) v R := fun x c e => (h x c e).set1 hb o u
theorem TyR.set4 (h : TyR lo w v R) (hb : b < lo) (x0 x1 x2 x3 : Value) : TyR lo ((((w.setCell ⟨b, 0, none⟩ x0).setCell ⟨b, 1, none⟩ x1).setCell ⟨b, 2, none⟩ x2).setCell ⟨b, 3, none⟩ x3) v R := fun x c e => (h x c e).set4 hb _ _ _ _
end

/-- What a call leaves that reads a type, wherever it stands. -/
def RTy (pb tb cap : Nat) (ts : List Tok) (d : Nat) (w : World) (R : Pr Ty) (e : Ending) (w' : World) : Prop :=
  Stay pb w w' ∧ RAt w' pb tb cap ts d (stP R) ∧ ∃ (k : Int) (nm : ByteArray) (na : Option Addr) (nl nc : Nat) (ka : Option Addr) (kl kc : Nat), e = .returned (.agg #[.int .i64 k, .string nm, .slice na nl nc, .slice ka kl kc]) ∧ TyR w.heap.size w' (.agg #[.int .i64 k, .string nm, .slice na nl nc, .slice ka kl kc]) R

theorem RAt.alloc {w : World} {pb tb cap d : Nat} {ts : List Tok} {S : Sta} (h : RAt w pb tb cap ts d S) (o : Obj) : RAt (w.alloc o) pb tb cap ts d S := h.below (bl_alloc _ _)
theorem RAt.drew {w : World} {pb tb cap d : Nat} {ts : List Tok} {S : Sta} (h : RAt w pb tb cap ts d S) : RAt w.drew pb tb cap ts d S := h.below (Below.refl _ _).drew
theorem RAt.ltp {w : World} {pb tb cap d : Nat} {ts : List Tok} {S : Sta} (h : RAt w pb tb cap ts d S) : pb < w.heap.size := by
  obtain ⟨a, h⟩ := h
  exact h.ltp
theorem RAt.other {w : World} {pb tb cap d b : Nat} {ts : List Tok} {S : Sta} (h : RAt w pb tb cap ts d S) (hb : pb < b) (o : Nat) (u : Value) : RAt (w.setCell ⟨b, o, none⟩ u) pb tb cap ts d S := by
  obtain ⟨a, h⟩ := h
  exact ⟨a, (Below.heap_setCell _ _ _ _ (by show pb ≠ b; omega)).trans h.blk, h.lt, h.live, h.bad, h.tlt, toksC_keep h.toks (Below.heap_setCell _ _ _ _ (by show tb ≠ b; have := h.tlt; omega))⟩
theorem RAt.setDeep {w : World} {pb tb cap d : Nat} {ts : List Tok} {S : Sta} (h : RAt w pb tb cap ts d S) (n : Nat) : RAt (w.setCell ⟨pb, 2, none⟩ (.int .i64 n)) pb tb cap ts n S := by
  obtain ⟨a, h⟩ := h
  exact ⟨a, h.setDeep n⟩
theorem RAt.deep {w : World} {pb tb cap d : Nat} {ts : List Tok} {S : Sta} (h : RAt w pb tb cap ts d S) : w.cell? ⟨pb, 2, none⟩ = some (.int .i64 d) ∧ w.frozen? ⟨pb, 2, none⟩ = false := by
  obtain ⟨a, h⟩ := h
  exact ⟨h.cells.1.2.2.1, h.cells.2.2.1⟩

/-- While it is read: the boxes that were made hold what they hold. -/
structure RX (pb tb cap : Nat) (ts : List Tok) (w0 w : World) (d : Nat) (S : Sta) (bx : List (Nat × Obj)) : Prop where
  st : Stay pb w0 w
  at_ : RAt w pb tb cap ts d S
  hp : pb < w0.heap.size
  has : ∀ p ∈ bx, w.heap[p.1]? = some p.2 ∧ w0.heap.size ≤ p.1
section
variable {pb tb cap d d' b : Nat} {ts : List Tok} {w0 w w' : World} {S S' : Sta} {bx : List (Nat × Obj)} {o : Obj}
theorem rx_init (h : RAt w0 pb tb cap ts d S) (o : Obj) : RX pb tb cap ts w0 (w0.alloc o) d S [(w0.heap.size, o)] :=
  ⟨Stay.of h.ltp (bl_alloc _ _), h.alloc _, h.ltp, fun p hp => by rw [List.mem_singleton.1 hp]; exact ⟨heap_alloc_last _ _, Nat.le_refl _⟩⟩
theorem RX.step (h : RX pb tb cap ts w0 w d S bx) (hst : Stay pb w w') (hat : RAt w' pb tb cap ts d' S') : RX pb tb cap ts w0 w' d' S' bx :=
  ⟨h.st.trans hst, hat, h.hp, fun p hp => ⟨(hst.keep p.1 (by have := (h.has p hp).2; have := h.hp; omega) (lt_of_block (h.has p hp).1)).trans (h.has p hp).1, (h.has p hp).2⟩⟩
theorem RX.alloc (h : RX pb tb cap ts w0 w d S bx) (o : Obj) : RX pb tb cap ts w0 (w.alloc o) d S ((w.heap.size, o) :: bx) := by
  have h1 := h.step (Stay.of h.at_.ltp (bl_alloc w o)) (h.at_.alloc o)
  refine ⟨h1.st, h1.at_, h1.hp, fun p hp => ?_⟩
  rcases List.mem_cons.1 hp with rfl | hp
  · exact ⟨heap_alloc_last _ _, h.st.size⟩
  · exact h1.has p hp
theorem RX.drew (h : RX pb tb cap ts w0 w d S bx) : RX pb tb cap ts w0 w.drew d S bx := ⟨h.st.drew, h.at_.drew, h.hp, h.has⟩
theorem RX.deep (h : RX pb tb cap ts w0 w d S bx) (n : Nat) : RX pb tb cap ts w0 (w.setCell ⟨pb, 2, none⟩ (.int .i64 n)) n S bx :=
  ⟨h.st.set 2 _, h.at_.setDeep n, h.hp, fun p hp => ⟨(Below.heap_setCell _ _ _ _ (by show p.1 ≠ pb; have := (h.has p hp).2; have := h.hp; omega)).trans (h.has p hp).1, (h.has p hp).2⟩⟩
theorem RX.box (h : RX pb tb cap ts w0 w d S bx) {p : Nat × Obj} (hp : p ∈ bx) : w.heap[p.1]? = some p.2 := (h.has p hp).1
end

theorem RAt.set4 {w : World} {pb tb cap d b : Nat} {ts : List Tok} {S : Sta} (h : RAt w pb tb cap ts d S) (hb : pb < b) (x0 x1 x2 x3 : Value) : RAt ((((w.setCell ⟨b, 0, none⟩ x0).setCell ⟨b, 1, none⟩ x1).setCell ⟨b, 2, none⟩ x2).setCell ⟨b, 3, none⟩ x3) pb tb cap ts d S :=
  (((h.other hb 0 _).other hb 1 _).other hb 2 _).other hb 3 _

theorem rkids2 {lo g : Nat} {w : World} {a0 a1 a2 a3 e0 e1 e2 e3 : Value} {D1 D2 : Ty} {ty : TypeId} (h1 : TyE lo w (.agg #[a0, a1, a2, a3]) D1) (h2 : TyE lo w (.agg #[e0, e1, e2, e3]) D2) (hg : w.heap[g]? = some (.cells #[a0, a1, a2, a3, e0, e1, e2, e3] ty)) (hl : lo ≤ g) : ∃ m, KidsF w lo m (some ⟨g, 0, none⟩) [D1, D2] := by
  obtain ⟨m1, h1⟩ := h1
  obtain ⟨m2, h2⟩ := h2
  refine ⟨max m1 m2, .inr ⟨g, 0, rfl, hl, ⟨_, _, hg⟩, fun i hi => ?_⟩⟩
  match i, hi with
  | 0, _ => exact ⟨a0, a1, a2, a3, by rw [cell_of_row _ _ _ _ _ _ hg]; rfl, by rw [cell_of_row _ _ _ _ _ _ hg]; rfl, by rw [cell_of_row _ _ _ _ _ _ hg]; rfl, by rw [cell_of_row _ _ _ _ _ _ hg]; rfl, tyF_mono h1 (Nat.le_max_left _ _)⟩
  | 1, _ => exact ⟨e0, e1, e2, e3, by rw [cell_of_row _ _ _ _ _ _ hg]; rfl, by rw [cell_of_row _ _ _ _ _ _ hg]; rfl, by rw [cell_of_row _ _ _ _ _ _ hg]; rfl, by rw [cell_of_row _ _ _ _ _ _ hg]; rfl, tyF_mono h2 (Nat.le_max_right _ _)⟩
theorem rtyE_kids {lo : Nat} {w : World} {k : Int} {ka : Option Addr} {kc m : Nat} {ks : List Ty} (hk : (Lit.int .i64 k).wf = true) (h : KidsF w lo m ka ks) (hc : ks.length ≤ kc) (hl : ks.length ≤ 100000) : TyE lo w (.agg #[.int .i64 k, .string ⟨#[]⟩, .slice none 0 0, .slice ka ks.length kc]) (mkT k [] [] ks) :=
  ⟨m + 1, k, ⟨#[]⟩, none, 0, ka, kc, [], ks, rfl, rfl, hk, by decide, (fun _ h => nomatch h), ⟨Nat.le_refl _, Nat.zero_le _⟩, ⟨hc, Nat.le_trans hl (by decide)⟩, .inl rfl, h⟩

theorem deep_back (d : Nat) : ((d + 1 : Nat) : Int) - 1 = (d : Int) := by omega

set_option maxRecDepth 100000 in
set_option maxHeartbeats 4000000 in
theorem rkind_step (pb tb cap d : Nat) (ts : List Tok) (ok : ToksOk ts) (A K : Nat → Pr Ty) (hd : d ≤ 1000)
    (hA : d < 100 → ∀ S w, RAt w pb tb cap ts (d + 1) S → Calls Tryz.prog 66 #[.pointer (some ⟨pb, 0, none⟩)] w (RTy pb tb cap ts (d + 1) w (liftS A S)))
    (hK : d < 100 → ∀ S w, RAt w pb tb cap ts (d + 1) S → Calls Tryz.prog 31 #[.pointer (some ⟨pb, 0, none⟩)] w (RTy pb tb cap ts (d + 1) w (liftS K S)))
    (S : Sta) (w : World) (h : RAt w pb tb cap ts d S) :
    Calls Tryz.prog 31 #[.pointer (some ⟨pb, 0, none⟩)] w (RTy pb tb cap ts d w (liftS (fun a => if 100 ≤ d then badA ts 6 a else (A a).go fun t a => if seesA ts a [45, 62] then (K (a + 1)).go fun r a => .inl (mkT 6 [] [] [t, r], a) else .inl (t, a)) S)) := by
  obtain ⟨R, hR⟩ : ∃ R : Pr Ty, R = liftS (fun a => if 100 ≤ d then badA ts 6 a else (A a).go fun t a => if seesA ts a [45, 62] then (K (a + 1)).go fun r a => .inl (mkT 6 [] [] [t, r], a) else .inl (t, a)) S := ⟨_, rfl⟩
  rw [← hR]
  have HR := hideP hR
  have HA := hideP hA
  have HK := hideP hK
  have OK := hideP ok
  have X0 := hideP (rx_init h zTyO)
  have HEn := hideP (fun wx hx => renter_c pb tb cap d ts S hd wx hx)
  clear h hA hK ok hR
  cases hen : enterB d S with
  | false =>
    have HS : Hid (stP R = enterS ts d S ∧ ∀ x b, R ≠ .inl (x, b)) := by
      show _ ∧ _
      rw [HR.out]
      cases S with
      | inr p =>
        refine ⟨?_, fun x b e => by cases e⟩
        show Sum.inr p = enterS ts d (.inr p)
        unfold enterS
        split <;> rfl
      | inl a =>
        have h100 : 100 ≤ d := by simp [enterB] at hen; exact hen
        refine ⟨?_, fun x b e => ?_⟩
        · show stP (if 100 ≤ d then _ else _) = enterS ts d (.inl a)
          unfold enterS
          rw [if_pos h100, if_pos h100]
          rfl
        · have : (if 100 ≤ d then (badA ts 6 a : Pr Ty) else _) = .inl (x, b) := e
          rw [if_pos h100] at this
          cases this
    rw [hen] at HEn
    clear hen
    go_enter Tryz.func31, Tryz.ntmps31
    go_wp2_with fail
    refine (HEn.out _ X0.out.at_).mono ?_
    rintro e w1 ⟨rfl, hst, hat⟩
    have X1 := hideP (X0.out.step hst hat)
    clear hst hat
    obtain ⟨⟨r0, r1, r2, r3⟩, ⟨f0, f1, f2, f3⟩, hrl⟩ := res_facts (X1.out.box (p := (w.heap.size, zTyO)) (by simp))
    go_wp2_with fail
    refine bodyPost_ret (results_cell_row rfl _ _ w.heap.size 36 _ (0, 0) _ rfl (set4 (X1.out.box (p := (w.heap.size, zTyO)) (by simp)) _ _ _ _) Tryz.underlying36 rfl (by kernel_rfl)) rfl ⟨stay_set4 X1.out.st X1.out.hp (Nat.le_refl _) _ _ _ _, ?_, 0, ⟨#[]⟩, none, 0, 0, none, 0, 0, rfl, fun x b e => absurd e (HS.out.2 x b)⟩
    rw [HS.out.1]
    exact X1.out.at_.set4 X1.out.hp _ _ _ _
  | true =>
    obtain ⟨a, rfl⟩ : ∃ a, S = .inl a := by cases S with
      | inl a => exact ⟨a, rfl⟩
      | inr p => cases hen
    have h100 : ¬ 100 ≤ d := by simp [enterB] at hen; omega
    replace HA := hideP (HA.out (by omega))
    replace HK := hideP (HK.out (by omega))
    have HRl : Hid (R = (A a).go fun t a => if seesA ts a [45, 62] then (K (a + 1)).go fun r a => .inl (mkT 6 [] [] [t, r], a) else .inl (t, a)) := by rw [HR.out]; exact if_neg h100
    have e1 : enterS ts d (.inl a) = .inl a := if_neg h100
    rw [hen, e1] at HEn
    clear hen e1 HR
    go_enter Tryz.func31, Tryz.ntmps31
    go_wp2_with fail
    refine (HEn.out _ X0.out.at_).mono ?_
    rintro e w1 ⟨rfl, hst, hat⟩
    have X1 := hideP (X0.out.step hst hat)
    clear hst hat
    go_wp2_with fail
    refine (HA.out _ _ X1.out.at_).mono ?_
    rintro e w2 ⟨hst, hat, k1, nm1, na1, nl1, nc1, ka1, kl1, kc1, rfl, hv⟩
    have X2 := hideP (X1.out.step hst hat)
    have HV2 := hideP hv
    clear hst hat hv
    obtain ⟨R1, hR1⟩ : ∃ R1, R1 = A a := ⟨_, rfl⟩
    have HR1 := hideP hR1
    have e2 : liftS A (.inl a) = R1 := hR1.symm
    rw [e2] at X2 HV2
    have HRl2 : Hid (R = R1.go fun t a => if seesA ts a [45, 62] then (K (a + 1)).go fun r a => .inl (mkT 6 [] [] [t, r], a) else .inl (t, a)) := by rw [HR1.out]; exact HRl.out
    clear hR1 e2 HRl X0
    have X3 := hideP (X2.out.alloc (tyO k1 nm1 na1 nl1 nc1 ka1 kl1 kc1))
    have HV : Hid (∀ wz, w2.heap.size ≤ wz.heap.size → (∀ b, w.heap.size + 1 ≤ b → b < w2.heap.size → wz.heap[b]? = w2.heap[b]?) → TyR (w.heap.size + 1) wz (.agg #[.int .i64 k1, .string nm1, .slice na1 nl1 nc1, .slice ka1 kl1 kc1]) R1) := fun wz h1 h2 => (HV2.out.lower (lt_of_block (X1.out.box (p := (w.heap.size, zTyO)) (by simp)))).keep h1 h2
    have HF3 : Hid (∀ b, w.heap.size + 1 ≤ b → b < w2.heap.size → (w2.alloc (tyO k1 nm1 na1 nl1 nc1 ka1 kl1 kc1)).heap[b]? = w2.heap[b]?) := fun b _ hl => Below.heap_alloc _ _ _ hl
    have hbl : w.heap.size < w2.heap.size := lt_of_block (X2.out.box (p := (w.heap.size, zTyO)) (by simp))
    clear X1 X2 HV2
    go_wp2_with fail
    generalize w2.alloc (tyO k1 nm1 na1 nl1 nc1 ka1 kl1 kc1) = W3 at X3 HF3 ⊢
    generalize w2.heap.size = tb2 at X3 hbl HF3 HV ⊢
    refine (rtake_c pb tb cap (d + 1) ts (stP R1) [45, 62] W3 X3.out.at_ OK.out).mono ?_
    rintro e w4 ⟨rfl, hst, hat⟩
    have X4 := hideP (X3.out.step hst hat)
    have hT3 := lt_of_block (X3.out.box (p := (tb2, tyO k1 nm1 na1 nl1 nc1 ka1 kl1 kc1)) (by simp))
    have HF4 : Hid (∀ b, w.heap.size + 1 ≤ b → b < tb2 → w4.heap[b]? = w2.heap[b]?) := fun b h1 h2 => (hst.keep b (by have := X3.out.hp; omega) (by omega)).trans (HF3.out b h1 h2)
    clear hst hat X3 HF3 hT3
    obtain ⟨⟨r0, r1, r2, r3⟩, ⟨f0, f1, f2, f3⟩, hrl⟩ := res_facts (X4.out.box (p := (w.heap.size, zTyO)) (by simp))
    obtain ⟨⟨t0, t1, t2, t3⟩, ⟨g0, g1, g2, g3⟩, htl⟩ := res_facts (X4.out.box (p := (tb2, tyO k1 nm1 na1 nl1 nc1 ka1 kl1 kc1)) (by simp))
    obtain ⟨hd1, hd2⟩ := X4.out.at_.deep
    have hpw := X4.out.hp
    have hne1 : ¬ tb2 = w.heap.size := by omega
    have hne2 : ¬ pb = w.heap.size := by omega
    have hne3 : ¬ pb = tb2 := by omega
    have hdk : ((d + 1 : Nat) : Int) - 1 = (d : Int) := deep_back d
    cases hs : seesS ts (stP R1) [45, 62] with
    | false =>
      rw [hs, if_neg (by simp)] at X4
      have HE : Hid (R = R1) := by
        show _ = _
        rw [HRl2.out]
        cases R1 with
        | inr p => rfl
        | inl q =>
          show (if seesA ts q.2 [45, 62] then _ else _) = _
          rw [show seesA ts q.2 [45, 62] = false from hs]
          rfl
      clear hs
      go_wp2_with fail
      have XD := X4.out.deep d
      rw [HE.out]
      refine bodyPost_ret (results_cell_row rfl _ _ w.heap.size 36 _ (0, 0) _ rfl (set4 (XD.box (p := (w.heap.size, zTyO)) (by simp)) _ _ _ _) Tryz.underlying36 rfl (by kernel_rfl)) rfl ⟨stay_set4 XD.st XD.hp (Nat.le_refl _) _ _ _ _, XD.at_.set4 XD.hp _ _ _ _, k1, nm1, na1, nl1, nc1, ka1, kl1, kc1, rfl, ?_⟩
      refine (HV.out _ (by simp only [size_set]; omega) fun b h1 h2 => ?_).lower (by omega)
      exact (other_set4 (by omega) _ _ _ _).trans ((Below.heap_setCell _ _ _ _ (by show b ≠ pb; omega)).trans (HF4.out b h1 h2))
    | true =>
      rw [hs, if_pos rfl] at X4
      obtain ⟨D1, b1, hR1⟩ : ∃ D1 b1, R1 = .inl (D1, b1) := by
        cases R1 with
        | inr p => cases hs
        | inl q => exact ⟨q.1, q.2, rfl⟩
      have HR2 : Hid (R = (K (b1 + 1)).go fun r a => .inl (mkT 6 [] [] [D1, r], a)) := by
        rw [HRl2.out, hR1]
        show (if seesA ts b1 [45, 62] then _ else _) = _
        rw [hR1] at hs
        rw [show seesA ts b1 [45, 62] = true from hs]
        rfl
      have HV1 : Hid (∀ wz, tb2 ≤ wz.heap.size → (∀ b, w.heap.size + 1 ≤ b → b < tb2 → wz.heap[b]? = w2.heap[b]?) → TyE (w.heap.size + 1) wz (.agg #[.int .i64 k1, .string nm1, .slice na1 nl1 nc1, .slice ka1 kl1 kc1]) D1) := fun wz h1 h2 => HV.out wz h1 h2 _ _ hR1
      have e3 : nextS (stP R1) = .inl (b1 + 1) := by rw [hR1]; rfl
      rw [e3] at X4
      clear hs hR1 e3 HRl2 HR1 HV r0 r1 r2 r3 f0 f1 f2 f3 hrl t0 t1 t2 t3 g0 g1 g2 g3 htl hd1 hd2
      obtain ⟨R2, hR2⟩ : ∃ R2, R2 = K (b1 + 1) := ⟨_, rfl⟩
      have HRe : Hid (R = R2.go fun r a => .inl (mkT 6 [] [] [D1, r], a)) := by rw [hR2]; exact HR2.out
      have e4 : liftS K (.inl (b1 + 1)) = R2 := hR2.symm
      have HC := hideP (HK.out _ _ X4.out.at_)
      rw [e4] at HC
      clear hR2 e4 HR2
      go_wp2_with fail
      refine HC.out.mono ?_
      rintro e w5 ⟨hst, hat, k2, nm2, na2, nl2, nc2, ka2, kl2, kc2, rfl, hv⟩
      have X5 := hideP (X4.out.step hst hat)
      have hT4 := lt_of_block (X4.out.box (p := (tb2, tyO k1 nm1 na1 nl1 nc1 ka1 kl1 kc1)) (by simp))
      have HF5 : Hid (∀ b, w.heap.size + 1 ≤ b → b < tb2 → w5.heap[b]? = w2.heap[b]?) := fun b h1 h2 => (hst.keep b (by omega) (by omega)).trans (HF4.out b h1 h2)
      have HV5 : Hid (∀ wz, w5.heap.size ≤ wz.heap.size → (∀ b, tb2 + 1 ≤ b → b < w5.heap.size → wz.heap[b]? = w5.heap[b]?) → TyR (w.heap.size + 1) wz (.agg #[.int .i64 k2, .string nm2, .slice na2 nl2 nc2, .slice ka2 kl2 kc2]) R2) := fun wz h1 h2 => ((hv.lower (show tb2 + 1 ≤ w4.heap.size from hT4)).keep h1 h2).lower (by omega)
      clear hst hat hv HC X4 HF4 hT4
      obtain ⟨⟨r0, r1, r2, r3⟩, ⟨f0, f1, f2, f3⟩, hrl⟩ := res_facts (X5.out.box (p := (w.heap.size, zTyO)) (by simp))
      obtain ⟨⟨t0, t1, t2, t3⟩, ⟨g0, g1, g2, g3⟩, htl⟩ := res_facts (X5.out.box (p := (tb2, tyO k1 nm1 na1 nl1 nc1 ka1 kl1 kc1)) (by simp))
      obtain ⟨hd1, hd2⟩ := X5.out.at_.deep
      have hpl := X5.out.at_.ltp
      have htl5 : tb2 < w5.heap.size := htl
      have hwl5 : w.heap.size < w5.heap.size := hrl
      go_wp2_with fail
      have hbx : w5.heap[w.heap.size]? = some zTyO := X5.out.box (p := (w.heap.size, zTyO)) (by simp)
      have b2 : (((((w5.setCell ⟨tb2, 0, none⟩ (.int .i64 6)).setCell ⟨tb2, 1, none⟩ (.string ⟨#[]⟩)).setCell ⟨tb2, 2, none⟩ (.slice none 0 0)).setCell ⟨tb2, 3, none⟩ (.slice (some ⟨w5.heap.size + 1, 0, none⟩) 2 2)).setCell ⟨pb, 2, none⟩ (.int .i64 d)).heap[w.heap.size]? = some zTyO :=
        (Below.heap_setCell _ _ _ _ (by show w.heap.size ≠ pb; omega)).trans ((other_set4 (by omega) _ _ _ _).trans hbx)
      have hst := (((stay_set4 ((stay_set4 X5.out.st hpw (show w.heap.size ≤ tb2 by omega) (.int .i64 6) (.string ⟨#[]⟩) (.slice none 0 0) (.slice (some ⟨w5.heap.size + 1, 0, none⟩) 2 2)).set 2 (.int .i64 d)) hpw (Nat.le_refl _) (.int .i64 6) (.string ⟨#[]⟩) (.slice none 0 0) (.slice (some ⟨w5.heap.size + 1, 0, none⟩) 2 2)).alloc hpw (.cells #[.int .i64 k2, .string nm2, .slice na2 nl2 nc2, .slice ka2 kl2 kc2] 36)).alloc hpw (.cells #[.int .i64 k1, .string nm1, .slice na1 nl1 nc1, .slice ka1 kl1 kc1, .int .i64 k2, .string nm2, .slice na2 nl2 nc2, .slice ka2 kl2 kc2] 36))
      have hat := ((((X5.out.at_.set4 (show pb < tb2 by omega) (.int .i64 6) (.string ⟨#[]⟩) (.slice none 0 0) (.slice (some ⟨w5.heap.size + 1, 0, none⟩) 2 2)).setDeep d).set4 hpw (.int .i64 6) (.string ⟨#[]⟩) (.slice none 0 0) (.slice (some ⟨w5.heap.size + 1, 0, none⟩) 2 2)).alloc (.cells #[.int .i64 k2, .string nm2, .slice na2 nl2 nc2, .slice ka2 kl2 kc2] 36)).alloc (.cells #[.int .i64 k1, .string nm1, .slice na1 nl1 nc1, .slice ka1 kl1 kc1, .int .i64 k2, .string nm2, .slice na2 nl2 nc2, .slice ka2 kl2 kc2] 36)
      have hbf := (Below.heap_alloc (((((((((((w5.setCell ⟨tb2, 0, none⟩ (.int .i64 6)).setCell ⟨tb2, 1, none⟩ (.string ⟨#[]⟩)).setCell ⟨tb2, 2, none⟩ (.slice none 0 0)).setCell ⟨tb2, 3, none⟩ (.slice (some ⟨w5.heap.size + 1, 0, none⟩) 2 2)).setCell ⟨pb, 2, none⟩ (.int .i64 d)).setCell ⟨w.heap.size, 0, none⟩ (.int .i64 6)).setCell ⟨w.heap.size, 1, none⟩ (.string ⟨#[]⟩)).setCell ⟨w.heap.size, 2, none⟩ (.slice none 0 0)).setCell ⟨w.heap.size, 3, none⟩ (.slice (some ⟨w5.heap.size + 1, 0, none⟩) 2 2))).alloc (.cells #[.int .i64 k2, .string nm2, .slice na2 nl2 nc2, .slice ka2 kl2 kc2] 36)) (.cells #[.int .i64 k1, .string nm1, .slice na1 nl1 nc1, .slice ka1 kl1 kc1, .int .i64 k2, .string nm2, .slice na2 nl2 nc2, .slice ka2 kl2 kc2] 36) w.heap.size (by rw [World.size_alloc]; simp only [size_set]; omega)).trans ((Below.heap_alloc _ (.cells #[.int .i64 k2, .string nm2, .slice na2 nl2 nc2, .slice ka2 kl2 kc2] 36) w.heap.size (by simp only [size_set]; omega)).trans (set4 b2 (.int .i64 6) (.string ⟨#[]⟩) (.slice none 0 0) (.slice (some ⟨w5.heap.size + 1, 0, none⟩) 2 2)))
      have hrow := heap_at1 ((((((((((w5.setCell ⟨tb2, 0, none⟩ (.int .i64 6)).setCell ⟨tb2, 1, none⟩ (.string ⟨#[]⟩)).setCell ⟨tb2, 2, none⟩ (.slice none 0 0)).setCell ⟨tb2, 3, none⟩ (.slice (some ⟨w5.heap.size + 1, 0, none⟩) 2 2)).setCell ⟨pb, 2, none⟩ (.int .i64 d)).setCell ⟨w.heap.size, 0, none⟩ (.int .i64 6)).setCell ⟨w.heap.size, 1, none⟩ (.string ⟨#[]⟩)).setCell ⟨w.heap.size, 2, none⟩ (.slice none 0 0)).setCell ⟨w.heap.size, 3, none⟩ (.slice (some ⟨w5.heap.size + 1, 0, none⟩) 2 2))) (.cells #[.int .i64 k2, .string nm2, .slice na2 nl2 nc2, .slice ka2 kl2 kc2] 36) (.cells #[.int .i64 k1, .string nm1, .slice na1 nl1 nc1, .slice ka1 kl1 kc1, .int .i64 k2, .string nm2, .slice na2 nl2 nc2, .slice ka2 kl2 kc2] 36)
      simp only [size_set] at hrow
      generalize hWf : ((((((((((((w5.setCell ⟨tb2, 0, none⟩ (.int .i64 6)).setCell ⟨tb2, 1, none⟩ (.string ⟨#[]⟩)).setCell ⟨tb2, 2, none⟩ (.slice none 0 0)).setCell ⟨tb2, 3, none⟩ (.slice (some ⟨w5.heap.size + 1, 0, none⟩) 2 2)).setCell ⟨pb, 2, none⟩ (.int .i64 d)).setCell ⟨w.heap.size, 0, none⟩ (.int .i64 6)).setCell ⟨w.heap.size, 1, none⟩ (.string ⟨#[]⟩)).setCell ⟨w.heap.size, 2, none⟩ (.slice none 0 0)).setCell ⟨w.heap.size, 3, none⟩ (.slice (some ⟨w5.heap.size + 1, 0, none⟩) 2 2)).alloc (.cells #[.int .i64 k2, .string nm2, .slice na2 nl2 nc2, .slice ka2 kl2 kc2] 36)).alloc (.cells #[.int .i64 k1, .string nm1, .slice na1 nl1 nc1, .slice ka1 kl1 kc1, .int .i64 k2, .string nm2, .slice na2 nl2 nc2, .slice ka2 kl2 kc2] 36))) = Wf at hst hat hbf hrow ⊢
      have hsz : w5.heap.size ≤ Wf.heap.size := by rw [← hWf, World.size_alloc, World.size_alloc]; simp only [size_set]; omega
      have hke : ∀ b, b ≠ tb2 → b ≠ pb → b ≠ w.heap.size → b < w5.heap.size → Wf.heap[b]? = w5.heap[b]? := fun b h1 h2 h3 h4 => by
        rw [← hWf, Below.heap_alloc _ _ _ (by rw [World.size_alloc]; simp only [size_set]; omega), Below.heap_alloc _ _ _ (by simp only [size_set]; omega), other_set4 h3, Below.heap_setCell _ _ _ _ h2, other_set4 h1]
      clear hWf
      refine bodyPost_ret (results_cell_row rfl _ _ w.heap.size 36 _ (0, 0) _ rfl hbf Tryz.underlying36 rfl (by kernel_rfl)) rfl ⟨hst, ?_, 6, ⟨#[]⟩, none, 0, 0, some ⟨w5.heap.size + 1, 0, none⟩, 2, 2, rfl, ?_⟩
      · rw [HRe.out]
        cases R2 with
        | inr q => exact hat
        | inl q => exact hat
      · intro y c e
        rw [HRe.out] at e
        cases hR2 : R2 with
        | inr q => rw [hR2] at e; cases e
        | inl q =>
          rw [hR2] at e
          injection e with e
          injection e with e _
          rw [← e]
          have g1 := HV1.out Wf (by omega) fun b h1 h2 => (hke b (by omega) (by omega) (by omega) (by omega)).trans (HF5.out b h1 h2)
          have g2 := HV5.out Wf hsz (fun b h1 h2 => hke b (by omega) (by omega) (by omega) h2) q.1 q.2 (by rw [hR2])
          obtain ⟨m, hk⟩ := rkids2 g1 g2 hrow (by omega)
          exact (rtyE_kids (by decide) hk (by simp) (by simp)).lower (by omega)
end Go.Proofs.YtfjlkkohccihnabGreatDoor

/- The reference's parser of types: alt. -/
namespace Go.Proofs.YtfjlkkohccihnabGreatDoor
open Go.RowKit
attribute [local go_sem ↓] Go.wp_at_zero Go.wp_at_succ

/-- A type's four cells; where it was read, the type. -/
def TyQ (lo : Nat) (w : World) (c : List Value) (x : Option Ty) : Prop := (∃ (k : Int) (nm : ByteArray) (na : Option Addr) (nl nc : Nat) (ka : Option Addr) (kl kc : Nat), c = [.int .i64 k, .string nm, .slice na nl nc, .slice ka kl kc]) ∧ ∀ t, x = some t → TyC4 lo w c t
theorem tyQ_k : RepK TyQ where
  keep := fun h hs hk => ⟨h.1, fun t e => tyC4_k.keep (h.2 t e) hs hk⟩
  lower := fun h hl => ⟨h.1, fun t e => tyC4_k.lower (h.2 t e) hl⟩
def okP {α : Type} : Pr α → Option α
  | .inl (x, _) => some x
  | .inr _ => none
theorem tyQ_of {lo : Nat} {w : World} {k : Int} {nm : ByteArray} {na : Option Addr} {nl nc : Nat} {ka : Option Addr} {kl kc : Nat} {R : Pr Ty} (h : TyR lo w (.agg #[.int .i64 k, .string nm, .slice na nl nc, .slice ka kl kc]) R) : TyQ lo w [.int .i64 k, .string nm, .slice na nl nc, .slice ka kl kc] (okP R) :=
  ⟨⟨k, nm, na, nl, nc, ka, kl, kc, rfl⟩, fun t e => by
    cases R with
    | inr p => cases e
    | inl q =>
      obtain ⟨x, b⟩ := q
      injection e with e
      rw [← e]
      exact h x b rfl⟩

/-- Where the list stands: read so far, or something is wrong. -/
def AltAt (ts : List Tok) (one : Nat → Pr Ty) (sep : List UInt8) (Rm : Pr (List Ty)) (S : Sta) (acc : List (Option Ty)) (gk : Nat) : Prop :=
  (∃ b l m, S = .inl b ∧ acc = l.map some ∧ ManyAt ts one sep Rm l m b ∧ ts.length ≤ b + (m + 1) ∧ l.length ≤ b + 1 ∧ ts.length - b ≤ gk) ∨ ∃ e, S = .inr e ∧ Rm = .inr e ∧ acc.length ≤ 8195
theorem RX.drop {pb tb cap d : Nat} {ts : List Tok} {w0 w : World} {S : Sta} {p : Nat × Obj} {bx : List (Nat × Obj)} (h : RX pb tb cap ts w0 w d S (p :: bx)) : RX pb tb cap ts w0 w d S bx := ⟨h.st, h.at_, h.hp, fun q hq => h.has q (List.mem_cons_of_mem _ hq)⟩
theorem AltAt.len {ts : List Tok} {one : Nat → Pr Ty} {sep : List UInt8} {Rm : Pr (List Ty)} {S : Sta} {acc : List (Option Ty)} {gk : Nat} (h : AltAt ts one sep Rm S acc gk) (hb : ∀ b, S = .inl b → b < 8193) : acc.length ≤ 8195 := by
  rcases h with ⟨b, l, m, e, rfl, _, _, h1, _⟩ | ⟨e, _, _, h⟩
  · have := hb b e
    rw [List.length_map]
    omega
  · exact h
theorem alt_start (ts : List Tok) (one : Nat → Pr Ty) (sep : List UInt8) (f : Nat) (S : Sta) (hu : ∀ a x b, one a = .inl (x, b) → a ≤ b) (hf : ∀ a, S = .inl a → ts.length ≤ a + (f + 1)) :
    AltAt ts one sep (liftS (fun a => manyA ts one sep (f + 1) a) S) (stP (liftS one S)) [okP (liftS one S)] ts.length := by
  cases S with
  | inr p => exact .inr ⟨p, rfl, rfl, by show 1 ≤ 8195; decide⟩
  | inl a =>
    cases h : one a with
    | inr e => exact .inr ⟨e, by show stP (one a) = _; rw [h]; rfl, by show manyA ts one sep (f + 1) a = _; exact many_bad h, by show 1 ≤ 8195; decide⟩
    | inl q =>
      obtain ⟨x, b⟩ := q
      have := hu a x b h
      have := hf a rfl
      exact .inl ⟨b, [x], f, by show stP (one a) = _; rw [h]; rfl, by show [okP (one a)] = _; rw [h]; rfl, many_start h, by omega, by show 1 ≤ b + 1; omega, by omega⟩
theorem alt_next {ts : List Tok} {one : Nat → Pr Ty} {sep : List UInt8} {Rm : Pr (List Ty)} {S : Sta} {acc : List (Option Ty)} {gk : Nat} (h : AltAt ts one sep Rm S acc gk) (hs : seesS ts S sep = true) (hb : ∀ b, S = .inl b → b + 1 < ts.length) (ok : ts.length ≤ 8193) (hu : ∀ a x b, one a = .inl (x, b) → a ≤ b) :
    ∃ b, S = .inl b ∧ (∃ g', g' < gk ∧ AltAt ts one sep Rm (stP (liftS one (nextS S))) (acc ++ [okP (liftS one (nextS S))]) g') := by
  rcases h with ⟨b, l, m, rfl, rfl, hm, h1, h2, h3⟩ | ⟨e, rfl, _⟩
  · have hbl := hb b rfl
    obtain ⟨m, rfl⟩ : ∃ q, m = q + 1 := ⟨m - 1, by omega⟩
    refine ⟨b, rfl, ?_⟩
    cases h : one (b + 1) with
    | inr e => exact ⟨0, by omega, .inr ⟨e, by show stP (one (b + 1)) = _; rw [h]; rfl, many_fail hm hs h, by simp; omega⟩⟩
    | inl q =>
      obtain ⟨x, c⟩ := q
      have := hu _ _ _ h
      exact ⟨ts.length - c, by omega, .inl ⟨c, l ++ [x], m, by show stP (one (b + 1)) = _; rw [h]; rfl, by show _ ++ [okP (one (b + 1))] = _; rw [h]; simp [okP], many_next hm hs h, by omega, by simp; omega, Nat.le_refl _⟩⟩
  · cases hs
theorem alt_end {ts : List Tok} {one : Nat → Pr Ty} {sep : List UInt8} {Rm : Pr (List Ty)} {S : Sta} {acc : List (Option Ty)} {gk : Nat} (h : AltAt ts one sep Rm S acc gk) (hs : seesS ts S sep = false) : (∃ b l, S = .inl b ∧ acc = l.map some ∧ Rm = .inl (l, b)) ∨ ∃ e, S = .inr e ∧ Rm = .inr e := by
  rcases h with ⟨b, l, m, rfl, rfl, hm, _⟩ | ⟨e, rfl, h, _⟩
  · exact .inl ⟨b, l, rfl, rfl, many_end hm hs⟩
  · exact .inr ⟨e, rfl, h⟩

theorem rowsQ_map {B et : Nat} {o : Option Nat} {wx : World} {v : Value} {cs : List (List Value)} {l : List Ty} (h : RowsC TyQ B et 4 o wx v cs (l.map some)) : RowsC TyC4 B et 4 o wx v cs l := by
  refine ⟨by rw [h.len, List.length_map], h.each, by have := h.ow; rwa [List.length_map] at this, h.apart, h.olt, fun i h1 h2 => ?_⟩
  obtain ⟨wi, lo, m1, m2⟩ := h.made i h1 (by rw [List.length_map]; exact h2)
  exact ⟨wi, lo, m1.2 _ (by rw [List.getElem_map]), m2⟩

set_option maxRecDepth 100000 in
set_option maxHeartbeats 4000000 in
theorem ralt_c (pb tb cap d : Nat) (ts : List Tok) (ok : ToksOk ts) (one : Nat → Pr Ty) (f : Nat) (hf : ts.length ≤ f + 1) (hu : ∀ a x b, one a = .inl (x, b) → a ≤ b)
    (hP : ∀ S w, RAt w pb tb cap ts d S → Calls Tryz.prog 123 #[.pointer (some ⟨pb, 0, none⟩)] w (RTy pb tb cap ts d w (liftS one S)))
    (S : Sta) (w : World) (h : RAt w pb tb cap ts d S) :
    Calls Tryz.prog 66 #[.pointer (some ⟨pb, 0, none⟩)] w (RTy pb tb cap ts d w ((liftS (fun a => manyA ts one [124] (f + 1) a) S).go fun l a => match l with | [t] => .inl (t, a) | l => .inl (mkT 7 [] [] l, a))) := by
  have H0 := hideP (alt_start ts one [124] f S hu (fun a _ => by omega))
  obtain ⟨Rm, hRm⟩ : ∃ Rm, Rm = liftS (fun a => manyA ts one [124] (f + 1) a) S := ⟨_, rfl⟩
  rw [← hRm] at H0 ⊢
  have HP := hideP hP
  have HU := hideP hu
  have OK := hideP ok
  have X0 := hideP (rx_init h zTyO)
  obtain ⟨i0, hi, hz0, hz1, hz2⟩ := info_parts info_ty
  clear h hP ok hRm hu
  go_enter Tryz.func66, Tryz.ntmps66
  go_wp2_with fail
  refine (HP.out _ _ X0.out.at_).mono ?_
  rintro e w1 ⟨hst, hat, k1, nm1, na1, nl1, nc1, ka1, kl1, kc1, rfl, hv⟩
  have X1 := hideP (X0.out.step hst hat)
  have HR1 := hideP (rows_one (B := w.heap.size + 1) (et := 36) (k := 4) (rep := TyQ) (c := [.int .i64 k1, .string nm1, .slice na1 nl1 nc1, .slice ka1 kl1 kc1]) (tyQ_of hv) (by simp) (by have := hst.size; simp at this; omega) rfl)
  have X2 := hideP (X1.out.alloc (.cells #[.int .i64 k1, .string nm1, .slice na1 nl1 nc1, .slice ka1 kl1 kc1] 36))
  clear hst hat hv X0 X1
  go_wp2_with fail
  go_loopg [3] (ts.length) (fun gk s wr => ∃ (S : Sta) (cs : List (List Value)) (acc : List (Option Ty)), Hid (RX pb tb cap ts w wr d S [(w.heap.size, zTyO)]) ∧ Hid (RowsC TyQ (w.heap.size + 1) 36 4 none wr s cs acc) ∧ Hid (AltAt ts one [124] Rm S acc gk) ∧ 1 ≤ acc.length)
  case atStart => exact ⟨_, _, _, X2.out.drop, HR1, H0, Nat.le_refl 1⟩
  case round =>
    clear X2 HR1 H0
    obtain ⟨S', cs, acc, X, RW, HA, hac1⟩ := hrel
    have hac : acc.length ≤ 8195 := HA.out.len fun b e => by
      obtain ⟨a, ha⟩ := X.out.at_
      have := ha.live b e
      have := ha.lt
      have := OK.out.len
      omega
    go_wp2_with fail
    refine (rtake_c pb tb cap d ts S' [124] _ X.out.at_ OK.out).mono ?_
    rintro e w2 ⟨rfl, hst, hat⟩
    have XT := hideP (X.out.step hst hat)
    have RT := hideP (RW.out.stay hst (by have := X.out.hp; omega))
    clear hst hat RW
    cases hs : seesS ts S' [124] with
    | false =>
      rw [hs, if_neg (by simp)] at XT
      have HE := hideP (alt_end HA.out hs)
      clear hs HA X
      obtain ⟨av, cv, rfl, hcv, hform⟩ := RT.out.form tyQ_k
      obtain ⟨g, rfl, hgB, hgc, hel⟩ : ∃ g, av = some ⟨g, 0, none⟩ ∧ w.heap.size + 1 ≤ g ∧ CleanB w2 g ∧ ∀ i (hi : i < acc.length), ∃ c : List Value, c.length = 4 ∧ (∀ j, j < 4 → w2.cell? ⟨g, i * 4 + j, none⟩ = c[j]?) ∧ TyQ (w.heap.size + 1) w2 c acc[i] := by
        rcases hform with e | h
        · rw [e] at hac1; exact absurd hac1 (by simp)
        · exact h
      obtain ⟨c, _, hcj, ⟨k0, nm0, na0, nl0, nc0, ka0, kl0, kc0, rfl⟩, hcq⟩ := hel 0 hac1
      have q0 := hcj 0 (by decide)
      have q1 := hcj 1 (by decide)
      have q2 := hcj 2 (by decide)
      have q3 := hcj 3 (by decide)
      have HCQ := hideP hcq
      simp only [Nat.zero_mul, Nat.zero_add] at q0 q1 q2 q3
      have hgl := clean_lt hgc
      clear hcj hcq hel hform hgc
      have hbx := XT.out.box (p := (w.heap.size, zTyO)) (by simp)
      obtain ⟨⟨r0, r1, r2, r3⟩, ⟨f0, f1, f2, f3⟩, hrl⟩ := res_facts hbx
      have HBX := hideP hbx
      clear hbx
      have hne : ¬ g = w.heap.size := by omega
      have hp := XT.out.hp
      by_cases h1 : acc.length = 1
      · have HL1 := hideP h1
        have h1' : ((acc.length : Int) == 1) = true := by rw [h1]; rfl
        clear h1
        go_wp2_with fail
        have one_of : ∀ l : List Ty, acc = l.map some → ∃ t, l = [t] := fun l e => by
          have := HL1.out
          rw [e, List.length_map] at this
          exact List.length_eq_one_iff.1 this
        refine bodyPost_ret (results_cell_row rfl _ _ w.heap.size 36 _ (0, 0) _ rfl (set4 HBX.out _ _ _ _) Tryz.underlying36 rfl (by kernel_rfl)) rfl ⟨stay_set4 XT.out.st hp (Nat.le_refl _) _ _ _ _, ?_, k0, nm0, na0, nl0, nc0, ka0, kl0, kc0, rfl, ?_⟩
        · have := XT.out.at_.set4 hp (.int .i64 k0) (.string nm0) (.slice na0 nl0 nc0) (.slice ka0 kl0 kc0)
          rcases HE.out with ⟨b, l, rfl, e2, e3⟩ | ⟨e, rfl, e3⟩
          · obtain ⟨t, rfl⟩ := one_of l e2
            rw [e3]; exact this
          · rw [e3]; exact this
        · intro y cc ey
          rcases HE.out with ⟨b, l, rfl, e2, e3⟩ | ⟨e, rfl, e3⟩
          · obtain ⟨t, rfl⟩ := one_of l e2
            rw [e3] at ey
            injection ey with ey
            injection ey with ey _
            rw [← ey]
            have hq := HCQ.out t (by simp only [e2, List.map_cons, List.getElem_cons_zero])
            exact TyE.lower (TyE.set4 (show TyE (w.heap.size + 1) w2 _ t from hq) (by omega) _ _ _ _) (by omega)
          · rw [e3] at ey; cases ey
      · have h1' : ((acc.length : Int) == 1) = false := by rw [beq_eq_false_iff_ne]; omega
        have HL1 := hideP h1
        clear h1
        go_wp2_with fail
        refine bodyPost_ret (results_cell_row rfl _ _ w.heap.size 36 _ (0, 0) _ rfl (set4 HBX.out _ _ _ _) Tryz.underlying36 rfl (by kernel_rfl)) rfl ⟨stay_set4 XT.out.st hp (Nat.le_refl _) _ _ _ _, ?_, 7, ⟨#[]⟩, none, 0, 0, some ⟨g, 0, none⟩, acc.length, cv, rfl, ?_⟩
        · have := XT.out.at_.set4 hp (.int .i64 7) (.string ⟨#[]⟩) (.slice none 0 0) (.slice (some ⟨g, 0, none⟩) acc.length cv)
          rcases HE.out with ⟨b, l, rfl, e2, e3⟩ | ⟨e, rfl, e3⟩
          · rw [e3]
            match l, e2 with
            | [], _ => exact this
            | [t], e2 => exact absurd (by rw [e2]; rfl) HL1.out
            | _ :: _ :: _, _ => exact this
          · rw [e3]; exact this
        · intro y cc ey
          rcases HE.out with ⟨b, l, rfl, e2, e3⟩ | ⟨e, rfl, e3⟩
          · have hy : y = mkT 7 [] [] l := by
              rw [e3] at ey
              match l, e2, ey with
              | [], _, ey => injection ey with ey; injection ey with ey _; exact ey.symm
              | [t], e2, _ => exact absurd (by rw [e2]; rfl) HL1.out
              | _ :: _ :: _, _, ey => injection ey with ey; injection ey with ey _; exact ey.symm
            rw [hy]
            have hr := RT.out
            rw [e2] at hr
            obtain ⟨a', cap', m, ea, hcl, hk⟩ := rows_kids (rowsQ_map hr)
            rw [List.length_map] at ea
            injection ea with ea _ ec
            subst ea ec
            have hl8 : l.length ≤ 8195 := by rw [e2, List.length_map] at hac; exact hac
            have hk2 := kidsF_keep hk (w' := ((((w2.setCell ⟨w.heap.size, 0, none⟩ (.int .i64 7)).setCell ⟨w.heap.size, 1, none⟩ (.string ⟨#[]⟩)).setCell ⟨w.heap.size, 2, none⟩ (.slice none 0 0)).setCell ⟨w.heap.size, 3, none⟩ (.slice (some ⟨g, 0, none⟩) acc.length cv))) (by rw [size_set4]; exact Nat.le_refl _) fun b hb _ => other_set4 (by omega) _ _ _ _
            have := rtyE_kids (k := 7) (by decide) hk2 hcl (by omega)
            rw [e2, List.length_map]
            rw [e2, List.length_map] at this
            refine TyE.lower this ?_
            omega
          · rw [e3] at ey; cases ey
    | true =>
      have hnx : ∀ b, S' = .inl b → b + 1 < ts.length := fun b e => by
        obtain ⟨a, ha⟩ := X.out.at_
        have hb := ha.live b e
        subst hb
        rw [e] at hs
        exact sees_next OK.out.ends ha.lt hs
      obtain ⟨b, hSb, g', hg', hnext⟩ := alt_next HA.out hs hnx OK.out.len HU.out
      have HN := hideP hnext
      rw [hs, if_pos rfl] at XT
      clear hs HA X hnx hSb hnext
      obtain ⟨R2, hR2⟩ : ∃ R2, R2 = liftS one (nextS S') := ⟨_, rfl⟩
      have HC := hideP (HP.out _ _ XT.out.at_)
      rw [← hR2] at HN HC
      clear hR2
      obtain ⟨av, cv, rfl⟩ := row_shape RT.out.ow
      go_wp2_with fail
      refine HC.out.mono ?_
      rintro e w3 ⟨hst, hat, k2, nm2, na2, nl2, nc2, ka2, kl2, kc2, rfl, hv⟩
      have X3 := hideP (((XT.out.step hst hat).alloc (.cells #[.int .i64 k2, .string nm2, .slice na2 nl2 nc2, .slice ka2 kl2 kc2] 36)).drop)
      have HQ := hideP (tyQ_of hv)
      have hs3 := hst.size
      have RW3 := hideP (RT.out.stay (hst.trans ((Stay.refl pb w3).alloc (Nat.lt_of_lt_of_le XT.out.at_.ltp hst.size) (.cells #[.int .i64 k2, .string nm2, .slice na2 nl2 nc2, .slice ka2 kl2 kc2] 36))) (by have := XT.out.hp; omega))
      have HMd := hideP ((Made.new (rep := TyQ) (B := w.heap.size + 1) (tyQ_of hv) (lt_of_block (XT.out.box (p := (w.heap.size, zTyO)) (by simp))) fun q hq => RT.out.all q hq).stay ((Stay.refl pb w3).alloc (Nat.lt_of_lt_of_le XT.out.at_.ltp hst.size) (.cells #[.int .i64 k2, .string nm2, .slice na2 nl2 nc2, .slice ka2 kl2 kc2] 36)) (by have := XT.out.hp; omega))
      have hwl : w.heap.size < w3.heap.size := Nat.lt_of_lt_of_le (lt_of_block (XT.out.box (p := (w.heap.size, zTyO)) (by simp))) hst.size
      have HCN : Hid (∀ j u, ([.int .i64 k2, .string nm2, .slice na2 nl2 nc2, .slice ka2 kl2 kc2] : List Value)[j]? = some u → ((w3.alloc (.cells #[.int .i64 k2, .string nm2, .slice na2 nl2 nc2, .slice ka2 kl2 kc2] 36)).alloc (.cells #[.int .i64 k2, .string nm2, .slice na2 nl2 nc2, .slice ka2 kl2 kc2] 36)).cell? ((⟨w3.heap.size + 1, 0, none⟩ : Addr).add j) = some u) := fun j u h => by
        have := cells_newK (w3.alloc (.cells #[.int .i64 k2, .string nm2, .slice na2 nl2 nc2, .slice ka2 kl2 kc2] 36)) [.int .i64 k2, .string nm2, .slice na2 nl2 nc2, .slice ka2 kl2 kc2] 36 j u h
        rw [World.size_alloc] at this
        exact this
      clear hst hat hv HC
      go_wp2_with (at_builtin; refine wpList_append_own_at _ rfl (.tmp 15) (.tmp 17) 23 rfl (w.heap.size + 1) 36 i0 _ 4 72 Tryz.underlying23 hi hz0 hz1 hz2 rfl (by decide) _ _ _ rfl (RW3.out.ow.alloc _) ⟨_, 0, none⟩ 1 1 [.int .i64 k2, .string nm2, .slice na2 nl2 nc2, .slice ka2 kl2 kc2] rfl rfl HCN.out (by simp [Value.oneCell']) (by unfold maxLen; omega) (by omega) (by simp; omega) ?_)
      intro v' w4 hown' hgrow _ hloc
      have HR4 : Hid (RowsC TyQ (w.heap.size + 1) 36 4 none w4 v' (cs ++ [[.int .i64 k2, .string nm2, .slice na2 nl2 nc2, .slice ka2 kl2 kc2]]) (acc ++ [okP R2])) :=
        RW3.out.put hown' hgrow (hloc.imp_right fun e => ⟨_, e, by simp⟩) ((Stay.refl pb _).alloc X3.out.at_.ltp _) (by have := X3.out.hp; omega) rfl (HMd.out.stay ((Stay.refl pb _).alloc X3.out.at_.ltp _) (by have := X3.out.hp; omega))
      have HX4 : Hid (RX pb tb cap ts w w4 d (stP R2) [(w.heap.size, zTyO)]) := by
        have hX := (X3.out.alloc (.cells #[.int .i64 k2, .string nm2, .slice na2 nl2 nc2, .slice ka2 kl2 kc2] 36)).drop
        have hlt : ∀ q, (Value.slice av acc.length cv).ownBlock = some q → w.heap.size + 1 ≤ q := fun q hq => (RW3.out.own q hq).1
        refine ⟨hX.st.grown hgrow hX.hp fun q hq => by have := hlt q hq; omega, ?_, hX.hp, fun p hp => ?_⟩
        · obtain ⟨a, ha⟩ := hX.at_
          have hp := hX.hp
          exact ⟨a, (hgrow.block _ ha.ltp (fun e => by have := hlt _ e.symm; omega)).trans ha.blk, ha.lt, ha.live, ha.bad, ha.tlt, toksC_keep ha.toks (hgrow.block _ (Nat.lt_trans ha.tlt ha.ltp) (fun e => by have := hlt _ e.symm; have := ha.tlt; omega))⟩
        · rw [List.mem_singleton.1 hp]
          exact ⟨(hgrow.block _ (lt_of_block (hX.box (p := (w.heap.size, zTyO)) (by simp))) (fun e => by have := hlt _ e.symm; omega)).trans (hX.box (p := (w.heap.size, zTyO)) (by simp)), Nat.le_refl _⟩
      clear hown' hgrow hloc
      go_wp2_with fail
      go_roundg g'
      case measure => exact hg'
      case rel => exact ⟨_, _, _, HX4, HR4, HN, by simp⟩
end Go.Proofs.YtfjlkkohccihnabGreatDoor
