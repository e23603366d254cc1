/- Part. -/
import Derived.Test.YtlhmofphpfdjlaaGreatDoorPart23
set_option maxRecDepth 100000
set_option maxHeartbeats 4000000
/- Tags; which expression begins. -/
namespace Go.Proofs.YtlhmofphpfdjlaaGreatDoor
open Go.Proofs.Tryz
open Go.RowKit
attribute [local go_sem ↓] Go.wp_at_zero Go.wp_at_succ
def IntE (_ : Nat) (_ : World) (v : Value) (x : Int) : Prop := v = .int .i64 x
def tagA (ts : List Tok) (a : Nat) : Pr Int := if 0 <= whichV (tkA ts a) tagsA then .inl (whichV (tkA ts a) tagsA, a + 1) else badA ts 7 a
theorem tag_c (pb tb cap d : Nat) (ts : List Tok) (ok : ToksOk ts) (a : Nat) (w : World) (h : Ps w pb tb cap ts a d) :
    Calls prog 126 #[.pointer (some ⟨pb, 0, none⟩)] w (PPost pb tb cap ts d w IntE (tagA ts a)) := by
  have H := hideP h
  have OK := hideP ok
  have hp := h.ltp
  have HW := hideP (which_new pb tb cap a w.heap.size 6 ts tagsA w 9 h.rd rfl (by simp [tagsA]))
  have HN : Hid (0 <= whichV (tkA ts a) tagsA -> a + 1 < ts.length) := fun hv => by
    have := which_any ts a tagsA
    rw [show decide (0 <= whichV (tkA ts a) tagsA) = true by simpa using hv] at this
    obtain ⟨s, _, h2⟩ := List.any_eq_true.1 this.symm
    exact sees_next ok.ends h.lt h2
  clear h ok
  unfold tagA
  obtain ⟨kv, hkv⟩ : ∃ kv, kv = whichV (tkA ts a) tagsA := ⟨_, rfl⟩
  rw [<- hkv] at HW HN ⊢
  clear hkv
  by_cases h0 : 0 <= kv
  · rw [if_pos h0]
    have hlt : ¬ kv < 0 := by omega
    have HN1 := hideP (HN.out h0)
    clear h0
    go_enter func126, ntmps126
    go_wp2_with fail
    refine HW.out.mono ?_
    rintro e w1 ⟨rfl, hb1⟩
    have P1 := hideP (H.out.below hb1)
    have HB1 := hideP hb1
    clear hb1
    go_wp2_with fail
    refine (pass_c pb tb cap a d ts _ P1.out HN1.out OK.out.len).mono ?_
    rintro e w2 ⟨rfl, hst, hps⟩
    have HP := hideP hps
    have HST := hideP ((Stay.of hp HB1.out).trans hst)
    clear hst hps
    go_wp2_with fail
    go_ret
    exact ⟨HST.out, HP.out, _, rfl, rfl⟩
  · rw [if_neg h0]
    have hlt : kv < 0 := by omega
    clear h0
    go_enter func126, ntmps126
    go_wp2_with fail
    refine HW.out.mono ?_
    rintro e w1 ⟨rfl, hb1⟩
    have P1 := hideP (H.out.below hb1)
    have HB1 := hideP hb1
    clear hb1
    go_wp2_with fail
    refine (wrong_c pb tb cap a d ts _ P1.out 7).mono ?_
    rintro e w2 ⟨rfl, hb2⟩
    have HB2 := hideP (below_next HB1.out hb2)
    clear hb2
    go_wp2_with fail
    exact ⟨rfl, Stay.of hp HB2.out, rfl⟩
theorem here_let (pb tb cap d a : Nat) (ts : List Tok) (r0 : Pr Ty) (hc : ∀ w, Ps w pb tb cap ts a d -> Calls prog 54 #[.pointer (some ⟨pb, 0, none⟩)] w (PPost pb tb cap ts d w NdE r0)) (h0 : seesA ts a [108, 101, 116] = true) (ok : ToksOk ts) (w : World) (h : Ps w pb tb cap ts a d) :
    Calls prog 26 #[.pointer (some ⟨pb, 0, none⟩)] w (PPost pb tb cap ts d w NdE (r0.go fun x b => .inl (x, b))) := by
  have H := hideP h
  have OK := hideP ok
  have hp := h.ltp
  have HC := hideP hc
  have HS0 := hideP h0
  have C0 := hideP (ctx_init h zNV.obj)
  obtain ⟨R, hR⟩ : ∃ R : Pr Ty, R = (r0.go fun x b => .inl (x, b)) := ⟨_, rfl⟩
  rw [<- hR]
  have HR0 := hideP hR
  clear h ok hR hc h0
  go_enter func26, ntmps26
  go_wp2_with fail
  refine (is_new pb tb cap a _ 1 ts [[108, 101, 116]] _ _ C0.out.ps.rd (by simp) (by simp)).mono ?_
  rw [any_one, HS0.out]
  rintro e w1 ⟨rfl, hb⟩
  have C1 := hideP (C0.out.below hb)
  clear hb
  go_wp2_with fail
  refine (HC.out _ C1.out.ps).mono ?_
  intro e w2 hpost
  rcases ppost_or hpost with ⟨er, li, co, hr, rfl, hst⟩ | ⟨D, b, v, hr, rfl, hst, hps, hv⟩
  · have HE : Hid (R = .inr (er, li, co)) := by rw [HR0.out, hr]; exact rfl
    have HF := hideP (C1.out.st.trans hst)
    clear hr hst hpost
    go_wp2_with fail
    exact ⟨rfl, HF.out, by rw [HE.out]⟩
  have HR1 : Hid (R = .inl (D, b)) := by rw [HR0.out, hr]; exact rfl
  obtain ⟨x, rfl, hv⟩ := hv
  have C2 := hideP ((C1.out.step hst hps).addN hv C1.out.sz)
  clear hr hst hps hpost hv
  obtain ⟨⟨r0, r1, r2, r3, r4, r5, r6, r7⟩, ⟨f0, f1, f2, f3, f4, f5, f6, f7⟩, hr1⟩ := box8 (x := zNV) (C2.out.b0)
  go_wp2_with fail
  rw [HR1.out]
  refine bodyPost_ret (results_cell_row rfl _ _ w.heap.size 27 _ (0, 0) _ rfl (put8_heap (x := x) C2.out.b0) underlying27 rfl (by kernel_rfl)) rfl ⟨stay_put8 C2.out.st hp (Nat.le_refl _) (x), ps_put8 C2.out.ps hp (x), _, rfl, x, rfl, ?_⟩
  exact ((C2.out.n0).put8 (Nat.lt_succ_self _) (x)).lower (Nat.le_succ _)
theorem here_if (pb tb cap d a : Nat) (ts : List Tok) (r0 : Pr Ty) (hc : ∀ w, Ps w pb tb cap ts a d -> Calls prog 55 #[.pointer (some ⟨pb, 0, none⟩)] w (PPost pb tb cap ts d w NdE r0)) (h0 : seesA ts a [108, 101, 116] = false) (h1 : seesA ts a [105, 102] = true) (ok : ToksOk ts) (w : World) (h : Ps w pb tb cap ts a d) :
    Calls prog 26 #[.pointer (some ⟨pb, 0, none⟩)] w (PPost pb tb cap ts d w NdE (r0.go fun x b => .inl (x, b))) := by
  have H := hideP h
  have OK := hideP ok
  have hp := h.ltp
  have HC := hideP hc
  have HS0 := hideP h0
  have HS1 := hideP h1
  have C0 := hideP (ctx_init h zNV.obj)
  obtain ⟨R, hR⟩ : ∃ R : Pr Ty, R = (r0.go fun x b => .inl (x, b)) := ⟨_, rfl⟩
  rw [<- hR]
  have HR0 := hideP hR
  clear h ok hR hc h0 h1
  go_enter func26, ntmps26
  go_wp2_with fail
  refine (is_new pb tb cap a _ 1 ts [[108, 101, 116]] _ _ C0.out.ps.rd (by simp) (by simp)).mono ?_
  rw [any_one, HS0.out]
  rintro e w1 ⟨rfl, hb⟩
  have C1 := hideP (C0.out.below hb)
  clear hb
  go_wp2_with fail
  refine (is_new pb tb cap a _ 1 ts [[105, 102]] _ _ C1.out.ps.rd (by simp) (by simp)).mono ?_
  rw [any_one, HS1.out]
  rintro e w2 ⟨rfl, hb⟩
  have C2 := hideP (C1.out.below hb)
  clear hb
  go_wp2_with fail
  refine (HC.out _ C2.out.ps).mono ?_
  intro e w3 hpost
  rcases ppost_or hpost with ⟨er, li, co, hr, rfl, hst⟩ | ⟨D, b, v, hr, rfl, hst, hps, hv⟩
  · have HE : Hid (R = .inr (er, li, co)) := by rw [HR0.out, hr]; exact rfl
    have HF := hideP (C2.out.st.trans hst)
    clear hr hst hpost
    go_wp2_with fail
    exact ⟨rfl, HF.out, by rw [HE.out]⟩
  have HR1 : Hid (R = .inl (D, b)) := by rw [HR0.out, hr]; exact rfl
  obtain ⟨x, rfl, hv⟩ := hv
  have C3 := hideP ((C2.out.step hst hps).addN hv C2.out.sz)
  clear hr hst hps hpost hv
  obtain ⟨⟨r0, r1, r2, r3, r4, r5, r6, r7⟩, ⟨f0, f1, f2, f3, f4, f5, f6, f7⟩, hr1⟩ := box8 (x := zNV) (C3.out.b0)
  go_wp2_with fail
  rw [HR1.out]
  refine bodyPost_ret (results_cell_row rfl _ _ w.heap.size 27 _ (0, 0) _ rfl (put8_heap (x := x) C3.out.b0) underlying27 rfl (by kernel_rfl)) rfl ⟨stay_put8 C3.out.st hp (Nat.le_refl _) (x), ps_put8 C3.out.ps hp (x), _, rfl, x, rfl, ?_⟩
  exact ((C3.out.n0).put8 (Nat.lt_succ_self _) (x)).lower (Nat.le_succ _)
theorem here_fn (pb tb cap d a : Nat) (ts : List Tok) (r0 : Pr Ty) (hc : ∀ w, Ps w pb tb cap ts a d -> Calls prog 56 #[.pointer (some ⟨pb, 0, none⟩)] w (PPost pb tb cap ts d w NdE r0)) (h0 : seesA ts a [108, 101, 116] = false) (h1 : seesA ts a [105, 102] = false) (h2 : seesA ts a [102, 110] = true) (ok : ToksOk ts) (w : World) (h : Ps w pb tb cap ts a d) :
    Calls prog 26 #[.pointer (some ⟨pb, 0, none⟩)] w (PPost pb tb cap ts d w NdE (r0.go fun x b => .inl (x, b))) := by
  have H := hideP h
  have OK := hideP ok
  have hp := h.ltp
  have HC := hideP hc
  have HS0 := hideP h0
  have HS1 := hideP h1
  have HS2 := hideP h2
  have C0 := hideP (ctx_init h zNV.obj)
  obtain ⟨R, hR⟩ : ∃ R : Pr Ty, R = (r0.go fun x b => .inl (x, b)) := ⟨_, rfl⟩
  rw [<- hR]
  have HR0 := hideP hR
  clear h ok hR hc h0 h1 h2
  go_enter func26, ntmps26
  go_wp2_with fail
  refine (is_new pb tb cap a _ 1 ts [[108, 101, 116]] _ _ C0.out.ps.rd (by simp) (by simp)).mono ?_
  rw [any_one, HS0.out]
  rintro e w1 ⟨rfl, hb⟩
  have C1 := hideP (C0.out.below hb)
  clear hb
  go_wp2_with fail
  refine (is_new pb tb cap a _ 1 ts [[105, 102]] _ _ C1.out.ps.rd (by simp) (by simp)).mono ?_
  rw [any_one, HS1.out]
  rintro e w2 ⟨rfl, hb⟩
  have C2 := hideP (C1.out.below hb)
  clear hb
  go_wp2_with fail
  refine (is_new pb tb cap a _ 1 ts [[102, 110]] _ _ C2.out.ps.rd (by simp) (by simp)).mono ?_
  rw [any_one, HS2.out]
  rintro e w3 ⟨rfl, hb⟩
  have C3 := hideP (C2.out.below hb)
  clear hb
  go_wp2_with fail
  refine (HC.out _ C3.out.ps).mono ?_
  intro e w4 hpost
  rcases ppost_or hpost with ⟨er, li, co, hr, rfl, hst⟩ | ⟨D, b, v, hr, rfl, hst, hps, hv⟩
  · have HE : Hid (R = .inr (er, li, co)) := by rw [HR0.out, hr]; exact rfl
    have HF := hideP (C3.out.st.trans hst)
    clear hr hst hpost
    go_wp2_with fail
    exact ⟨rfl, HF.out, by rw [HE.out]⟩
  have HR1 : Hid (R = .inl (D, b)) := by rw [HR0.out, hr]; exact rfl
  obtain ⟨x, rfl, hv⟩ := hv
  have C4 := hideP ((C3.out.step hst hps).addN hv C3.out.sz)
  clear hr hst hps hpost hv
  obtain ⟨⟨r0, r1, r2, r3, r4, r5, r6, r7⟩, ⟨f0, f1, f2, f3, f4, f5, f6, f7⟩, hr1⟩ := box8 (x := zNV) (C4.out.b0)
  go_wp2_with fail
  rw [HR1.out]
  refine bodyPost_ret (results_cell_row rfl _ _ w.heap.size 27 _ (0, 0) _ rfl (put8_heap (x := x) C4.out.b0) underlying27 rfl (by kernel_rfl)) rfl ⟨stay_put8 C4.out.st hp (Nat.le_refl _) (x), ps_put8 C4.out.ps hp (x), _, rfl, x, rfl, ?_⟩
  exact ((C4.out.n0).put8 (Nat.lt_succ_self _) (x)).lower (Nat.le_succ _)
theorem here_or (pb tb cap d a : Nat) (ts : List Tok) (r0 : Pr Ty) (hc : ∀ w, Ps w pb tb cap ts a d -> Calls prog 57 #[.pointer (some ⟨pb, 0, none⟩)] w (PPost pb tb cap ts d w NdE r0)) (h0 : seesA ts a [108, 101, 116] = false) (h1 : seesA ts a [105, 102] = false) (h2 : seesA ts a [102, 110] = false) (ok : ToksOk ts) (w : World) (h : Ps w pb tb cap ts a d) :
    Calls prog 26 #[.pointer (some ⟨pb, 0, none⟩)] w (PPost pb tb cap ts d w NdE (r0.go fun x b => .inl (x, b))) := by
  have H := hideP h
  have OK := hideP ok
  have hp := h.ltp
  have HC := hideP hc
  have HS0 := hideP h0
  have HS1 := hideP h1
  have HS2 := hideP h2
  have C0 := hideP (ctx_init h zNV.obj)
  obtain ⟨R, hR⟩ : ∃ R : Pr Ty, R = (r0.go fun x b => .inl (x, b)) := ⟨_, rfl⟩
  rw [<- hR]
  have HR0 := hideP hR
  clear h ok hR hc h0 h1 h2
  go_enter func26, ntmps26
  go_wp2_with fail
  refine (is_new pb tb cap a _ 1 ts [[108, 101, 116]] _ _ C0.out.ps.rd (by simp) (by simp)).mono ?_
  rw [any_one, HS0.out]
  rintro e w1 ⟨rfl, hb⟩
  have C1 := hideP (C0.out.below hb)
  clear hb
  go_wp2_with fail
  refine (is_new pb tb cap a _ 1 ts [[105, 102]] _ _ C1.out.ps.rd (by simp) (by simp)).mono ?_
  rw [any_one, HS1.out]
  rintro e w2 ⟨rfl, hb⟩
  have C2 := hideP (C1.out.below hb)
  clear hb
  go_wp2_with fail
  refine (is_new pb tb cap a _ 1 ts [[102, 110]] _ _ C2.out.ps.rd (by simp) (by simp)).mono ?_
  rw [any_one, HS2.out]
  rintro e w3 ⟨rfl, hb⟩
  have C3 := hideP (C2.out.below hb)
  clear hb
  go_wp2_with fail
  refine (HC.out _ C3.out.ps).mono ?_
  intro e w4 hpost
  rcases ppost_or hpost with ⟨er, li, co, hr, rfl, hst⟩ | ⟨D, b, v, hr, rfl, hst, hps, hv⟩
  · have HE : Hid (R = .inr (er, li, co)) := by rw [HR0.out, hr]; exact rfl
    have HF := hideP (C3.out.st.trans hst)
    clear hr hst hpost
    go_wp2_with fail
    exact ⟨rfl, HF.out, by rw [HE.out]⟩
  have HR1 : Hid (R = .inl (D, b)) := by rw [HR0.out, hr]; exact rfl
  obtain ⟨x, rfl, hv⟩ := hv
  have C4 := hideP ((C3.out.step hst hps).addN hv C3.out.sz)
  clear hr hst hps hpost hv
  obtain ⟨⟨r0, r1, r2, r3, r4, r5, r6, r7⟩, ⟨f0, f1, f2, f3, f4, f5, f6, f7⟩, hr1⟩ := box8 (x := zNV) (C4.out.b0)
  go_wp2_with fail
  rw [HR1.out]
  refine bodyPost_ret (results_cell_row rfl _ _ w.heap.size 27 _ (0, 0) _ rfl (put8_heap (x := x) C4.out.b0) underlying27 rfl (by kernel_rfl)) rfl ⟨stay_put8 C4.out.st hp (Nat.le_refl _) (x), ps_put8 C4.out.ps hp (x), _, rfl, x, rfl, ?_⟩
  exact ((C4.out.n0).put8 (Nat.lt_succ_self _) (x)).lower (Nat.le_succ _)
end Go.Proofs.YtlhmofphpfdjlaaGreatDoor
