/- Part. -/
import Derived.Test.YtlhmofphpfdjlaaGreatDoorPart16
set_option maxRecDepth 100000
set_option maxHeartbeats 4000000
/- within, and what hands an expression through: expr, unary, the five ranks. -/
namespace Go.Proofs.YtlhmofphpfdjlaaGreatDoor
open Go.Proofs.Tryz
open Go.RowKit
theorem withinN_c (pb tb cap a d g : Nat) (ts : List Tok) (r : Pr Ty) (hd : d < 100) (hg : ∀ w, Ps w pb tb cap ts a (d + 1) -> Calls prog g #[.pointer (some ⟨pb, 0, none⟩)] w (PPost pb tb cap ts (d + 1) w NdE r)) (hen : Enters g pb)
    (w : World) (h : Ps w pb tb cap ts a d) :
    Calls prog 25 #[.pointer (some ⟨pb, 0, none⟩), .func (.func g) #[] #[]] w (PPost pb tb cap ts d w NdE r) := by
  have H := hideP h
  have HG := hideP hg
  have hp := h.ltp
  obtain ⟨c0, c1, c2⟩ := h.cells
  have z2 := h.fz 2
  have hd1 : ((d : Int) == 100) = false := by simp; omega
  clear h hg
  go_enter func25, ntmps25
  go_wp2_with fail
  rw [show ((d : Int) + 1) = ((d + 1 : Nat) : Int) by omega]
  refine (HG.out _ ((H.out.setDeep (d + 1)).alloc _)).mono ?_
  rintro e w1 ⟨hst, hpost⟩
  have HST : Hid (Stay pb w w1) := (((Stay.refl pb w).set 2 _).alloc hp _).trans hst
  have HR := hideP ((hst.keep w.heap.size hp (by simp [World.setCell])).trans (heap_set_alloc w _ _ zNV.obj))
  have HLo : Hid (∀ x, PPost pb tb cap ts (d + 1) ((w.setCell ⟨pb, 2, none⟩ (.int .i64 ((d + 1 : Nat) : Int))).alloc zNV.obj) NdE (.inl x) e w1 -> Ps w1 pb tb cap ts x.2 (d + 1) /\ ∃ v, e = .returned v /\ NdE (w.heap.size + 1) w1 v x.1) := by
    rintro ⟨x, b⟩ ⟨_, h1, v, h2, h3⟩
    refine ⟨h1, v, h2, ?_⟩
    have : ((w.setCell ⟨pb, 2, none⟩ (.int .i64 ((d + 1 : Nat) : Int))).alloc zNV.obj).heap.size = w.heap.size + 1 := by simp [World.setCell]
    rw [this] at h3
    exact h3
  have HPo : Hid (PPost pb tb cap ts (d + 1) ((w.setCell ⟨pb, 2, none⟩ (.int .i64 ((d + 1 : Nat) : Int))).alloc zNV.obj) NdE r e w1) := ⟨hst, hpost⟩
  clear hst hpost
  rcases r with ⟨D, b⟩ | ⟨er, li, co⟩
  case inr =>
    obtain ⟨_, rfl⟩ := HPo.out
    go_wp2_with fail
    exact ⟨rfl, HST.out, rfl⟩
  obtain ⟨hps, v, rfl, x, rfl, hv⟩ := HLo.out _ HPo.out
  have HP := hideP hps
  have HT := hideP hv
  clear hps hv HPo HLo c0 c1 c2 z2
  obtain ⟨c0, c1, c2⟩ := HP.out.cells
  have z2 := HP.out.fz 2
  have hp1 := HP.out.ltp
  obtain ⟨⟨r0, r1, r2, r3, r4, r5, r6, r7⟩, ⟨f0, f1, f2, f3, f4, f5, f6, f7⟩, hr1⟩ := box8 HR.out
  have hpw : ¬ pb = w.heap.size := by omega
  have hpw' : ¬ w.heap.size = pb := by omega
  have hne : ¬ w1.heap.size = w.heap.size := by omega
  have hne' : ¬ w1.heap.size = pb := by omega
  go_wp2_with fail
  refine bodyPost_ret (results_cell_row rfl _ _ w.heap.size 27 _ (0, 0) _ rfl ((Below.heap_alloc _ _ _ (by rw [put8_size (x := x), size_set]; exact hr1)).trans (put8_heap (x := x) ((Below.heap_setCell _ _ _ _ hpw').trans HR.out))) underlying27 rfl (by kernel_rfl)) rfl ⟨(stay_put8 (HST.out.set 2 _) hp (Nat.le_refl _) x).alloc hp _, (ps_put8 (HP.out.setDeep d) hp x).alloc _, _, rfl, x, rfl, ?_⟩
  exact (((HT.out.set1 (by omega) _ _).put8 (Nat.lt_succ_self _) x).alloc _).lower (Nat.le_succ _)
theorem withinN_deep (pb tb cap a g : Nat) (ts : List Tok) (w : World) (h : Ps w pb tb cap ts a 100) :
    Calls prog 25 #[.pointer (some ⟨pb, 0, none⟩), .func (.func g) #[] #[]] w (PPost pb tb cap ts 100 w NdE (badA ts 6 a)) := by
  have H := hideP h
  have hp := h.ltp
  obtain ⟨c0, c1, c2⟩ := h.cells
  clear h
  go_enter func25, ntmps25
  go_wp2_with fail
  refine (wrong_c pb tb cap a 100 ts _ (H.out.alloc _) 6).mono ?_
  rintro e w2 ⟨rfl, hb2⟩
  have HB2 := hideP (below_next (bl_alloc _ _) hb2)
  clear hb2
  go_wp2_with fail
  exact ⟨rfl, Stay.of hp HB2.out, rfl⟩
theorem expr_of (pb tb cap d : Nat) (ts : List Tok) (r : Pr Ty) (w : World) (hw : ∀ w1, Below w.heap.size w w1 -> Calls prog 25 #[.pointer (some ⟨pb, 0, none⟩), .func (.func 26) #[] #[]] w1 (PPost pb tb cap ts d w1 NdE r)) (hp : pb < w.heap.size) :
    Calls prog 12 #[.pointer (some ⟨pb, 0, none⟩)] w (PPost pb tb cap ts d w NdE r) := by
  have HW := hideP hw
  clear hw
  go_enter func12, ntmps12
  go_wp2_with fail
  refine (HW.out _ (bl_alloc _ _)).mono ?_
  rintro e w1 ⟨hst, hpost⟩
  have HST := hideP ((Stay.of hp (bl_alloc _ _)).trans hst)
  have HR := hideP ((hst.keep _ hp (by simp)).trans (heap_alloc_last w zNV.obj))
  have HSz : Hid (w.heap.size + 1 = (w.alloc zNV.obj).heap.size) := by show _ = _; simp
  clear hst
  rcases r with ⟨D, b⟩ | ⟨er, li, co⟩
  case inr =>
    subst hpost
    go_wp2_with fail
    exact ⟨rfl, HST.out, rfl⟩
  obtain ⟨hps, v, rfl, x, rfl, hv⟩ := hpost
  have HP := hideP hps
  have HT := hideP hv
  obtain ⟨⟨r0, r1, r2, r3, r4, r5, r6, r7⟩, ⟨f0, f1, f2, f3, f4, f5, f6, f7⟩, hr1⟩ := box8 HR.out
  clear hps hv
  go_wp2_with fail
  refine bodyPost_ret (results_cell_row rfl _ _ w.heap.size 27 _ (0, 0) _ rfl (put8_heap (x := x) HR.out) underlying27 rfl (by kernel_rfl)) rfl ⟨stay_put8 HST.out hp (Nat.le_refl _) x, ps_put8 HP.out hp x, _, rfl, x, rfl, ?_⟩
  exact (HT.out.put8 (by simp) x).lower (by simp)
theorem unary_of (pb tb cap d : Nat) (ts : List Tok) (r : Pr Ty) (w : World) (hw : ∀ w1, Below w.heap.size w w1 -> Calls prog 25 #[.pointer (some ⟨pb, 0, none⟩), .func (.func 144) #[] #[]] w1 (PPost pb tb cap ts d w1 NdE r)) (hp : pb < w.heap.size) :
    Calls prog 143 #[.pointer (some ⟨pb, 0, none⟩)] w (PPost pb tb cap ts d w NdE r) := by
  have HW := hideP hw
  clear hw
  go_enter func143, ntmps143
  go_wp2_with fail
  refine (HW.out _ (bl_alloc _ _)).mono ?_
  rintro e w1 ⟨hst, hpost⟩
  have HST := hideP ((Stay.of hp (bl_alloc _ _)).trans hst)
  have HR := hideP ((hst.keep _ hp (by simp)).trans (heap_alloc_last w zNV.obj))
  have HSz : Hid (w.heap.size + 1 = (w.alloc zNV.obj).heap.size) := by show _ = _; simp
  clear hst
  rcases r with ⟨D, b⟩ | ⟨er, li, co⟩
  case inr =>
    subst hpost
    go_wp2_with fail
    exact ⟨rfl, HST.out, rfl⟩
  obtain ⟨hps, v, rfl, x, rfl, hv⟩ := hpost
  have HP := hideP hps
  have HT := hideP hv
  obtain ⟨⟨r0, r1, r2, r3, r4, r5, r6, r7⟩, ⟨f0, f1, f2, f3, f4, f5, f6, f7⟩, hr1⟩ := box8 HR.out
  clear hps hv
  go_wp2_with fail
  refine bodyPost_ret (results_cell_row rfl _ _ w.heap.size 27 _ (0, 0) _ rfl (put8_heap (x := x) HR.out) underlying27 rfl (by kernel_rfl)) rfl ⟨stay_put8 HST.out hp (Nat.le_refl _) x, ps_put8 HP.out hp x, _, rfl, x, rfl, ?_⟩
  exact (HT.out.put8 (by simp) x).lower (by simp)
theorem term_enters (pb : Nat) : Enters 140 pb := fun w => enters_of func140 (by kernel_rfl) (by kernel_rfl) _ w
theorem pterm_c (pb tb cap d : Nat) (ts : List Tok) (sub : Nat -> Pr Ty) (hg : Reads pb tb cap d ts NdE 143 sub) (ok : ToksOk ts) (a : Nat) (w : World) (h : Ps w pb tb cap ts a d) :
    Calls prog 140 #[.pointer (some ⟨pb, 0, none⟩)] w (PPost pb tb cap ts d w NdE ((sub a).go fun x a => leftA ts [[42], [47], [37], [38], [60, 60], [62, 62]] sub ts.length x a)) := by
  have hp := h.ltp
  have HW := hideP (rank_c pb tb cap d (w.heap.size + 1) 6 ts [[42], [47], [37], [38], [60, 60], [62, 62]] (by simp) _ sub hg a ((w.alloc zNV.obj).alloc (.cells (([[42], [47], [37], [38], [60, 60], [62, 62]] : List (List UInt8)).map fun s => Value.string ⟨s.toArray⟩).toArray 9)) ((h.alloc _).alloc _) (texts_new (w.alloc zNV.obj) [[42], [47], [37], [38], [60, 60], [62, 62]] _ _ (by simp)) (by omega) ok)
  clear h hg ok
  obtain ⟨r, hr⟩ : ∃ r, r = ((sub a).go fun x a => leftA ts [[42], [47], [37], [38], [60, 60], [62, 62]] sub ts.length x a) := ⟨_, rfl⟩
  rw [<- hr] at HW ⊢
  clear hr
  go_enter func140, ntmps140
  go_wp2_with fail
  refine HW.out.mono ?_
  rintro e w1 ⟨hst, hpost⟩
  have HST := hideP ((Stay.of hp (below_next (bl_alloc _ _) (bl_alloc _ _))).trans hst)
  have HR := hideP ((hst.keep w.heap.size hp (by rw [World.size_alloc, World.size_alloc]; omega)).trans ((Below.heap_alloc _ _ _ (by simp)).trans (heap_alloc_last w zNV.obj)))
  clear hst
  rcases r with ⟨D, b⟩ | ⟨er, li, co⟩
  case inr =>
    subst hpost
    go_wp2_with fail
    exact ⟨rfl, HST.out, rfl⟩
  obtain ⟨hps, v, rfl, x, rfl, hv⟩ := hpost
  have HP := hideP hps
  have HT := hideP hv
  obtain ⟨⟨r0, r1, r2, r3, r4, r5, r6, r7⟩, ⟨f0, f1, f2, f3, f4, f5, f6, f7⟩, hr1⟩ := box8 HR.out
  clear hps hv
  go_wp2_with fail
  refine bodyPost_ret (results_cell_row rfl _ _ w.heap.size 27 _ (0, 0) _ rfl (put8_heap (x := x) HR.out) underlying27 rfl (by kernel_rfl)) rfl ⟨stay_put8 HST.out hp (Nat.le_refl _) x, ps_put8 HP.out hp x, _, rfl, x, rfl, ?_⟩
  exact (HT.out.put8 (by rw [World.size_alloc, World.size_alloc]; omega) x).lower (by rw [World.size_alloc, World.size_alloc]; omega)
theorem sum_enters (pb : Nat) : Enters 134 pb := fun w => enters_of func134 (by kernel_rfl) (by kernel_rfl) _ w
theorem psum_c (pb tb cap d : Nat) (ts : List Tok) (sub : Nat -> Pr Ty) (hg : Reads pb tb cap d ts NdE 140 sub) (ok : ToksOk ts) (a : Nat) (w : World) (h : Ps w pb tb cap ts a d) :
    Calls prog 134 #[.pointer (some ⟨pb, 0, none⟩)] w (PPost pb tb cap ts d w NdE ((sub a).go fun x a => leftA ts [[43], [45], [94]] sub ts.length x a)) := by
  have hp := h.ltp
  have HW := hideP (rank_c pb tb cap d (w.heap.size + 1) 3 ts [[43], [45], [94]] (by simp) _ sub hg a ((w.alloc zNV.obj).alloc (.cells (([[43], [45], [94]] : List (List UInt8)).map fun s => Value.string ⟨s.toArray⟩).toArray 9)) ((h.alloc _).alloc _) (texts_new (w.alloc zNV.obj) [[43], [45], [94]] _ _ (by simp)) (by omega) ok)
  clear h hg ok
  obtain ⟨r, hr⟩ : ∃ r, r = ((sub a).go fun x a => leftA ts [[43], [45], [94]] sub ts.length x a) := ⟨_, rfl⟩
  rw [<- hr] at HW ⊢
  clear hr
  go_enter func134, ntmps134
  go_wp2_with fail
  refine HW.out.mono ?_
  rintro e w1 ⟨hst, hpost⟩
  have HST := hideP ((Stay.of hp (below_next (bl_alloc _ _) (bl_alloc _ _))).trans hst)
  have HR := hideP ((hst.keep w.heap.size hp (by rw [World.size_alloc, World.size_alloc]; omega)).trans ((Below.heap_alloc _ _ _ (by simp)).trans (heap_alloc_last w zNV.obj)))
  clear hst
  rcases r with ⟨D, b⟩ | ⟨er, li, co⟩
  case inr =>
    subst hpost
    go_wp2_with fail
    exact ⟨rfl, HST.out, rfl⟩
  obtain ⟨hps, v, rfl, x, rfl, hv⟩ := hpost
  have HP := hideP hps
  have HT := hideP hv
  obtain ⟨⟨r0, r1, r2, r3, r4, r5, r6, r7⟩, ⟨f0, f1, f2, f3, f4, f5, f6, f7⟩, hr1⟩ := box8 HR.out
  clear hps hv
  go_wp2_with fail
  refine bodyPost_ret (results_cell_row rfl _ _ w.heap.size 27 _ (0, 0) _ rfl (put8_heap (x := x) HR.out) underlying27 rfl (by kernel_rfl)) rfl ⟨stay_put8 HST.out hp (Nat.le_refl _) x, ps_put8 HP.out hp x, _, rfl, x, rfl, ?_⟩
  exact (HT.out.put8 (by rw [World.size_alloc, World.size_alloc]; omega) x).lower (by rw [World.size_alloc, World.size_alloc]; omega)
theorem cat_enters (pb : Nat) : Enters 125 pb := fun w => enters_of func125 (by kernel_rfl) (by kernel_rfl) _ w
theorem pcat_c (pb tb cap d : Nat) (ts : List Tok) (sub : Nat -> Pr Ty) (hg : Reads pb tb cap d ts NdE 134 sub) (ok : ToksOk ts) (a : Nat) (w : World) (h : Ps w pb tb cap ts a d) :
    Calls prog 125 #[.pointer (some ⟨pb, 0, none⟩)] w (PPost pb tb cap ts d w NdE ((sub a).go fun x a => leftA ts [[43, 43]] sub ts.length x a)) := by
  have hp := h.ltp
  have HW := hideP (rank_c pb tb cap d (w.heap.size + 1) 1 ts [[43, 43]] (by simp) _ sub hg a ((w.alloc zNV.obj).alloc (.cells (([[43, 43]] : List (List UInt8)).map fun s => Value.string ⟨s.toArray⟩).toArray 9)) ((h.alloc _).alloc _) (texts_new (w.alloc zNV.obj) [[43, 43]] _ _ (by simp)) (by omega) ok)
  clear h hg ok
  obtain ⟨r, hr⟩ : ∃ r, r = ((sub a).go fun x a => leftA ts [[43, 43]] sub ts.length x a) := ⟨_, rfl⟩
  rw [<- hr] at HW ⊢
  clear hr
  go_enter func125, ntmps125
  go_wp2_with fail
  refine HW.out.mono ?_
  rintro e w1 ⟨hst, hpost⟩
  have HST := hideP ((Stay.of hp (below_next (bl_alloc _ _) (bl_alloc _ _))).trans hst)
  have HR := hideP ((hst.keep w.heap.size hp (by rw [World.size_alloc, World.size_alloc]; omega)).trans ((Below.heap_alloc _ _ _ (by simp)).trans (heap_alloc_last w zNV.obj)))
  clear hst
  rcases r with ⟨D, b⟩ | ⟨er, li, co⟩
  case inr =>
    subst hpost
    go_wp2_with fail
    exact ⟨rfl, HST.out, rfl⟩
  obtain ⟨hps, v, rfl, x, rfl, hv⟩ := hpost
  have HP := hideP hps
  have HT := hideP hv
  obtain ⟨⟨r0, r1, r2, r3, r4, r5, r6, r7⟩, ⟨f0, f1, f2, f3, f4, f5, f6, f7⟩, hr1⟩ := box8 HR.out
  clear hps hv
  go_wp2_with fail
  refine bodyPost_ret (results_cell_row rfl _ _ w.heap.size 27 _ (0, 0) _ rfl (put8_heap (x := x) HR.out) underlying27 rfl (by kernel_rfl)) rfl ⟨stay_put8 HST.out hp (Nat.le_refl _) x, ps_put8 HP.out hp x, _, rfl, x, rfl, ?_⟩
  exact (HT.out.put8 (by rw [World.size_alloc, World.size_alloc]; omega) x).lower (by rw [World.size_alloc, World.size_alloc]; omega)
theorem and_enters (pb : Nat) : Enters 96 pb := fun w => enters_of func96 (by kernel_rfl) (by kernel_rfl) _ w
theorem pand_c (pb tb cap d : Nat) (ts : List Tok) (sub : Nat -> Pr Ty) (hg : Reads pb tb cap d ts NdE 116 sub) (ok : ToksOk ts) (a : Nat) (w : World) (h : Ps w pb tb cap ts a d) :
    Calls prog 96 #[.pointer (some ⟨pb, 0, none⟩)] w (PPost pb tb cap ts d w NdE ((sub a).go fun x a => leftA ts [[97, 110, 100]] sub ts.length x a)) := by
  have hp := h.ltp
  have HW := hideP (rank_c pb tb cap d (w.heap.size + 1) 1 ts [[97, 110, 100]] (by simp) _ sub hg a ((w.alloc zNV.obj).alloc (.cells (([[97, 110, 100]] : List (List UInt8)).map fun s => Value.string ⟨s.toArray⟩).toArray 9)) ((h.alloc _).alloc _) (texts_new (w.alloc zNV.obj) [[97, 110, 100]] _ _ (by simp)) (by omega) ok)
  clear h hg ok
  obtain ⟨r, hr⟩ : ∃ r, r = ((sub a).go fun x a => leftA ts [[97, 110, 100]] sub ts.length x a) := ⟨_, rfl⟩
  rw [<- hr] at HW ⊢
  clear hr
  go_enter func96, ntmps96
  go_wp2_with fail
  refine HW.out.mono ?_
  rintro e w1 ⟨hst, hpost⟩
  have HST := hideP ((Stay.of hp (below_next (bl_alloc _ _) (bl_alloc _ _))).trans hst)
  have HR := hideP ((hst.keep w.heap.size hp (by rw [World.size_alloc, World.size_alloc]; omega)).trans ((Below.heap_alloc _ _ _ (by simp)).trans (heap_alloc_last w zNV.obj)))
  clear hst
  rcases r with ⟨D, b⟩ | ⟨er, li, co⟩
  case inr =>
    subst hpost
    go_wp2_with fail
    exact ⟨rfl, HST.out, rfl⟩
  obtain ⟨hps, v, rfl, x, rfl, hv⟩ := hpost
  have HP := hideP hps
  have HT := hideP hv
  obtain ⟨⟨r0, r1, r2, r3, r4, r5, r6, r7⟩, ⟨f0, f1, f2, f3, f4, f5, f6, f7⟩, hr1⟩ := box8 HR.out
  clear hps hv
  go_wp2_with fail
  refine bodyPost_ret (results_cell_row rfl _ _ w.heap.size 27 _ (0, 0) _ rfl (put8_heap (x := x) HR.out) underlying27 rfl (by kernel_rfl)) rfl ⟨stay_put8 HST.out hp (Nat.le_refl _) x, ps_put8 HP.out hp x, _, rfl, x, rfl, ?_⟩
  exact (HT.out.put8 (by rw [World.size_alloc, World.size_alloc]; omega) x).lower (by rw [World.size_alloc, World.size_alloc]; omega)
theorem or_enters (pb : Nat) : Enters 57 pb := fun w => enters_of func57 (by kernel_rfl) (by kernel_rfl) _ w
theorem por_c (pb tb cap d : Nat) (ts : List Tok) (sub : Nat -> Pr Ty) (hg : Reads pb tb cap d ts NdE 96 sub) (ok : ToksOk ts) (a : Nat) (w : World) (h : Ps w pb tb cap ts a d) :
    Calls prog 57 #[.pointer (some ⟨pb, 0, none⟩)] w (PPost pb tb cap ts d w NdE ((sub a).go fun x a => leftA ts [[111, 114]] sub ts.length x a)) := by
  have hp := h.ltp
  have HW := hideP (rank_c pb tb cap d (w.heap.size + 1) 1 ts [[111, 114]] (by simp) _ sub hg a ((w.alloc zNV.obj).alloc (.cells (([[111, 114]] : List (List UInt8)).map fun s => Value.string ⟨s.toArray⟩).toArray 9)) ((h.alloc _).alloc _) (texts_new (w.alloc zNV.obj) [[111, 114]] _ _ (by simp)) (by omega) ok)
  clear h hg ok
  obtain ⟨r, hr⟩ : ∃ r, r = ((sub a).go fun x a => leftA ts [[111, 114]] sub ts.length x a) := ⟨_, rfl⟩
  rw [<- hr] at HW ⊢
  clear hr
  go_enter func57, ntmps57
  go_wp2_with fail
  refine HW.out.mono ?_
  rintro e w1 ⟨hst, hpost⟩
  have HST := hideP ((Stay.of hp (below_next (bl_alloc _ _) (bl_alloc _ _))).trans hst)
  have HR := hideP ((hst.keep w.heap.size hp (by rw [World.size_alloc, World.size_alloc]; omega)).trans ((Below.heap_alloc _ _ _ (by simp)).trans (heap_alloc_last w zNV.obj)))
  clear hst
  rcases r with ⟨D, b⟩ | ⟨er, li, co⟩
  case inr =>
    subst hpost
    go_wp2_with fail
    exact ⟨rfl, HST.out, rfl⟩
  obtain ⟨hps, v, rfl, x, rfl, hv⟩ := hpost
  have HP := hideP hps
  have HT := hideP hv
  obtain ⟨⟨r0, r1, r2, r3, r4, r5, r6, r7⟩, ⟨f0, f1, f2, f3, f4, f5, f6, f7⟩, hr1⟩ := box8 HR.out
  clear hps hv
  go_wp2_with fail
  refine bodyPost_ret (results_cell_row rfl _ _ w.heap.size 27 _ (0, 0) _ rfl (put8_heap (x := x) HR.out) underlying27 rfl (by kernel_rfl)) rfl ⟨stay_put8 HST.out hp (Nat.le_refl _) x, ps_put8 HP.out hp x, _, rfl, x, rfl, ?_⟩
  exact (HT.out.put8 (by rw [World.size_alloc, World.size_alloc]; omega) x).lower (by rw [World.size_alloc, World.size_alloc]; omega)
end Go.Proofs.YtlhmofphpfdjlaaGreatDoor
/- What a function of the parser holds between two calls. -/
namespace Go.Proofs.YtlhmofphpfdjlaaGreatDoor
open Go.Proofs.Tryz
open Go.RowKit
/-- The parser stands at b; these boxes hold these objects, these expressions and types are there; since w0. -/
structure Ctx (pb tb cap d : Nat) (ts : List Tok) (w0 w : World) (b : Nat) (bx : List (Nat × Obj)) (ns : List (NV × Ty)) (tys : List (Value × Ty)) : Prop where
  st : Stay pb w0 w
  ps : Ps w pb tb cap ts b d
  hp : pb < w0.heap.size
  sz : w0.heap.size + 1 <= w.heap.size
  has : ∀ p ∈ bx, w.heap[p.1]? = some p.2 /\ pb < p.1
  nds : ∀ p ∈ ns, NdV (w0.heap.size + 1) w p.1 p.2
  tys : ∀ p ∈ tys, TyE (w0.heap.size + 1) w p.1 p.2
section
variable {pb tb cap d b b' lo : Nat} {ts : List Tok} {w0 w w' : World} {bx : List (Nat × Obj)} {ns : List (NV × Ty)} {tys : List (Value × Ty)} {x : NV} {D : Ty} {v : Value}
theorem ctx_init (h : Ps w0 pb tb cap ts b d) (o : Obj) : Ctx pb tb cap d ts w0 (w0.alloc o) b [(w0.heap.size, o)] [] [] where
  st := Stay.of h.ltp (bl_alloc _ _)
  ps := h.alloc _
  hp := h.ltp
  sz := by simp
  has := fun p hp => by rw [List.mem_singleton.1 hp]; exact ⟨heap_alloc_last _ _, h.ltp⟩
  nds := (fun _ h => nomatch h)
  tys := (fun _ h => nomatch h)
theorem Ctx.step (h : Ctx pb tb cap d ts w0 w b bx ns tys) (hst : Stay pb w w') (hps : Ps w' pb tb cap ts b' d) : Ctx pb tb cap d ts w0 w' b' bx ns tys where
  st := h.st.trans hst
  ps := hps
  hp := h.hp
  sz := Nat.le_trans h.sz hst.size
  has := fun p hp => ⟨(hst.keep _ (h.has p hp).2 (lt_of_block (h.has p hp).1)).trans (h.has p hp).1, (h.has p hp).2⟩
  nds := fun p hp => (h.nds p hp).stay hst (by have := h.hp; omega)
  tys := fun p hp => (h.tys p hp).stay hst (by have := h.hp; omega)
theorem Ctx.below (h : Ctx pb tb cap d ts w0 w b bx ns tys) (hb : Below w.heap.size w w') : Ctx pb tb cap d ts w0 w' b bx ns tys := h.step (Stay.of h.ps.ltp hb) (h.ps.below hb)
theorem Ctx.alloc (h : Ctx pb tb cap d ts w0 w b bx ns tys) (o : Obj) : Ctx pb tb cap d ts w0 (w.alloc o) b ((w.heap.size, o) :: bx) ns tys where
  st := (h.below (bl_alloc _ o)).st
  ps := h.ps.alloc _
  hp := h.hp
  sz := (h.below (bl_alloc _ o)).sz
  has := fun p hp => by
    rcases List.mem_cons.1 hp with rfl | hp
    · exact ⟨heap_alloc_last _ _, h.ps.ltp⟩
    · exact (h.below (bl_alloc _ o)).has p hp
  nds := (h.below (bl_alloc _ o)).nds
  tys := (h.below (bl_alloc _ o)).tys
theorem Ctx.addN (h : Ctx pb tb cap d ts w0 w b bx ns tys) (hv : NdV lo w x D) (hl : w0.heap.size + 1 <= lo) : Ctx pb tb cap d ts w0 w b bx ((x, D) :: ns) tys where
  st := h.st
  ps := h.ps
  hp := h.hp
  sz := h.sz
  has := h.has
  nds := fun p hp => by
    rcases List.mem_cons.1 hp with rfl | hp
    · exact hv.lower hl
    · exact h.nds p hp
  tys := h.tys
theorem Ctx.addT (h : Ctx pb tb cap d ts w0 w b bx ns tys) (hv : TyE lo w v D) (hl : w0.heap.size + 1 <= lo) : Ctx pb tb cap d ts w0 w b bx ns ((v, D) :: tys) where
  st := h.st
  ps := h.ps
  hp := h.hp
  sz := h.sz
  has := h.has
  nds := h.nds
  tys := fun p hp => by
    rcases List.mem_cons.1 hp with rfl | hp
    · exact hv.lower hl
    · exact h.tys p hp
theorem Ctx.drew (h : Ctx pb tb cap d ts w0 w b bx ns tys) : Ctx pb tb cap d ts w0 w.drew b bx ns tys := ⟨h.st.drew, h.ps.drew, h.hp, h.sz, h.has, fun p hp => (h.nds p hp).keep (Nat.le_refl _) (fun _ _ _ => rfl), fun p hp => (h.tys p hp).keep (Nat.le_refl _) (fun _ _ _ => rfl)⟩
theorem Ctx.b0 {p : Nat × Obj} (h : Ctx pb tb cap d ts w0 w b (p :: bx) ns tys) : w.heap[p.1]? = some p.2 := (h.has p (List.mem_cons_self ..)).1
theorem Ctx.b1 {p q : Nat × Obj} (h : Ctx pb tb cap d ts w0 w b (q :: p :: bx) ns tys) : w.heap[p.1]? = some p.2 := (h.has p (List.mem_cons_of_mem _ (List.mem_cons_self ..))).1
theorem Ctx.b2 {p q r : Nat × Obj} (h : Ctx pb tb cap d ts w0 w b (r :: q :: p :: bx) ns tys) : w.heap[p.1]? = some p.2 := (h.has p (List.mem_cons_of_mem _ (List.mem_cons_of_mem _ (List.mem_cons_self ..)))).1
theorem Ctx.b3 {p q r s : Nat × Obj} (h : Ctx pb tb cap d ts w0 w b (s :: r :: q :: p :: bx) ns tys) : w.heap[p.1]? = some p.2 := (h.has p (List.mem_cons_of_mem _ (List.mem_cons_of_mem _ (List.mem_cons_of_mem _ (List.mem_cons_self ..))))).1
theorem Ctx.b4 {p q0 q1 q2 q3 : Nat × Obj} (h : Ctx pb tb cap d ts w0 w b (q0 :: q1 :: q2 :: q3 :: p :: bx) ns tys) : w.heap[p.1]? = some p.2 := (h.has p (List.mem_cons_of_mem _ (List.mem_cons_of_mem _ (List.mem_cons_of_mem _ (List.mem_cons_of_mem _ (List.mem_cons_self ..)))))).1
theorem Ctx.b5 {p q0 q1 q2 q3 q4 : Nat × Obj} (h : Ctx pb tb cap d ts w0 w b (q0 :: q1 :: q2 :: q3 :: q4 :: p :: bx) ns tys) : w.heap[p.1]? = some p.2 := (h.has p (List.mem_cons_of_mem _ (List.mem_cons_of_mem _ (List.mem_cons_of_mem _ (List.mem_cons_of_mem _ (List.mem_cons_of_mem _ (List.mem_cons_self ..))))))).1
theorem Ctx.b6 {p q0 q1 q2 q3 q4 q5 : Nat × Obj} (h : Ctx pb tb cap d ts w0 w b (q0 :: q1 :: q2 :: q3 :: q4 :: q5 :: p :: bx) ns tys) : w.heap[p.1]? = some p.2 := (h.has p (List.mem_cons_of_mem _ (List.mem_cons_of_mem _ (List.mem_cons_of_mem _ (List.mem_cons_of_mem _ (List.mem_cons_of_mem _ (List.mem_cons_of_mem _ (List.mem_cons_self ..)))))))).1
theorem Ctx.n0 {p : NV × Ty} (h : Ctx pb tb cap d ts w0 w b bx (p :: ns) tys) : NdV (w0.heap.size + 1) w p.1 p.2 := h.nds p (List.mem_cons_self ..)
theorem Ctx.n1 {p q : NV × Ty} (h : Ctx pb tb cap d ts w0 w b bx (q :: p :: ns) tys) : NdV (w0.heap.size + 1) w p.1 p.2 := h.nds p (List.mem_cons_of_mem _ (List.mem_cons_self ..))
theorem Ctx.n2 {p q r : NV × Ty} (h : Ctx pb tb cap d ts w0 w b bx (r :: q :: p :: ns) tys) : NdV (w0.heap.size + 1) w p.1 p.2 := h.nds p (List.mem_cons_of_mem _ (List.mem_cons_of_mem _ (List.mem_cons_self ..)))
theorem Ctx.t0 {p : Value × Ty} (h : Ctx pb tb cap d ts w0 w b bx ns (p :: tys)) : TyE (w0.heap.size + 1) w p.1 p.2 := h.tys p (List.mem_cons_self ..)
/-- A call that reads: it gave up, or what it read. -/
theorem ppost_or {α : Type} {rep : Nat -> World -> Value -> α -> Prop} {r : Pr α} {e : Ending} (h : PPost pb tb cap ts d w rep r e w') :
    (∃ er li co, r = .inr (er, li, co) /\ e = gaveUp er li co /\ Stay pb w w') ∨ ∃ x b v, r = .inl (x, b) /\ e = .returned v /\ Stay pb w w' /\ Ps w' pb tb cap ts b d /\ rep w.heap.size w' v x := by
  obtain ⟨hst, h⟩ := h
  rcases r with ⟨x, b⟩ | ⟨er, li, co⟩
  · obtain ⟨hps, v, rfl, hv⟩ := h
    exact .inr ⟨x, b, v, rfl, rfl, hst, hps, hv⟩
  · exact .inl ⟨er, li, co, rfl, h, hst⟩
end
end Go.Proofs.YtlhmofphpfdjlaaGreatDoor
/- Expressions in brackets; what is told by one token. -/
namespace Go.Proofs.YtlhmofphpfdjlaaGreatDoor
open Go.Proofs.Tryz
open Go.RowKit
attribute [local go_sem ↓] Go.wp_at_zero Go.wp_at_succ
theorem inBrackets_c (pb tb cap d : Nat) (ts : List Tok) (E : Nat -> Pr Ty) (hE : Reads pb tb cap d ts NdE 12 E) (ok : ToksOk ts) (a : Nat) (w : World) (h : Ps w pb tb cap ts a d) :
    Calls prog 147 #[.pointer (some ⟨pb, 0, none⟩)] w (PPost pb tb cap ts d w NdE ((wantA ts a [40]).go fun _ b => (E b).go fun x b => (wantA ts b [41]).go fun _ b => .inl (x, b))) := by
  have H := hideP h
  have OK := hideP ok
  have hp := h.ltp
  have HE1 := hideP hE
  have C0 := hideP (ctx_init h zNV.obj)
  obtain ⟨R, hR⟩ : ∃ R : Pr Ty, R = ((wantA ts a [40]).go fun _ b => (E b).go fun x b => (wantA ts b [41]).go fun _ b => .inl (x, b)) := ⟨_, rfl⟩
  rw [<- hR]
  have HR0 := hideP hR
  clear h ok hR hE
  go_enter func147, ntmps147
  go_wp2_with fail
  refine (must_c pb tb cap a d ts [40] _ C0.out.ps OK.out).mono ?_
  intro e w1 hpost
  rcases ppost_or hpost with ⟨er, li, co, hr, rfl, hst⟩ | ⟨u, b1, v, hr, rfl, hst, hps, hv⟩
  · have HE : Hid (R = .inr (er, li, co)) := by rw [HR0.out, hr]; exact rfl
    have HF := hideP (C0.out.st.trans hst)
    clear hr hst hpost
    go_wp2_with fail
    exact ⟨rfl, HF.out, by rw [HE.out]⟩
  have HR1 : Hid (R = (E b1).go fun x b => (wantA ts b [41]).go fun _ b => .inl (x, b)) := by rw [HR0.out, hr]; exact rfl
  have C1 := hideP ((C0.out.step hst hps))
  clear hr hst hps hpost hv
  go_wp2_with fail
  refine (HE1.out.calls b1 _ C1.out.ps).mono ?_
  intro e w2 hpost
  rcases ppost_or hpost with ⟨er, li, co, hr, rfl, hst⟩ | ⟨D, b2, v, hr, rfl, hst, hps, hv⟩
  · have HE : Hid (R = .inr (er, li, co)) := by rw [HR1.out, hr]; exact rfl
    have HF := hideP (C1.out.st.trans hst)
    clear hr hst hpost
    go_wp2_with fail
    exact ⟨rfl, HF.out, by rw [HE.out]⟩
  have HR2 : Hid (R = (wantA ts b2 [41]).go fun _ b => .inl (D, b)) := by rw [HR1.out, hr]; exact rfl
  obtain ⟨x, rfl, hv⟩ := hv
  have C2 := hideP ((C1.out.step hst hps).addN hv C1.out.sz)
  have C3 := hideP (C2.out.alloc (x.obj))
  clear hr hst hps hpost hv
  go_wp2_with fail
  refine (must_c pb tb cap b2 d ts [41] _ C3.out.ps OK.out).mono ?_
  intro e w3 hpost
  rcases ppost_or hpost with ⟨er, li, co, hr, rfl, hst⟩ | ⟨u2, b3, v2, hr, rfl, hst, hps, hv⟩
  · have HE : Hid (R = .inr (er, li, co)) := by rw [HR2.out, hr]; exact rfl
    have HF := hideP (C3.out.st.trans hst)
    clear hr hst hpost
    go_wp2_with fail
    exact ⟨rfl, HF.out, by rw [HE.out]⟩
  have HR3 : Hid (R = .inl (D, b3)) := by rw [HR2.out, hr]; exact rfl
  have C4 := hideP ((C3.out.step hst hps))
  clear hr hst hps hpost hv
  obtain ⟨⟨r0, r1, r2, r3, r4, r5, r6, r7⟩, ⟨f0, f1, f2, f3, f4, f5, f6, f7⟩, hr1⟩ := box8 (x := zNV) (C4.out.b1)
  obtain ⟨⟨n0, n1, n2, n3, n4, n5, n6, n7⟩, _, hn1⟩ := box8 (x := x) C4.out.b0
  have hne : ¬ w2.heap.size = w.heap.size := by have := C2.out.sz; omega
  go_wp2_with fail
  rw [HR3.out]
  refine bodyPost_ret (results_cell_row rfl _ _ w.heap.size 27 _ (0, 0) _ rfl (put8_heap (x := x) C4.out.b1) underlying27 rfl (by kernel_rfl)) rfl ⟨stay_put8 C4.out.st hp (Nat.le_refl _) (x), ps_put8 C4.out.ps hp (x), _, rfl, x, rfl, ?_⟩
  exact ((C4.out.n0).put8 (Nat.lt_succ_self _) (x)).lower (Nat.le_succ _)
end Go.Proofs.YtlhmofphpfdjlaaGreatDoor
/- What is told by one token. -/
namespace Go.Proofs.YtlhmofphpfdjlaaGreatDoor
open Go.Proofs.Tryz
open Go.RowKit
attribute [local go_sem ↓] Go.wp_at_zero Go.wp_at_succ
abbrev TOKO (t : Tok) : Obj := .cells #[.int .i64 t.kind, .string ⟨t.text.toArray⟩, .int .i64 t.line, .int .i64 t.col] 98
theorem sees_text {ts : List Tok} {a : Nat} {s : List UInt8} (h : seesA ts a s = true) : (tkA ts a).text = s := by
  unfold seesA at h
  simp only [Bool.and_eq_true, beq_iff_eq] at h
  exact h.2
/-- A node without anything within. -/
abbrev leafNV (k : Int) (tx : List UInt8) (N : Int) (t : Tok) : NV := ⟨k, ⟨tx.toArray⟩, N, t.line, t.col, none, 0, 0, none, 0, 0, none, 0, 0⟩
theorem leaf_nd (lo : Nat) (w : World) (k : Int) (tx : List UInt8) (N : Int) (t : Tok) : NdV lo w (leafNV k tx N t) (mkE k tx N t.line t.col [] [] []) :=
  ⟨1, [], [], [], rfl, ⟨rfl, rfl, rfl⟩, ⟨Nat.zero_le _, Nat.zero_le _, Nat.zero_le _⟩, .inl rfl, .inl rfl, .inl rfl⟩
theorem const_true (pb tb cap d : Nat) (ts : List Tok) (ok : ToksOk ts) (a : Nat) (hs : seesA ts a [116, 114, 117, 101] = true) (w : World) (h : Ps w pb tb cap ts a d) :
    Calls prog 148 #[.pointer (some ⟨pb, 0, none⟩)] w (PPost pb tb cap ts d w NdE (.inl (mkE 2 [] 1 (tkA ts a).line (tkA ts a).col [] [] [], a + 1))) := by
  have H := hideP h
  have OK := hideP ok
  have hp := h.ltp
  have C0 := hideP (ctx_init h zNV.obj)
  have HN := hideP (sees_next ok.ends h.lt hs)
  have htx : (tkA ts a).text = [116, 114, 117, 101] := sees_text hs
  have HC := hideP (pass_c pb tb cap a d ts _ C0.out.ps HN.out ok.len)
  obtain ⟨t, ht⟩ : ∃ t, t = tkA ts a := ⟨_, rfl⟩
  rw [<- ht] at HC htx ⊢
  obtain ⟨kd, tx, tl, tc⟩ := t
  obtain rfl : tx = [116, 114, 117, 101] := htx
  clear hs ht
  obtain ⟨R, hR⟩ : ∃ R : Pr Ty, R = (.inl (mkE 2 [] 1 tl tc [] [] [], a + 1)) := ⟨_, rfl⟩
  rw [<- hR]
  have HR0 := hideP hR
  clear h ok hR
  go_enter func148, ntmps148
  go_wp2_with fail
  refine (HC.out).mono ?_
  rintro e w1 ⟨rfl, hst, hps⟩
  have C1 := hideP (C0.out.step hst hps)
  have C2 := hideP (C1.out.alloc (TOKO ⟨kd, [116, 114, 117, 101], tl, tc⟩))
  clear hst hps
  go_wp2_with fail
  refine (placed_c ⟨kd, [116, 114, 117, 101], tl, tc⟩ ⟨2, ⟨#[]⟩, 1, 0, 0, none, 0, 0, none, 0, 0, none, 0, 0⟩ _).mono ?_
  rintro e w2 ⟨rfl, hb⟩
  have C3 := hideP (C2.out.below hb)
  clear hb
  obtain ⟨⟨r0, r1, r2, r3, r4, r5, r6, r7⟩, ⟨f0, f1, f2, f3, f4, f5, f6, f7⟩, hr1⟩ := box8 (x := zNV) (C3.out.b1)
  go_wp2_with fail
  rw [HR0.out]
  refine bodyPost_ret (results_cell_row rfl _ _ w.heap.size 27 _ (0, 0) _ rfl (put8_heap (x := leafNV 2 [] 1 ⟨kd, [116, 114, 117, 101], tl, tc⟩) C3.out.b1) underlying27 rfl (by kernel_rfl)) rfl ⟨stay_put8 C3.out.st hp (Nat.le_refl _) (leafNV 2 [] 1 ⟨kd, [116, 114, 117, 101], tl, tc⟩), ps_put8 C3.out.ps hp (leafNV 2 [] 1 ⟨kd, [116, 114, 117, 101], tl, tc⟩), _, rfl, leafNV 2 [] 1 ⟨kd, [116, 114, 117, 101], tl, tc⟩, rfl, ?_⟩
  exact ((leaf_nd _ _ 2 [] 1 ⟨kd, [116, 114, 117, 101], tl, tc⟩).put8 (Nat.lt_succ_self _) (leafNV 2 [] 1 ⟨kd, [116, 114, 117, 101], tl, tc⟩)).lower (Nat.le_succ _)
theorem const_false (pb tb cap d : Nat) (ts : List Tok) (ok : ToksOk ts) (a : Nat) (hs : seesA ts a [102, 97, 108, 115, 101] = true) (w : World) (h : Ps w pb tb cap ts a d) :
    Calls prog 148 #[.pointer (some ⟨pb, 0, none⟩)] w (PPost pb tb cap ts d w NdE (.inl (mkE 2 [] 0 (tkA ts a).line (tkA ts a).col [] [] [], a + 1))) := by
  have H := hideP h
  have OK := hideP ok
  have hp := h.ltp
  have C0 := hideP (ctx_init h zNV.obj)
  have HN := hideP (sees_next ok.ends h.lt hs)
  have htx : (tkA ts a).text = [102, 97, 108, 115, 101] := sees_text hs
  have HC := hideP (pass_c pb tb cap a d ts _ C0.out.ps HN.out ok.len)
  obtain ⟨t, ht⟩ : ∃ t, t = tkA ts a := ⟨_, rfl⟩
  rw [<- ht] at HC htx ⊢
  obtain ⟨kd, tx, tl, tc⟩ := t
  obtain rfl : tx = [102, 97, 108, 115, 101] := htx
  clear hs ht
  obtain ⟨R, hR⟩ : ∃ R : Pr Ty, R = (.inl (mkE 2 [] 0 tl tc [] [] [], a + 1)) := ⟨_, rfl⟩
  rw [<- hR]
  have HR0 := hideP hR
  clear h ok hR
  go_enter func148, ntmps148
  go_wp2_with fail
  refine (HC.out).mono ?_
  rintro e w1 ⟨rfl, hst, hps⟩
  have C1 := hideP (C0.out.step hst hps)
  have C2 := hideP (C1.out.alloc (TOKO ⟨kd, [102, 97, 108, 115, 101], tl, tc⟩))
  clear hst hps
  go_wp2_with fail
  refine (placed_c ⟨kd, [102, 97, 108, 115, 101], tl, tc⟩ ⟨2, ⟨#[]⟩, 0, 0, 0, none, 0, 0, none, 0, 0, none, 0, 0⟩ _).mono ?_
  rintro e w2 ⟨rfl, hb⟩
  have C3 := hideP (C2.out.below hb)
  clear hb
  obtain ⟨⟨r0, r1, r2, r3, r4, r5, r6, r7⟩, ⟨f0, f1, f2, f3, f4, f5, f6, f7⟩, hr1⟩ := box8 (x := zNV) (C3.out.b1)
  go_wp2_with fail
  rw [HR0.out]
  refine bodyPost_ret (results_cell_row rfl _ _ w.heap.size 27 _ (0, 0) _ rfl (put8_heap (x := leafNV 2 [] 0 ⟨kd, [102, 97, 108, 115, 101], tl, tc⟩) C3.out.b1) underlying27 rfl (by kernel_rfl)) rfl ⟨stay_put8 C3.out.st hp (Nat.le_refl _) (leafNV 2 [] 0 ⟨kd, [102, 97, 108, 115, 101], tl, tc⟩), ps_put8 C3.out.ps hp (leafNV 2 [] 0 ⟨kd, [102, 97, 108, 115, 101], tl, tc⟩), _, rfl, leafNV 2 [] 0 ⟨kd, [102, 97, 108, 115, 101], tl, tc⟩, rfl, ?_⟩
  exact ((leaf_nd _ _ 2 [] 0 ⟨kd, [102, 97, 108, 115, 101], tl, tc⟩).put8 (Nat.lt_succ_self _) (leafNV 2 [] 0 ⟨kd, [102, 97, 108, 115, 101], tl, tc⟩)).lower (Nat.le_succ _)
theorem const_null (pb tb cap d : Nat) (ts : List Tok) (ok : ToksOk ts) (a : Nat) (hs : seesA ts a [110, 117, 108, 108] = true) (w : World) (h : Ps w pb tb cap ts a d) :
    Calls prog 148 #[.pointer (some ⟨pb, 0, none⟩)] w (PPost pb tb cap ts d w NdE (.inl (mkE 3 [] 0 (tkA ts a).line (tkA ts a).col [] [] [], a + 1))) := by
  have H := hideP h
  have OK := hideP ok
  have hp := h.ltp
  have C0 := hideP (ctx_init h zNV.obj)
  have HN := hideP (sees_next ok.ends h.lt hs)
  have htx : (tkA ts a).text = [110, 117, 108, 108] := sees_text hs
  have HC := hideP (pass_c pb tb cap a d ts _ C0.out.ps HN.out ok.len)
  obtain ⟨t, ht⟩ : ∃ t, t = tkA ts a := ⟨_, rfl⟩
  rw [<- ht] at HC htx ⊢
  obtain ⟨kd, tx, tl, tc⟩ := t
  obtain rfl : tx = [110, 117, 108, 108] := htx
  clear hs ht
  obtain ⟨R, hR⟩ : ∃ R : Pr Ty, R = (.inl (mkE 3 [] 0 tl tc [] [] [], a + 1)) := ⟨_, rfl⟩
  rw [<- hR]
  have HR0 := hideP hR
  clear h ok hR
  go_enter func148, ntmps148
  go_wp2_with fail
  refine (HC.out).mono ?_
  rintro e w1 ⟨rfl, hst, hps⟩
  have C1 := hideP (C0.out.step hst hps)
  have C2 := hideP (C1.out.alloc (TOKO ⟨kd, [110, 117, 108, 108], tl, tc⟩))
  clear hst hps
  go_wp2_with fail
  refine (placed_c ⟨kd, [110, 117, 108, 108], tl, tc⟩ ⟨3, ⟨#[]⟩, 0, 0, 0, none, 0, 0, none, 0, 0, none, 0, 0⟩ _).mono ?_
  rintro e w2 ⟨rfl, hb⟩
  have C3 := hideP (C2.out.below hb)
  clear hb
  obtain ⟨⟨r0, r1, r2, r3, r4, r5, r6, r7⟩, ⟨f0, f1, f2, f3, f4, f5, f6, f7⟩, hr1⟩ := box8 (x := zNV) (C3.out.b1)
  go_wp2_with fail
  rw [HR0.out]
  refine bodyPost_ret (results_cell_row rfl _ _ w.heap.size 27 _ (0, 0) _ rfl (put8_heap (x := leafNV 3 [] 0 ⟨kd, [110, 117, 108, 108], tl, tc⟩) C3.out.b1) underlying27 rfl (by kernel_rfl)) rfl ⟨stay_put8 C3.out.st hp (Nat.le_refl _) (leafNV 3 [] 0 ⟨kd, [110, 117, 108, 108], tl, tc⟩), ps_put8 C3.out.ps hp (leafNV 3 [] 0 ⟨kd, [110, 117, 108, 108], tl, tc⟩), _, rfl, leafNV 3 [] 0 ⟨kd, [110, 117, 108, 108], tl, tc⟩, rfl, ?_⟩
  exact ((leaf_nd _ _ 3 [] 0 ⟨kd, [110, 117, 108, 108], tl, tc⟩).put8 (Nat.lt_succ_self _) (leafNV 3 [] 0 ⟨kd, [110, 117, 108, 108], tl, tc⟩)).lower (Nat.le_succ _)
end Go.Proofs.YtlhmofphpfdjlaaGreatDoor
