/- Part. -/
import Derived.Test.YtlhmofphpfdjlaaGreatDoorPart34
set_option maxRecDepth 100000
set_option maxHeartbeats 4000000
/- A whole text that is an expression. -/
namespace Go.Proofs.YtlhmofphpfdjlaaGreatDoor
open Go.Proofs.Tryz
open Go.RowKit
theorem exprText_toks {l : List UInt8} {ts : List Tok} (h : lexV l = .inl ts) : exprTextV l = doneA (endA ts (deepA ts ts.length 101 false 0 0)) := by
  unfold exprTextV doneA
  rw [h]
  simp only
  cases endA ts (deepA ts ts.length 101 false 0 0) <;> rfl
theorem ps_far8 {w : World} {pb tb cap a d b : Nat} {ts : List Tok} (h : Ps w pb tb cap ts a d) (h1 : b ≠ pb) (h2 : b ≠ tb) (x : NV) : Ps (put8 w b x) pb tb cap ts a d :=
  ⟨(put8_other (x := x) (fun e => h1 e.symm)).trans h.blk, h.tlt, toksC_keep h.toks (put8_other (x := x) (fun e => h2 e.symm)), h.lt⟩
theorem NdV.drew {lo : Nat} {w : World} {x : NV} {D : Ty} (h : NdV lo w x D) : NdV lo w.drew x D := h.keep (Nat.le_refl _) fun _ _ _ => rfl
theorem NdV.set4 {lo b : Nat} {w : World} {x : NV} {D : Ty} (h : NdV lo w x D) (hb : b < lo) (x0 x1 x2 x3 : Value) : NdV lo ((((w.setCell ⟨b, 0, none⟩ x0).setCell ⟨b, 1, none⟩ x1).setCell ⟨b, 2, none⟩ x2).setCell ⟨b, 3, none⟩ x3) x D :=
  (((h.set1 hb 0 _).set1 hb 1 _).set1 hb 2 _).set1 hb 3 _
theorem wholeN_c (S : ByteArray) (hS : S.size <= 140737488351232) (w : World) (hw : Lx.Words w) :
    Calls prog 11 #[.string S, .func (.func 12) #[] #[]] w (WPost w zNV.val NdE (exprTextV S.data.toList)) := by
  have hmf : ∀ (fn : Fn) (first cap : Array Value) (w : World), (Instr.makeFunc fn first cap).run prog w = .ok (.func fn first cap) w := fun _ _ _ _ => rfl
  have HX := hideP (fun wx (hb : Below w.heap.size w wx) => Lx.lex_c S hS wx (hw.below hb))
  have hen := expr_enters
  clear hw
  go_enter_defers func11, ntmps11
  go_wp2_with fail
  refine (HX.out _ (below_next (bl_alloc _ _) (bl_alloc _ _))).mono ?_
  intro e w2 hpost
  obtain ⟨hb2, hm⟩ := hpost
  have HB2 := hideP (below_next (below_next (bl_alloc _ _) (bl_alloc _ _)) hb2)
  have HA := hideP ((hb2.block w.heap.size (by rw [World.size_alloc, World.size_alloc]; omega)).trans ((Below.heap_alloc _ _ _ (by rw [World.size_alloc]; omega)).trans (heap_alloc_last w _)))
  have HD := hideP ((hb2.block (w.heap.size + 1) (by rw [World.size_alloc, World.size_alloc]; omega)).trans (heap_at1 w _ _))
  clear hb2
  obtain ⟨⟨a0, a1, a2, a3, a4, a5, a6, a7⟩, ⟨z0, z1, z2, z3, z4, z5, z6, z7⟩, hla⟩ := box8 (x := zNV) HA.out
  obtain ⟨⟨d0, d1, d2, d3⟩, ⟨g0, g1, g2, g3⟩, hld⟩ := res_facts HD.out
  cases hl : lexV S.data.toList with
  | inr p =>
    obtain ⟨x, li, co⟩ := p
    rw [hl] at hm
    simp only at hm
    subst hm
    have hx0 : (x != 0) = true := by simpa using lex_err hl
    have HE : Hid (exprTextV S.data.toList = .inr (x, li, co)) := by show _ = _; unfold exprTextV; rw [hl]
    clear hl
    unfold Lx.diagA
    go_wp2_with fail
    go_region
    all_goals
      go_wp2_with fail
      have hh1 := other_set4 (w := w2) (b := w.heap.size + 1) (i := w.heap.size) (by omega) (.int .i64 0) (.int .i64 li) (.int .i64 co) (.int .i64 x)
      have hga := put8_heap (x := zNV) (y := zNV) (hh1.trans HA.out)
      have hgd := set4 ((put8_other (x := zNV) (b := w.heap.size) (i := w.heap.size + 1) (by omega)).trans (set4 HD.out (.int .i64 0) (.int .i64 li) (.int .i64 co) (.int .i64 x))) (.int .i64 0) (.int .i64 li) (.int .i64 co) (.int .i64 x)
      refine ⟨.tuple #[zNV.val, diagV li co x], results_ccd rfl _ rfl ((other_set4 (b := w.heap.size + 1) (i := w.heap.size) (by omega) (.int .i64 0) (.int .i64 li) (.int .i64 co) (.int .i64 x)).trans hga) underlying27 (by kernel_rfl) rfl hgd underlying30 (by kernel_rfl), ?_⟩
      rw [HE.out]
      exact ⟨(below_set4 (below_put8 (below_set4 HB2.out (by omega) _ _ _ _) (Nat.le_refl _) zNV) (by omega) _ _ _ _).drew, rfl⟩
  | inl ts =>
    rw [hl] at hm
    obtain ⟨g, cap, rfl, hown⟩ := hm
    have OK := hideP (lex_toks hl)
    have HE := hideP (exprText_toks hl)
    have HTc := hideP (toksC_of hown)
    have hgl : g < w2.heap.size /\ w.heap.size + 2 <= g := by
      have := hown.lt g rfl
      rw [World.size_alloc, World.size_alloc] at this
      omega
    obtain ⟨hgl1, hgl2⟩ := hgl
    obtain ⟨Wd, hWd⟩ : ∃ W, W = (((w2.setCell ⟨w.heap.size + 1, 0, none⟩ (.int .i64 0)).setCell ⟨w.heap.size + 1, 1, none⟩ (.int .i64 0)).setCell ⟨w.heap.size + 1, 2, none⟩ (.int .i64 0)).setCell ⟨w.heap.size + 1, 3, none⟩ (.int .i64 0) := ⟨_, rfl⟩
    have hWs : Wd.heap.size = w2.heap.size := by rw [hWd, size_set4]
    have HAd : Hid (Wd.heap[w.heap.size]? = some zNV.obj) := by rw [hWd]; exact (other_set4 (by omega) _ _ _ _).trans HA.out
    have HDd : Hid (Wd.heap[w.heap.size + 1]? = some (.cells #[.int .i64 0, .int .i64 0, .int .i64 0, .int .i64 0] 30)) := by rw [hWd]; exact set4 HD.out _ _ _ _
    have HTd : Hid (ToksC Wd g ts) := toksC_keep HTc.out (by rw [hWd]; exact other_set4 (by omega) _ _ _ _)
    have HBd : Hid (Below w.heap.size w Wd) := by rw [hWd]; exact below_set4 HB2.out (by omega) _ _ _ _
    clear hl hown
    unfold Lx.diagA
    go_wp2_with fail
    rw [<- hWd, <- hWs]
    have P0 : Ps (Wd.alloc (.cells #[.slice (some ⟨g, 0, none⟩) ts.length cap, .int .i64 0, .int .i64 0] 72)) Wd.heap.size g cap ts 0 0 :=
      ⟨heap_alloc_last _ _, by omega, toksC_keep HTd.out (Below.heap_alloc _ _ _ (by omega)), OK.out.pos⟩
    have HP0 := hideP P0
    clear P0
    refine (deep_c Wd.heap.size g cap ts OK.out 101 0 rfl (by omega) 0 _ HP0.out).1.mono ?_
    intro e w3 hpost
    have HPo := hideP hpost
    have hst0 := hpost.1
    have HA3 := hideP ((hst0.below.block w.heap.size (by omega)).trans ((Below.heap_alloc _ _ _ (by omega)).trans HAd.out))
    have HD3 := hideP ((hst0.below.block (w.heap.size + 1) (by omega)).trans ((Below.heap_alloc _ _ _ (by omega)).trans HDd.out))
    have HB3 : Hid (Below w.heap.size w w3) := (HBd.out.alloc (by omega) _).trans (hst0.below.mono (by omega))
    have HS3 := hideP hst0.size
    clear hpost hst0 a0 a1 a2 a3 a4 a5 a6 a7 z0 z1 z2 z3 z4 z5 z6 z7 d0 d1 d2 d3 g0 g1 g2 g3
    rcases ppost_or HPo.out with ⟨er, li, co, hr, rfl, hst⟩ | ⟨D, b, v, hr, rfl, hst, hps, x, rfl, hv⟩
    · have HE2 : Hid (exprTextV S.data.toList = .inr (er, li, co)) := by rw [HE.out, hr]; exact rfl
      clear hr hst
      go_wp2_with fail
      refine leaves_cons (f := 23) (args := #[.pointer (some ⟨w.heap.size, 0, none⟩), .pointer (some ⟨w.heap.size + 1, 0, none⟩)]) (by simp) (by simp [go_sem]) ?_
      refine (catchN_panic w.heap.size (w.heap.size + 1) li co er [] w3 zNV _ _ _ _ HA3.out HD3.out (by omega)).mono ?_
      rintro e u' w4 ⟨rfl, rfl, ⟨h1, h2⟩, h3⟩
      show ∃ v, _
      refine ⟨_, results_cc rfl _ rfl h1 underlying27 (by kernel_rfl) rfl h2 underlying30 (by kernel_rfl), ?_⟩
      rw [HE2.out]
      exact ⟨HB3.out.trans (h3.out _ (Nat.le_refl _) (by omega)), rfl⟩
    · have HV := hideP hv
      have HPs := hideP hps
      have HK := hideP hr
      obtain ⟨⟨a0, a1, a2, a3, a4, a5, a6, a7⟩, ⟨z0, z1, z2, z3, z4, z5, z6, z7⟩, hla3⟩ := box8 (x := zNV) HA3.out
      obtain ⟨⟨d0, d1, d2, d3⟩, ⟨g0, g1, g2, g3⟩, hld3⟩ := res_facts HD3.out
      rw [hWs] at HPs
      obtain ⟨We, hWe⟩ : ∃ W, W = put8 w3 w.heap.size x := ⟨_, rfl⟩
      have HPe : Hid (Ps We w2.heap.size g cap ts b 0) := by rw [hWe]; exact ps_far8 HPs.out (by omega) (by omega) x
      have HAe : Hid (We.heap[w.heap.size]? = some x.obj) := by rw [hWe]; exact put8_heap (y := zNV) HA3.out
      have HDe : Hid (We.heap[w.heap.size + 1]? = some (.cells #[.int .i64 0, .int .i64 0, .int .i64 0, .int .i64 0] 30)) := by rw [hWe]; exact (put8_other (x := x) (by omega)).trans HD3.out
      have HBe : Hid (Below w.heap.size w We) := by rw [hWe]; exact below_put8 HB3.out (Nat.le_refl _) x
      have HVe : Hid (NdV (Wd.heap.size + 1) We x D) := by rw [hWe]; have := HV.out; rw [World.size_alloc] at this; exact this.put8 (by omega) x
      have HSe : Hid (We.heap.size = w3.heap.size) := by rw [hWe]; exact put8_size (x := x)
      unfold put8 at hWe
      clear hr hst hps hv
      go_wp2_with fail
      rw [<- hWe]
      clear hWe a0 a1 a2 a3 a4 a5 a6 a7 z0 z1 z2 z3 z4 z5 z6 z7 d0 d1 d2 d3 g0 g1 g2 g3
      refine (end_c w2.heap.size g cap b 0 ts _ HPe.out).mono ?_
      intro e w4 hpost
      have hst0 := hpost.1
      have hpe := HPe.out.ltp
      have HA4 := hideP ((hst0.below.block w.heap.size (by omega)).trans HAe.out)
      have HD4 := hideP ((hst0.below.block (w.heap.size + 1) (by omega)).trans HDe.out)
      have HB4 : Hid (Below w.heap.size w w4) := HBe.out.trans (hst0.below.mono (by omega))
      have HV4 : Hid (NdV (w2.heap.size + 1) w4 x D) := by
        have := HVe.out
        rw [hWs] at this
        exact this.stay hst0 (by omega)
      have HPo4 := hideP hpost
      clear hpost hst0
      rcases ppost_or HPo4.out with ⟨er, li, co, hr, rfl, hst⟩ | ⟨u, b', v, hr, rfl, hst, hps, hv⟩
      · have HE2 : Hid (exprTextV S.data.toList = .inr (er, li, co)) := by
          rw [HE.out, HK.out]
          show doneA (if (tkA ts b).kind == 0 then .inl (D, b) else badA ts 7 b) = _
          by_cases h0 : ((tkA ts b).kind == 0) = true
          · rw [if_pos h0] at hr; cases hr
          · rw [if_neg h0] at hr ⊢
            injection hr with hr
            exact congrArg Sum.inr hr
        clear hr hst
        go_wp2_with fail
        refine leaves_cons (f := 23) (args := #[.pointer (some ⟨w.heap.size, 0, none⟩), .pointer (some ⟨w.heap.size + 1, 0, none⟩)]) (by simp) (by simp [go_sem]) ?_
        refine (catchN_panic w.heap.size (w.heap.size + 1) li co er [] w4 x _ _ _ _ HA4.out HD4.out (by omega)).mono ?_
        rintro e u' w5 ⟨rfl, rfl, ⟨h1, h2⟩, h3⟩
        show ∃ v, _
        refine ⟨_, results_cc rfl _ rfl h1 underlying27 (by kernel_rfl) rfl h2 underlying30 (by kernel_rfl), ?_⟩
        rw [HE2.out]
        exact ⟨HB4.out.trans (h3.out _ (Nat.le_refl _) (by omega)), rfl⟩
      · have HE2 : Hid (exprTextV S.data.toList = .inl D) := by
          rw [HE.out, HK.out]
          show doneA (if (tkA ts b).kind == 0 then .inl (D, b) else badA ts 7 b) = _
          by_cases h0 : ((tkA ts b).kind == 0) = true
          · rw [if_pos h0]; exact rfl
          · rw [if_neg h0] at hr; cases hr
        obtain ⟨⟨a0, a1, a2, a3, a4, a5, a6, a7⟩, ⟨z0, z1, z2, z3, z4, z5, z6, z7⟩, hla4⟩ := box8 (x := x) HA4.out
        obtain ⟨⟨d0, d1, d2, d3⟩, ⟨g0, g1, g2, g3⟩, hld4⟩ := res_facts HD4.out
        clear hr hst hps hv
        go_wp2_with fail
        go_region
        all_goals
          go_wp2_with fail
          have hga := (other_set4 (b := w.heap.size + 1) (i := w.heap.size) (by omega) (.int .i64 0) (.int .i64 0) (.int .i64 0) (.int .i64 0)).trans (put8_heap (x := x) (y := x) HA4.out)
          have hgd := set4 ((put8_other (x := x) (b := w.heap.size) (i := w.heap.size + 1) (by omega)).trans HD4.out) (.int .i64 0) (.int .i64 0) (.int .i64 0) (.int .i64 0)
          have hT := ((HV4.out.put8 (b := w.heap.size) (by omega) x).set4 (b := w.heap.size + 1) (by omega) (.int .i64 0) (.int .i64 0) (.int .i64 0) (.int .i64 0)).lower (lo' := w.heap.size) (by omega)
          have hBf := below_set4 (below_put8 HB4.out (Nat.le_refl _) x) (show w.heap.size <= w.heap.size + 1 by omega) (.int .i64 0) (.int .i64 0) (.int .i64 0) (.int .i64 0)
          generalize hWf : (((((put8 w4 w.heap.size x).setCell ⟨w.heap.size + 1, 0, none⟩ (.int .i64 0)).setCell ⟨w.heap.size + 1, 1, none⟩ (.int .i64 0)).setCell ⟨w.heap.size + 1, 2, none⟩ (.int .i64 0)).setCell ⟨w.heap.size + 1, 3, none⟩ (.int .i64 0)) = Wf at hga hgd hT hBf
          refine leaves_cons (f := 23) (args := #[.pointer (some ⟨w.heap.size, 0, none⟩), .pointer (some ⟨w.heap.size + 1, 0, none⟩)]) (by simp) (by simp [go_sem]) ?_
          refine (catchN_idle ⟨w.heap.size, 0, none⟩ ⟨w.heap.size + 1, 0, none⟩ _).mono ?_
          rintro e u' w5 ⟨rfl, rfl, rfl⟩
          show ∃ v, _
          refine ⟨_, results_ccd rfl _ rfl hga underlying27 (by kernel_rfl) rfl hgd underlying30 (by kernel_rfl), ?_⟩
          rw [HE2.out]
          exact ⟨hBf.drew, _, rfl, x, rfl, hT.drew⟩
theorem parseExpr_c (S : ByteArray) (hS : S.size <= 140737488351232) (w : World) (hw : Lx.Words w) :
    Calls prog 5 #[.string S] w (WPost w zNV.val NdE (exprTextV S.data.toList)) := by
  have HW := hideP (wholeN_c S hS _ (hw.below (below_next (bl_alloc w zNV.obj) (bl_alloc _ (.cells #[.int .i64 0, .int .i64 0, .int .i64 0, .int .i64 0] 30)))))
  obtain ⟨R, hR⟩ : ∃ R, R = exprTextV S.data.toList := ⟨_, rfl⟩
  rw [<- hR] at HW ⊢
  clear hw hR
  go_enter func5, ntmps5
  go_wp2_with fail
  refine HW.out.mono ?_
  intro e w2 hpost
  obtain ⟨hb2, hm⟩ := hpost
  have HB2 := hideP (below_next (below_next (bl_alloc _ _) (bl_alloc _ _)) hb2)
  have HA := hideP ((hb2.block w.heap.size (by rw [World.size_alloc, World.size_alloc]; omega)).trans ((Below.heap_alloc _ _ _ (by rw [World.size_alloc]; omega)).trans (heap_alloc_last w _)))
  have HD := hideP ((hb2.block (w.heap.size + 1) (by rw [World.size_alloc, World.size_alloc]; omega)).trans (heap_at1 w _ _))
  clear hb2
  obtain ⟨⟨a0, a1, a2, a3, a4, a5, a6, a7⟩, ⟨z0, z1, z2, z3, z4, z5, z6, z7⟩, hla⟩ := box8 (x := zNV) HA.out
  obtain ⟨⟨d0, d1, d2, d3⟩, ⟨g0, g1, g2, g3⟩, hld⟩ := res_facts HD.out
  rw [World.size_alloc, World.size_alloc] at hm
  rcases R with D | ⟨er, li, co⟩
  · obtain ⟨v, rfl, x, rfl, hv⟩ := hm
    have HV := hideP hv
    clear hv
    go_wp2_with fail
    have hga := (other_set4 (b := w.heap.size + 1) (i := w.heap.size) (by omega) (.int .i64 0) (.int .i64 0) (.int .i64 0) (.int .i64 0)).trans (put8_heap (x := x) (y := zNV) HA.out)
    have hgd := set4 ((put8_other (x := x) (b := w.heap.size) (i := w.heap.size + 1) (by omega)).trans HD.out) (.int .i64 0) (.int .i64 0) (.int .i64 0) (.int .i64 0)
    refine bodyPost_ret (results_cc rfl _ rfl hga underlying27 (by kernel_rfl) rfl hgd underlying30 (by kernel_rfl)) rfl ⟨below_set4 (below_put8 HB2.out (Nat.le_refl _) x) (by omega) _ _ _ _, _, rfl, x, rfl, ?_⟩
    exact ((HV.out.put8 (b := w.heap.size) (by omega) x).set4 (b := w.heap.size + 1) (by omega) _ _ _ _).lower (by omega)
  · subst hm
    go_wp2_with fail
    have hga := (other_set4 (b := w.heap.size + 1) (i := w.heap.size) (by omega) (.int .i64 0) (.int .i64 li) (.int .i64 co) (.int .i64 er)).trans (put8_heap (x := zNV) (y := zNV) HA.out)
    have hgd := set4 ((put8_other (x := zNV) (b := w.heap.size) (i := w.heap.size + 1) (by omega)).trans HD.out) (.int .i64 0) (.int .i64 li) (.int .i64 co) (.int .i64 er)
    refine bodyPost_ret (results_cc rfl _ rfl hga underlying27 (by kernel_rfl) rfl hgd underlying30 (by kernel_rfl)) rfl ⟨below_set4 (below_put8 HB2.out (Nat.le_refl _) zNV) (by omega) _ _ _ _, rfl⟩
end Go.Proofs.YtlhmofphpfdjlaaGreatDoor
/- A list of names. -/
namespace Go.Proofs.YtlhmofphpfdjlaaGreatDoor
open Go.Proofs.Tryz
open Go.RowKit
def StrsE (lo : Nat) (w : World) (v : Value) (xs : List (List UInt8)) : Prop := ∃ cs, RowsC StrC lo 9 1 none w v cs xs
/-- The method of this name reads a name. -/
structure NamesIt (m : String) : Prop where
  meth : ∀ n pb w, (method (n + 1) 53 (.pointer (some ⟨pb, 0, none⟩)) m).run prog w = .ok (62, .pointer (some ⟨pb, 0, none⟩)) w
theorem listS_c (pb tb cap d : Nat) (ts : List Tok) (sep : List UInt8) (m0 : String) (hm0 : NamesIt m0)
    (f a : Nat) (hf : ts.length <= a + (f + 1)) (w : World) (h : Ps w pb tb cap ts a d) (ok : ToksOk ts) :
    Calls prog 63 #[.pointer (some ⟨pb, 0, none⟩), .string ⟨sep.toArray⟩, .func (.methodOf 53 m0) #[] #[]] w (PPost pb tb cap ts d w StrsE (manyA ts (nameA ts) sep (f + 1) a)) := by
  have H := hideP h
  have OK := hideP ok
  have hen := hm0.meth
  clear h ok hm0
  have HO := hideP (pname_c pb tb cap a d ts w H.out OK.out)
  have HF := hideP hf
  clear hf
  cases ho : nameA ts a with
  | inr x =>
    obtain ⟨er, li, co⟩ := x
    rw [many_bad ho]
    rw [ho] at HO
    clear ho
    go_enter func63, ntmps63
    go_wp2_with fail
    refine HO.out.mono ?_
    rintro e w1 ⟨hst, rfl⟩
    have HST := hideP hst
    clear hst
    go_wp2_with fail
    exact ⟨rfl, HST.out, rfl⟩
  | inl x =>
    obtain ⟨D0, a1⟩ := x
    have HM := hideP (many_start (ts := ts) (sep := sep) (f := f) ho)
    have HU := hideP (name_up ho)
    rw [ho] at HO
    clear ho
    obtain ⟨R, hR⟩ : ∃ R, R = manyA ts (nameA ts) sep (f + 1) a := ⟨_, rfl⟩
    rw [<- hR] at HM ⊢
    clear hR
    obtain ⟨i0, hi, hz0, hz1, hz2⟩ := info_parts info_str
    go_enter func63, ntmps63
    go_wp2_with fail
    refine HO.out.mono ?_
    rintro e w1 ⟨hst, hps, v, rfl, hv⟩
    subst hv
    have HR1 := hideP (rows_one (B := w.heap.size) (et := 9) (k := 1) (rep := StrC) (x := D0) (c := [.string ⟨D0.toArray⟩]) (lo := w.heap.size) rfl (Nat.le_refl _) hst.size rfl)
    have HST := hideP (hst.alloc H.out.ltp (.cells #[.string ⟨D0.toArray⟩] 9))
    have HP := hideP (hps.alloc (.cells #[.string ⟨D0.toArray⟩] 9))
    clear hst hps
    have HL0 : Hid (ts.length <= a1 + (f + 1)) := by have := HF.out; have := HU.out; show _ <= _; omega
    go_wp2_with fail
    go_loopg [7] (ts.length - a1) (fun gk s wr => ∃ (b m : Nat) (cs : List (List Value)) (acc : List (List UInt8)), Hid (RowsC StrC w.heap.size 9 1 none wr s cs acc) /\ Hid (Stay pb w wr) /\ Hid (Ps wr pb tb cap ts b d) /\ Hid (ManyAt ts (nameA ts) sep R acc m b) /\ Hid (ts.length <= b + (m + 1)) /\ Hid (acc.length <= b + 1) /\ ts.length - b <= gk)
    case atStart => exact ⟨a1, f, _, _, HR1, HST, HP, HM, HL0, (show 1 <= a1 + 1 by omega), Nat.le_refl _⟩
    case round =>
      clear HR1 HST HP HM HL0 HU HO
      obtain ⟨b, m, cs, acc, HRw, HSt, HPs, HMa, HLe, HAc, hgk⟩ := hrel
      have HT := hideP (take_c pb tb cap b d ts sep wr HPs.out OK.out)
      cases hs : seesA ts b sep with
      | false =>
        have HE := hideP (many_end HMa.out hs)
        rw [hs, if_neg (by simp)] at HT
        clear hs
        go_wp2_with fail
        refine HT.out.mono ?_
        rintro e w2 ⟨rfl, hst, hps⟩
        have HST := hideP (HSt.out.trans hst)
        have HPS := hideP hps
        have HRW := hideP (HRw.out.stay hst H.out.ltp)
        clear hst hps
        go_wp2_with fail
        go_ret
        rw [HE.out]
        exact ⟨HST.out, HPS.out, _, rfl, _, HRW.out⟩
      | true =>
        have hbl : b + 1 < ts.length := sees_next OK.out.ends HPs.out.lt hs
        obtain ⟨m, rfl⟩ : ∃ q, m = q + 1 := ⟨m - 1, by have := HLe.out; omega⟩
        have HSe := hideP hs
        rw [hs, if_pos rfl] at HT
        clear hs
        go_wp2_with fail
        refine HT.out.mono ?_
        rintro e w2 ⟨rfl, hst, hps⟩
        have HST := hideP (HSt.out.trans hst)
        have HPS := hideP hps
        have HRW := hideP (HRw.out.stay hst H.out.ltp)
        clear hst hps
        have HO := hideP (pname_c pb tb cap (b + 1) d ts w2 HPS.out OK.out)
        cases ho : nameA ts (b + 1) with
        | inr x =>
          obtain ⟨er, li, co⟩ := x
          have HE := hideP (many_fail HMa.out HSe.out ho)
          rw [ho] at HO
          clear ho
          go_wp2_with fail
          refine HO.out.mono ?_
          rintro e w3 ⟨hst, rfl⟩
          have HST3 := hideP (HST.out.trans hst)
          clear hst
          go_wp2_with fail
          rw [HE.out]
          exact ⟨rfl, HST3.out, rfl⟩
        | inl x =>
          obtain ⟨D1, b1⟩ := x
          have HM2 := hideP (many_next HMa.out HSe.out ho)
          have HU2 := hideP (name_up ho)
          rw [ho] at HO
          clear ho
          obtain ⟨av, cv, rfl⟩ := row_shape HRW.out.ow
          go_wp2_with fail
          refine HO.out.mono ?_
          rintro e w3 ⟨hst, hps, v, rfl, hv⟩
          subst hv
          have HST3 := hideP (HST.out.trans hst)
          have HPS3 := hideP hps
          have HS23 := hideP hst
          have HRW3 := hideP (HRW.out.stay hst H.out.ltp)
          clear hst hps
          have hac : acc.length <= 8193 := by have := HAc.out; have := OK.out.len; omega
          go_wp2_with (at_builtin; refine wpList_append_own_at _ rfl (.tmp 17) (.tmp 21) 24 rfl w.heap.size 9 i0 _ 1 16 underlying24 hi hz0 hz1 hz2 rfl (by decide) _ _ _ rfl (HRW3.out.ow.alloc _) ⟨_, 0, none⟩ 1 1 [.string ⟨D1.toArray⟩] rfl rfl (cells_newK _ _ _) (by simp [Value.oneCell']) (by unfold maxLen; omega) (by omega) (by have := HST3.out.size; simp; omega) ?_)
          intro v' w4 hown' hgrow _ hloc
          have HR4 : Hid (RowsC StrC w.heap.size 9 1 none w4 v' (cs ++ [[.string ⟨D1.toArray⟩]]) (acc ++ [D1])) :=
            HRW3.out.put hown' hgrow (hloc.imp_right fun e => ⟨_, e, by simp⟩) ((Stay.refl pb w3).alloc HPS3.out.ltp _) H.out.ltp rfl ((Made.new (rep := StrC) (lo := w2.heap.size) (x := D1) rfl HST.out.size fun q hq => HRW.out.all q hq).stay ((Stay.refl pb w3).alloc HPS3.out.ltp _) H.out.ltp)
          have HST4 : Hid (Stay pb w w4) := (HST3.out.alloc H.out.ltp _).grown hgrow H.out.ltp fun q hq => (HRW3.out.own q hq).1
          have HPS4 : Hid (Ps w4 pb tb cap ts b1 d) := (HPS3.out.alloc _).grown hgrow fun q hq => Nat.lt_of_lt_of_le H.out.ltp (HRW3.out.own q hq).1
          clear hown' hgrow hloc
          go_wp2_with fail
          go_roundg (ts.length - b1)
          case measure => have := HU2.out; have := HPS4.out.lt; omega
          case rel => exact ⟨b1, m, _, _, HR4, HST4, HPS4, HM2, (by have := HLe.out; have := HU2.out; show _ <= _; omega), (by have := HAc.out; have := HU2.out; show (acc ++ [D1]).length <= _; simp; omega), Nat.le_refl _⟩
end Go.Proofs.YtlhmofphpfdjlaaGreatDoor
/- A variable of a function. -/
namespace Go.Proofs.YtlhmofphpfdjlaaGreatDoor
open Go.Proofs.Tryz
open Go.RowKit
attribute [local go_sem ↓] Go.wp_at_zero Go.wp_at_succ
theorem varA_behind (ts : List Tok) (K : Nat -> Pr Ty) (a : Nat) : varA ts K a = (nameA ts a).go fun s b => (behindA ts K [60, 58] b).go fun x b => .inl ((s, x.1), b) := by
  unfold varA behindA
  cases nameA ts a with
  | inr e => rfl
  | inl p =>
    show (if seesA ts p.2 [60, 58] then _ else _) = Pr.go (if seesA ts p.2 [60, 58] then _ else _) _
    by_cases h : seesA ts p.2 [60, 58] = true
    · rw [if_pos h, if_pos h]
      cases K (p.2 + 1) <;> rfl
    · rw [if_neg h, if_neg h]
      rfl
/-- A variable in memory, by its five cells. -/
def VarC (lo : Nat) (w : World) (c : List Value) (x : List UInt8 × Ty) : Prop := ∃ (k : Int) (nm : ByteArray) (na : Option Addr) (nl nc : Nat) (ka : Option Addr) (kl kc : Nat), c = [.string ⟨x.1.toArray⟩, .int .i64 k, .string nm, .slice na nl nc, .slice ka kl kc] /\ TyE lo w (.agg #[.int .i64 k, .string nm, .slice na nl nc, .slice ka kl kc]) x.2
def VarE (lo : Nat) (w : World) (v : Value) (x : List UInt8 × Ty) : Prop := ∃ c : List Value, v = .agg c.toArray /\ VarC lo w c x
theorem varC_k : RepK VarC where
  keep := fun ⟨k, nm, na, nl, nc, ka, kl, kc, e, h⟩ hs hk => ⟨k, nm, na, nl, nc, ka, kl, kc, e, h.keep hs hk⟩
  lower := fun ⟨k, nm, na, nl, nc, ka, kl, kc, e, h⟩ hl => ⟨k, nm, na, nl, nc, ka, kl, kc, e, h.lower hl⟩
abbrev zVar : Obj := .cells #[.string ⟨#[]⟩, .int .i64 0, .string ⟨#[]⟩, .slice none 0 0, .slice none 0 0] 76
abbrev put5 (w : World) (b : Nat) (x0 x1 x2 x3 x4 : Value) : World := ((((w.setCell ⟨b, 0, none⟩ x0).setCell ⟨b, 1, none⟩ x1).setCell ⟨b, 2, none⟩ x2).setCell ⟨b, 3, none⟩ x3).setCell ⟨b, 4, none⟩ x4
section
variable {w w' : World} {b pb lo : Nat} {y0 y1 y2 y3 y4 : Value} {t : TypeId}
theorem put5_heap (h : w.heap[b]? = some (.cells #[y0, y1, y2, y3, y4] t)) (x0 x1 x2 x3 x4 : Value) : (put5 w b x0 x1 x2 x3 x4).heap[b]? = some (.cells #[x0, x1, x2, x3, x4] t) := by
  have h0 := cells_setCell (o := 0) (u := x0) h
  simp only [List.setIfInBounds_toArray, List.set_cons_zero] at h0
  have h1 := cells_setCell (o := 1) (u := x1) h0
  simp only [List.setIfInBounds_toArray, List.set_cons_zero, List.set_cons_succ] at h1
  have h2 := cells_setCell (o := 2) (u := x2) h1
  simp only [List.setIfInBounds_toArray, List.set_cons_zero, List.set_cons_succ] at h2
  have h3 := cells_setCell (o := 3) (u := x3) h2
  simp only [List.setIfInBounds_toArray, List.set_cons_zero, List.set_cons_succ] at h3
  have h4 := cells_setCell (o := 4) (u := x4) h3
  simp only [List.setIfInBounds_toArray, List.set_cons_zero, List.set_cons_succ] at h4
  exact h4
theorem stay_put5 (h : Stay pb w w') (hp : pb < w.heap.size) (hb : w.heap.size <= b) (x0 x1 x2 x3 x4 : Value) : Stay pb w (put5 w' b x0 x1 x2 x3 x4) :=
  ((((h.own hp hb 0 _).own hp hb 1 _).own hp hb 2 _).own hp hb 3 _).own hp hb 4 _
theorem ps_put5 {tb cap a d : Nat} {ts : List Tok} (h : Ps w pb tb cap ts a d) (hb : pb < b) (x0 x1 x2 x3 x4 : Value) : Ps (put5 w b x0 x1 x2 x3 x4) pb tb cap ts a d :=
  ((((h.other hb 0 _).other hb 1 _).other hb 2 _).other hb 3 _).other hb 4 _
theorem tyE_put5 {v : Value} {D : Ty} (h : TyE lo w v D) (hb : b < lo) (x0 x1 x2 x3 x4 : Value) : TyE lo (put5 w b x0 x1 x2 x3 x4) v D :=
  h.keep (by simp only [size_set]; exact Nat.le_refl _) fun i hi _ => by
    unfold put5
    have hne : i ≠ b := by omega
    rw [Below.heap_setCell _ _ _ _ hne, Below.heap_setCell _ _ _ _ hne, Below.heap_setCell _ _ _ _ hne, Below.heap_setCell _ _ _ _ hne, Below.heap_setCell _ _ _ _ hne]
theorem box5 (h : w.heap[b]? = some (.cells #[y0, y1, y2, y3, y4] t)) : (w.cell? ⟨b, 0, none⟩ = some y0 /\ w.cell? ⟨b, 1, none⟩ = some y1 /\ w.cell? ⟨b, 2, none⟩ = some y2 /\ w.cell? ⟨b, 3, none⟩ = some y3 /\ w.cell? ⟨b, 4, none⟩ = some y4) /\
    (w.frozen? ⟨b, 0, none⟩ = false /\ w.frozen? ⟨b, 1, none⟩ = false /\ w.frozen? ⟨b, 2, none⟩ = false /\ w.frozen? ⟨b, 3, none⟩ = false /\ w.frozen? ⟨b, 4, none⟩ = false) /\ b < w.heap.size := by
  refine ⟨⟨?_, ?_, ?_, ?_, ?_⟩, ⟨?_, ?_, ?_, ?_, ?_⟩, lt_of_block h⟩
  all_goals first | (rw [cell_of_row _ _ _ _ _ _ h]; rfl) | simp [World.frozen?, h]
end
theorem variable_c (pb tb cap d : Nat) (ts : List Tok) (K : Nat -> Pr Ty) (hK : Reads pb tb cap d ts TyE 17 K) (ok : ToksOk ts) (a : Nat) (w : World) (h : Ps w pb tb cap ts a d) :
    Calls prog 65 #[.pointer (some ⟨pb, 0, none⟩)] w (PPost pb tb cap ts d w VarE (varA ts K a)) := by
  have H := hideP h
  have OK := hideP ok
  have hp := h.ltp
  have HK1 := hideP hK
  have C0 := hideP (ctx_init h zVar)
  obtain ⟨R, hR⟩ : ∃ R : Pr (List UInt8 × Ty), R = (varA ts K a) := ⟨_, rfl⟩
  rw [<- hR]
  rw [varA_behind] at hR
  have HR1 := hideP hR
  clear h ok hR hK
  go_enter func65, ntmps65
  go_wp2_with fail
  refine (pname_c pb tb cap a d ts _ C0.out.ps OK.out).mono ?_
  intro e w2 hpost
  rcases ppost_or hpost with ⟨er, li, co, hr, rfl, hst⟩ | ⟨s, b2, v, hr, rfl, hst, hps, hv⟩
  · have HE : Hid (R = .inr (er, li, co)) := by rw [HR1.out, hr]; exact rfl
    have HF := hideP (C0.out.st.trans hst)
    clear hr hst hpost
    go_wp2_with fail
    exact ⟨rfl, HF.out, by rw [HE.out]⟩
  have HR2 : Hid (R = (behindA ts K [60, 58] b2).go fun x b => .inl ((s, x.1), b)) := by rw [HR1.out, hr]; exact rfl
  subst hv
  have C2 := hideP ((C0.out.step hst hps))
  clear hr hst hps hpost
  go_wp2_with fail
  refine (behind_c pb tb cap d ts [60, 58] K HK1.out OK.out b2 _ C2.out.ps).mono ?_
  intro e w3 hpost
  rcases ppost_or hpost with ⟨er, li, co, hr, rfl, hst⟩ | ⟨x, b3, v, hr, rfl, hst, hps, hv⟩
  · have HE : Hid (R = .inr (er, li, co)) := by rw [HR2.out, hr]; exact rfl
    have HF := hideP (C2.out.st.trans hst)
    clear hr hst hpost
    go_wp2_with fail
    exact ⟨rfl, HF.out, by rw [HE.out]⟩
  have HR3 : Hid (R = .inl ((s, x.1), b3)) := by rw [HR2.out, hr]; exact rfl
  obtain ⟨u3, rfl, hv⟩ := hv
  obtain ⟨k1, nm1, na1, nl1, nc1, ka1, kl1, kc1, rfl⟩ := hv.cells
  have C3 := hideP ((C2.out.step hst hps).addT hv C2.out.sz)
  clear hr hst hps hpost hv
  have C4 := hideP (C3.out.alloc (tyO k1 nm1 na1 nl1 nc1 ka1 kl1 kc1))
  obtain ⟨⟨r0, r1, r2, r3, r4⟩, ⟨f0, f1, f2, f3, f4⟩, hr1⟩ := box5 C4.out.b1
  obtain ⟨⟨q0, q1, q2, q3⟩, _, hq1⟩ := res_facts C4.out.b0
  have hne : ¬ w3.heap.size = w.heap.size := by have := C3.out.sz; omega
  go_wp2_with fail
  rw [HR3.out]
  refine bodyPost_ret (results_cell_row rfl _ _ w.heap.size 76 _ (0, 0) _ rfl (put5_heap C4.out.b1 _ _ _ _ _) underlying76 rfl (by kernel_rfl)) rfl ⟨stay_put5 C4.out.st hp (Nat.le_refl _) _ _ _ _ _, ps_put5 C4.out.ps hp _ _ _ _ _, _, rfl, [_, _, _, _, _], rfl, k1, nm1, na1, nl1, nc1, ka1, kl1, kc1, rfl, ?_⟩
  exact (tyE_put5 C4.out.t0 (Nat.lt_succ_self _) _ _ _ _ _).lower (Nat.le_succ _)
end Go.Proofs.YtlhmofphpfdjlaaGreatDoor
