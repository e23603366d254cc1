/- Part. -/
import Derived.Test.YtlhmofphpfdjlaaGreatDoorPart28
import Derived.Test.YtlhmofphpfdjlaaGreatDoorPart33
set_option maxRecDepth 100000
set_option maxHeartbeats 4000000
/- A whole text that is a type. -/
namespace Go.Proofs.YtlhmofphpfdjlaaGreatDoor
open Go.Proofs.Tryz
open Go.RowKit
/-- What a call leaves that reads a whole text; z: what stands for nothing. -/
def WPost {α : Type} (w : World) (z : Value) (rep : Nat -> World -> Value -> α -> Prop) (R : α ⊕ (Int × Nat × Nat)) (e : Ending) (w' : World) : Prop :=
  Below w.heap.size w w' /\ match R with
  | .inl x => ∃ v, e = .returned (.tuple #[v, diagV 0 0 0]) /\ rep w.heap.size w' v x
  | .inr (er, li, co) => e = .returned (.tuple #[z, diagV li co er])
/-- The tokens that lex made, as the parser finds them. -/
theorem toksC_of {w : World} {B e g cap : Nat} {ts : List Tok} (h : w.ownsRow B e 4 (.slice (some ⟨g, 0, none⟩) ts.length cap) ts.length (Lx.tokCells ts)) : ToksC w g ts := fun i hi => by
  have hc : ∀ j, j < 4 -> w.cell? ⟨g, i * 4 + j, none⟩ = (Lx.Tok.cells (tkA ts i))[j]? := fun j hj => by
    rw [h.cellAt (i * 4 + j) (by omega)]
    have hf : ∀ (ts : List Tok) (i : Nat) (hi : i < ts.length), (Lx.tokCells ts)[i * 4 + j]? = (Lx.Tok.cells ts[i])[j]? := by
      intro ts
      induction ts with
      | nil => intro i hi; cases hi
      | cons t r ih =>
        intro i hi
        cases i with
        | zero =>
          rw [Lx.tokCells, List.flatMap_cons, List.getElem?_append_left (by simp [Lx.Tok.cells]; omega)]
          simp
        | succ i =>
          rw [Lx.tokCells, List.flatMap_cons, List.getElem?_append_right (by simp [Lx.Tok.cells]; omega)]
          have := ih i (by simpa using hi)
          rw [Lx.tokCells] at this
          simp only [List.getElem_cons_succ]
          rw [<- this]
          congr 1
          simp [Lx.Tok.cells]
          omega
    rw [hf ts i hi]
    unfold tkA
    rw [List.getD_eq_getElem?_getD, List.getElem?_eq_getElem hi]
    rfl
  exact ⟨hc 0 (by omega), hc 1 (by omega), hc 2 (by omega), hc 3 (by omega)⟩
theorem ps_far4 {w : World} {pb tb cap a d b : Nat} {ts : List Tok} (h : Ps w pb tb cap ts a d) (h1 : b ≠ pb) (h2 : b ≠ tb) (x0 x1 x2 x3 : Value) : Ps ((((w.setCell ⟨b, 0, none⟩ x0).setCell ⟨b, 1, none⟩ x1).setCell ⟨b, 2, none⟩ x2).setCell ⟨b, 3, none⟩ x3) pb tb cap ts a d :=
  ⟨(other_set4 (fun e => h1 e.symm) _ _ _ _).trans h.blk, h.tlt, toksC_keep h.toks (other_set4 (fun e => h2 e.symm) _ _ _ _), h.lt⟩
theorem TyE.drew {lo : Nat} {w : World} {v : Value} {D : Ty} (h : TyE lo w v D) : TyE lo w.drew v D := h.keep (Nat.le_refl _) fun _ _ _ => rfl
/-- What is read in the end. -/
def doneA {α : Type} (r : Pr α) : α ⊕ (Int × Nat × Nat) := match r with
  | .inl (t, _) => .inl t
  | .inr e => .inr e
theorem typeText_toks {l : List UInt8} {ts : List Tok} (h : lexV l = .inl ts) : typeTextV l = doneA (endA ts (kindA ts ts.length 101 0 0)) := by
  unfold typeTextV doneA
  rw [h]
  simp only
  cases endA ts (kindA ts ts.length 101 0 0) <;> rfl
theorem results_cc {fn : Func} {p q : Tmp} {ty ty' : TypeId} (h : fn.results = #[.cell p ty, .cell q ty']) (tmps : Array Value) {P : Program} {w : World} {g g' : Nat} {t t' : TypeId} {cs cs' : Array Value} {fs fs' : Array Field}
    (hp : tmps.getD p undef = .pointer (some ⟨g, 0, none⟩)) (hg : w.heap[g]? = some (.cells cs t)) (hu : P.underlying ty = some (.struct fs)) (hi : (P.info? ty).map (·.size) = some cs.size)
    (hp' : tmps.getD q undef = .pointer (some ⟨g', 0, none⟩)) (hg' : w.heap[g']? = some (.cells cs' t')) (hu' : P.underlying ty' = some (.struct fs')) (hi' : (P.info? ty').map (·.size) = some cs'.size) :
    (results fn tmps).run P w = .ok (.tuple #[.agg cs, .agg cs']) w := by
  have e1 : tmps[p]?.getD undef = .pointer (some ⟨g, 0, none⟩) := by simpa using hp
  have e2 : tmps[q]?.getD undef = .pointer (some ⟨g', 0, none⟩) := by simpa using hp'
  simp [results, h, e1, e2, asAddr, run_loadVar_row w g t ty cs (0, 0) _ hg hu rfl hi, run_loadVar_row w g' t' ty' cs' (0, 0) _ hg' hu' rfl hi']
theorem results_ccd {fn : Func} {p q : Tmp} {ty ty' : TypeId} (h : fn.results = #[.cell p ty, .cell q ty']) (tmps : Array Value) {P : Program} {w : World} {g g' : Nat} {t t' : TypeId} {cs cs' : Array Value} {fs fs' : Array Field}
    (hp : tmps.getD p undef = .pointer (some ⟨g, 0, none⟩)) (hg : w.heap[g]? = some (.cells cs t)) (hu : P.underlying ty = some (.struct fs)) (hi : (P.info? ty).map (·.size) = some cs.size)
    (hp' : tmps.getD q undef = .pointer (some ⟨g', 0, none⟩)) (hg' : w.heap[g']? = some (.cells cs' t')) (hu' : P.underlying ty' = some (.struct fs')) (hi' : (P.info? ty').map (·.size) = some cs'.size) :
    (results fn tmps).run P w.drew = .ok (.tuple #[.agg cs, .agg cs']) w.drew := results_cc h tmps hp (by rw [heap_drew]; exact hg) hu hi hp' (by rw [heap_drew]; exact hg') hu' hi'
theorem wholeT_c (S : ByteArray) (hS : S.size <= 140737488351232) (w : World) (hw : Lx.Words w) :
    Calls prog 16 #[.string S, .func (.func 17) #[] #[]] w (WPost w zTy TyE (typeTextV S.data.toList)) := by
  have hmf : ∀ (fn : Fn) (first cap : Array Value) (w : World), (Instr.makeFunc fn first cap).run prog w = .ok (.func fn first cap) w := fun _ _ _ _ => rfl
  have HX := hideP (fun wx (hb : Below w.heap.size w wx) => Lx.lex_c S hS wx (hw.below hb))
  have hen := kind_enters
  clear hw
  go_enter_defers func16, ntmps16
  go_wp2_with fail
  refine (HX.out _ (below_next (bl_alloc _ _) (bl_alloc _ _))).mono ?_
  intro e w2 hpost
  obtain ⟨hb2, hm⟩ := hpost
  have HB2 := hideP (below_next (below_next (bl_alloc _ _) (bl_alloc _ _)) hb2)
  have HA := hideP ((hb2.block w.heap.size (by rw [World.size_alloc, World.size_alloc]; omega)).trans ((Below.heap_alloc _ _ _ (by rw [World.size_alloc]; omega)).trans (heap_alloc_last w _)))
  have HD := hideP ((hb2.block (w.heap.size + 1) (by rw [World.size_alloc, World.size_alloc]; omega)).trans (heap_at1 w _ _))
  clear hb2
  obtain ⟨⟨a0, a1, a2, a3⟩, ⟨z0, z1, z2, z3⟩, hla⟩ := res_facts HA.out
  obtain ⟨⟨d0, d1, d2, d3⟩, ⟨g0, g1, g2, g3⟩, hld⟩ := res_facts HD.out
  cases hl : lexV S.data.toList with
  | inr p =>
    obtain ⟨x, li, co⟩ := p
    rw [hl] at hm
    simp only at hm
    subst hm
    have hx0 : (x != 0) = true := by simpa using lex_err hl
    have HE : Hid (typeTextV S.data.toList = .inr (x, li, co)) := by show _ = _; unfold typeTextV; rw [hl]
    clear hl
    unfold Lx.diagA
    go_wp2_with fail
    go_region
    all_goals
      go_wp2_with fail
      have hh1 := other_set4 (w := w2) (b := w.heap.size + 1) (i := w.heap.size) (by omega) (.int .i64 0) (.int .i64 li) (.int .i64 co) (.int .i64 x)
      have hga := (set4 (hh1.trans HA.out) (.int .i64 0) (.string ⟨#[]⟩) (.slice none 0 0) (.slice none 0 0))
      have hgd := set4 ((other_set4 (b := w.heap.size) (i := w.heap.size + 1) (by omega) (.int .i64 0) (.string ⟨#[]⟩) (.slice none 0 0) (.slice none 0 0)).trans (set4 HD.out (.int .i64 0) (.int .i64 li) (.int .i64 co) (.int .i64 x))) (.int .i64 0) (.int .i64 li) (.int .i64 co) (.int .i64 x)
      refine ⟨.tuple #[zTy, diagV li co x], results_ccd rfl _ rfl ((other_set4 (b := w.heap.size + 1) (i := w.heap.size) (by omega) (.int .i64 0) (.int .i64 li) (.int .i64 co) (.int .i64 x)).trans hga) underlying44 ty_size rfl hgd underlying30 (by kernel_rfl), ?_⟩
      rw [HE.out]
      exact ⟨(below_set4 (below_set4 (below_set4 HB2.out (by omega) _ _ _ _) (Nat.le_refl _) _ _ _ _) (by omega) _ _ _ _).drew, rfl⟩
  | inl ts =>
    rw [hl] at hm
    obtain ⟨g, cap, rfl, hown⟩ := hm
    have OK := hideP (lex_toks hl)
    have HE := hideP (typeText_toks hl)
    have HTc := hideP (toksC_of hown)
    have hgl : g < w2.heap.size /\ w.heap.size + 2 <= g := by
      have := hown.lt g rfl
      rw [World.size_alloc, World.size_alloc] at this
      omega
    obtain ⟨hgl1, hgl2⟩ := hgl
    obtain ⟨Wd, hWd⟩ : ∃ W, W = (((w2.setCell ⟨w.heap.size + 1, 0, none⟩ (.int .i64 0)).setCell ⟨w.heap.size + 1, 1, none⟩ (.int .i64 0)).setCell ⟨w.heap.size + 1, 2, none⟩ (.int .i64 0)).setCell ⟨w.heap.size + 1, 3, none⟩ (.int .i64 0) := ⟨_, rfl⟩
    have hWs : Wd.heap.size = w2.heap.size := by rw [hWd, size_set4]
    have HAd : Hid (Wd.heap[w.heap.size]? = some zTyO) := by rw [hWd]; exact (other_set4 (by omega) _ _ _ _).trans HA.out
    have HDd : Hid (Wd.heap[w.heap.size + 1]? = some (.cells #[.int .i64 0, .int .i64 0, .int .i64 0, .int .i64 0] 30)) := by rw [hWd]; exact set4 HD.out _ _ _ _
    have HTd : Hid (ToksC Wd g ts) := toksC_keep HTc.out (by rw [hWd]; exact other_set4 (by omega) _ _ _ _)
    have HBd : Hid (Below w.heap.size w Wd) := by rw [hWd]; exact below_set4 HB2.out (by omega) _ _ _ _
    clear hl hown
    unfold Lx.diagA
    go_wp2_with fail
    rw [<- hWd, <- hWs]
    have P0 : Ps (Wd.alloc (.cells #[.slice (some ⟨g, 0, none⟩) ts.length cap, .int .i64 0, .int .i64 0] 72)) Wd.heap.size g cap ts 0 0 :=
      ⟨heap_alloc_last _ _, by omega, toksC_keep HTd.out (Below.heap_alloc _ _ _ (by omega)), OK.out.pos⟩
    have HP0 := hideP P0
    clear P0
    refine (kind_c Wd.heap.size g cap ts OK.out 101 0 0 _ rfl (by omega) HP0.out).mono ?_
    intro e w3 hpost
    have HPo := hideP hpost
    have hst0 := hpost.1
    have HA3 := hideP ((hst0.below.block w.heap.size (by omega)).trans ((Below.heap_alloc _ _ _ (by omega)).trans HAd.out))
    have HD3 := hideP ((hst0.below.block (w.heap.size + 1) (by omega)).trans ((Below.heap_alloc _ _ _ (by omega)).trans HDd.out))
    have HB3 : Hid (Below w.heap.size w w3) := (HBd.out.alloc (by omega) _).trans (hst0.below.mono (by omega))
    have HS3 := hideP hst0.size
    clear hpost hst0 a0 a1 a2 a3 z0 z1 z2 z3 d0 d1 d2 d3 g0 g1 g2 g3
    rcases ppost_or HPo.out with ⟨er, li, co, hr, rfl, hst⟩ | ⟨D, b, v, hr, rfl, hst, hps, hv⟩
    · have HE2 : Hid (typeTextV S.data.toList = .inr (er, li, co)) := by rw [HE.out, hr]; exact rfl
      clear hr hst
      go_wp2_with fail
      refine leaves_cons (f := 30) (args := #[.pointer (some ⟨w.heap.size, 0, none⟩), .pointer (some ⟨w.heap.size + 1, 0, none⟩)]) (by simp) (by simp [go_sem]) ?_
      refine (catchT_panic w.heap.size (w.heap.size + 1) li co er [] w3 _ _ _ _ _ _ _ _ HA3.out HD3.out (by omega)).mono ?_
      rintro e u' w4 ⟨rfl, rfl, ⟨h1, h2⟩, h3⟩
      show ∃ v, _
      refine ⟨_, results_cc rfl _ rfl h1 underlying44 ty_size rfl h2 underlying30 (by kernel_rfl), ?_⟩
      rw [HE2.out]
      exact ⟨HB3.out.trans (h3.out _ (Nat.le_refl _) (by omega)), rfl⟩
    · obtain ⟨k1, nm1, na1, nl1, nc1, ka1, kl1, kc1, rfl⟩ := hv.cells
      have HV := hideP hv
      have HPs := hideP hps
      have HK := hideP hr
      obtain ⟨⟨a0, a1, a2, a3⟩, ⟨z0, z1, z2, z3⟩, hla3⟩ := res_facts HA3.out
      obtain ⟨⟨d0, d1, d2, d3⟩, ⟨g0, g1, g2, g3⟩, hld3⟩ := res_facts HD3.out
      rw [hWs] at HPs
      have HPe := hideP (ps_far4 HPs.out (b := w.heap.size) (by omega) (by omega) (.int .i64 k1) (.string nm1) (.slice na1 nl1 nc1) (.slice ka1 kl1 kc1))
      have HAe := hideP (set4 HA3.out (.int .i64 k1) (.string nm1) (.slice na1 nl1 nc1) (.slice ka1 kl1 kc1))
      have HDe := hideP ((other_set4 (b := w.heap.size) (i := w.heap.size + 1) (by omega) (.int .i64 k1) (.string nm1) (.slice na1 nl1 nc1) (.slice ka1 kl1 kc1)).trans HD3.out)
      have HBe := hideP (below_set4 HB3.out (Nat.le_refl _) (.int .i64 k1) (.string nm1) (.slice na1 nl1 nc1) (.slice ka1 kl1 kc1))
      have HVe := hideP (HV.out.set4 (b := w.heap.size) (by rw [World.size_alloc]; omega) (.int .i64 k1) (.string nm1) (.slice na1 nl1 nc1) (.slice ka1 kl1 kc1))
      have HSe := hideP (size_set4 w3 w.heap.size (.int .i64 k1) (.string nm1) (.slice na1 nl1 nc1) (.slice ka1 kl1 kc1))
      clear hr hst hps hv
      go_wp2_with fail
      obtain ⟨We, hWe⟩ : ∃ W, W = (((w3.setCell ⟨w.heap.size, 0, none⟩ (.int .i64 k1)).setCell ⟨w.heap.size, 1, none⟩ (.string nm1)).setCell ⟨w.heap.size, 2, none⟩ (.slice na1 nl1 nc1)).setCell ⟨w.heap.size, 3, none⟩ (.slice ka1 kl1 kc1) := ⟨_, rfl⟩
      rw [<- hWe] at HPe HAe HDe HBe HVe HSe ⊢
      clear hWe a0 a1 a2 a3 z0 z1 z2 z3 d0 d1 d2 d3 g0 g1 g2 g3
      refine (end_c w2.heap.size g cap b 0 ts _ HPe.out).mono ?_
      intro e w4 hpost
      have hst0 := hpost.1
      have hpe := HPe.out.ltp
      have HA4 := hideP ((hst0.below.block w.heap.size (by omega)).trans HAe.out)
      have HD4 := hideP ((hst0.below.block (w.heap.size + 1) (by omega)).trans HDe.out)
      have HB4 : Hid (Below w.heap.size w w4) := HBe.out.trans (hst0.below.mono (by omega))
      have HV4 : Hid (TyE (w2.heap.size + 1) w4 (.agg #[.int .i64 k1, .string nm1, .slice na1 nl1 nc1, .slice ka1 kl1 kc1]) D) := by
        have := HVe.out
        rw [World.size_alloc, hWs] at this
        exact this.stay hst0 (by omega)
      have HPo4 := hideP hpost
      clear hpost hst0
      rcases ppost_or HPo4.out with ⟨er, li, co, hr, rfl, hst⟩ | ⟨u, b', v, hr, rfl, hst, hps, hv⟩
      · have HE2 : Hid (typeTextV S.data.toList = .inr (er, li, co)) := by
          rw [HE.out, HK.out]
          show doneA (if (tkA ts b).kind == 0 then .inl (D, b) else badA ts 7 b) = _
          by_cases h0 : ((tkA ts b).kind == 0) = true
          · rw [if_pos h0] at hr; cases hr
          · rw [if_neg h0] at hr ⊢
            injection hr with hr
            exact congrArg Sum.inr hr
        clear hr hst
        go_wp2_with fail
        refine leaves_cons (f := 30) (args := #[.pointer (some ⟨w.heap.size, 0, none⟩), .pointer (some ⟨w.heap.size + 1, 0, none⟩)]) (by simp) (by simp [go_sem]) ?_
        refine (catchT_panic w.heap.size (w.heap.size + 1) li co er [] w4 _ _ _ _ _ _ _ _ HA4.out HD4.out (by omega)).mono ?_
        rintro e u' w5 ⟨rfl, rfl, ⟨h1, h2⟩, h3⟩
        show ∃ v, _
        refine ⟨_, results_cc rfl _ rfl h1 underlying44 ty_size rfl h2 underlying30 (by kernel_rfl), ?_⟩
        rw [HE2.out]
        exact ⟨HB4.out.trans (h3.out _ (Nat.le_refl _) (by omega)), rfl⟩
      · have HE2 : Hid (typeTextV S.data.toList = .inl D) := by
          rw [HE.out, HK.out]
          show doneA (if (tkA ts b).kind == 0 then .inl (D, b) else badA ts 7 b) = _
          by_cases h0 : ((tkA ts b).kind == 0) = true
          · rw [if_pos h0]; exact rfl
          · rw [if_neg h0] at hr; cases hr
        obtain ⟨⟨a0, a1, a2, a3⟩, ⟨z0, z1, z2, z3⟩, hla4⟩ := res_facts HA4.out
        obtain ⟨⟨d0, d1, d2, d3⟩, ⟨g0, g1, g2, g3⟩, hld4⟩ := res_facts HD4.out
        clear hr hst hps hv
        go_wp2_with fail
        go_region
        all_goals
          go_wp2_with fail
          have hga := (other_set4 (b := w.heap.size + 1) (i := w.heap.size) (by omega) (.int .i64 0) (.int .i64 0) (.int .i64 0) (.int .i64 0)).trans (set4 HA4.out (.int .i64 k1) (.string nm1) (.slice na1 nl1 nc1) (.slice ka1 kl1 kc1))
          have hgd := set4 ((other_set4 (b := w.heap.size) (i := w.heap.size + 1) (by omega) (.int .i64 k1) (.string nm1) (.slice na1 nl1 nc1) (.slice ka1 kl1 kc1)).trans HD4.out) (.int .i64 0) (.int .i64 0) (.int .i64 0) (.int .i64 0)
          have hT := ((HV4.out.set4 (b := w.heap.size) (by omega) (.int .i64 k1) (.string nm1) (.slice na1 nl1 nc1) (.slice ka1 kl1 kc1)).set4 (b := w.heap.size + 1) (by omega) (.int .i64 0) (.int .i64 0) (.int .i64 0) (.int .i64 0)).lower (lo' := w.heap.size) (by omega)
          have hBf := below_set4 (below_set4 HB4.out (Nat.le_refl _) (.int .i64 k1) (.string nm1) (.slice na1 nl1 nc1) (.slice ka1 kl1 kc1)) (show w.heap.size <= w.heap.size + 1 by omega) (.int .i64 0) (.int .i64 0) (.int .i64 0) (.int .i64 0)
          generalize ((((((((w4.setCell ⟨w.heap.size, 0, none⟩ (.int .i64 k1)).setCell ⟨w.heap.size, 1, none⟩ (.string nm1)).setCell ⟨w.heap.size, 2, none⟩ (.slice na1 nl1 nc1)).setCell ⟨w.heap.size, 3, none⟩ (.slice ka1 kl1 kc1)).setCell ⟨w.heap.size + 1, 0, none⟩ (.int .i64 0)).setCell ⟨w.heap.size + 1, 1, none⟩ (.int .i64 0)).setCell ⟨w.heap.size + 1, 2, none⟩ (.int .i64 0)).setCell ⟨w.heap.size + 1, 3, none⟩ (.int .i64 0)) = Wf at hga hgd hT hBf ⊢
          refine leaves_cons (f := 30) (args := #[.pointer (some ⟨w.heap.size, 0, none⟩), .pointer (some ⟨w.heap.size + 1, 0, none⟩)]) (by simp) (by simp [go_sem]) ?_
          refine (catchT_idle ⟨w.heap.size, 0, none⟩ ⟨w.heap.size + 1, 0, none⟩ _).mono ?_
          rintro e u' w5 ⟨rfl, rfl, rfl⟩
          show ∃ v, _
          refine ⟨_, results_ccd rfl _ rfl hga underlying44 ty_size rfl hgd underlying30 (by kernel_rfl), ?_⟩
          rw [HE2.out]
          exact ⟨hBf.drew, _, rfl, hT.drew⟩
theorem parseType_c (S : ByteArray) (hS : S.size <= 140737488351232) (w : World) (hw : Lx.Words w) :
    Calls prog 8 #[.string S] w (WPost w zTy TyE (typeTextV S.data.toList)) := by
  have HW := hideP (wholeT_c S hS _ (hw.below (below_next (bl_alloc w zTyO) (bl_alloc _ (.cells #[.int .i64 0, .int .i64 0, .int .i64 0, .int .i64 0] 30)))))
  obtain ⟨R, hR⟩ : ∃ R, R = typeTextV S.data.toList := ⟨_, rfl⟩
  rw [<- hR] at HW ⊢
  clear hw hR
  go_enter func8, ntmps8
  go_wp2_with fail
  refine HW.out.mono ?_
  intro e w2 hpost
  obtain ⟨hb2, hm⟩ := hpost
  have HB2 := hideP (below_next (below_next (bl_alloc _ _) (bl_alloc _ _)) hb2)
  have HA := hideP ((hb2.block w.heap.size (by rw [World.size_alloc, World.size_alloc]; omega)).trans ((Below.heap_alloc _ _ _ (by rw [World.size_alloc]; omega)).trans (heap_alloc_last w _)))
  have HD := hideP ((hb2.block (w.heap.size + 1) (by rw [World.size_alloc, World.size_alloc]; omega)).trans (heap_at1 w _ _))
  clear hb2
  obtain ⟨⟨a0, a1, a2, a3⟩, ⟨z0, z1, z2, z3⟩, hla⟩ := res_facts HA.out
  obtain ⟨⟨d0, d1, d2, d3⟩, ⟨g0, g1, g2, g3⟩, hld⟩ := res_facts HD.out
  rw [World.size_alloc, World.size_alloc] at hm
  rcases R with D | ⟨er, li, co⟩
  · obtain ⟨v, rfl, hv⟩ := hm
    obtain ⟨k1, nm1, na1, nl1, nc1, ka1, kl1, kc1, rfl⟩ := hv.cells
    have HV := hideP hv
    clear hv
    go_wp2_with fail
    have hga := (other_set4 (b := w.heap.size + 1) (i := w.heap.size) (by omega) (.int .i64 0) (.int .i64 0) (.int .i64 0) (.int .i64 0)).trans (set4 HA.out (.int .i64 k1) (.string nm1) (.slice na1 nl1 nc1) (.slice ka1 kl1 kc1))
    have hgd := set4 ((other_set4 (b := w.heap.size) (i := w.heap.size + 1) (by omega) (.int .i64 k1) (.string nm1) (.slice na1 nl1 nc1) (.slice ka1 kl1 kc1)).trans HD.out) (.int .i64 0) (.int .i64 0) (.int .i64 0) (.int .i64 0)
    refine bodyPost_ret (results_cc rfl _ rfl hga underlying44 ty_size rfl hgd underlying30 (by kernel_rfl)) rfl ⟨below_set4 (below_set4 HB2.out (Nat.le_refl _) _ _ _ _) (by omega) _ _ _ _, _, rfl, ?_⟩
    exact ((HV.out.set4 (b := w.heap.size) (by omega) _ _ _ _).set4 (b := w.heap.size + 1) (by omega) _ _ _ _).lower (by omega)
  · subst hm
    go_wp2_with fail
    have hga := (other_set4 (b := w.heap.size + 1) (i := w.heap.size) (by omega) (.int .i64 0) (.int .i64 li) (.int .i64 co) (.int .i64 er)).trans (set4 HA.out (.int .i64 0) (.string ⟨#[]⟩) (.slice none 0 0) (.slice none 0 0))
    have hgd := set4 ((other_set4 (b := w.heap.size) (i := w.heap.size + 1) (by omega) (.int .i64 0) (.string ⟨#[]⟩) (.slice none 0 0) (.slice none 0 0)).trans HD.out) (.int .i64 0) (.int .i64 li) (.int .i64 co) (.int .i64 er)
    refine bodyPost_ret (results_cc rfl _ rfl hga underlying44 ty_size rfl hgd underlying30 (by kernel_rfl)) rfl ⟨below_set4 (below_set4 HB2.out (Nat.le_refl _) _ _ _ _) (by omega) _ _ _ _, rfl⟩
end Go.Proofs.YtlhmofphpfdjlaaGreatDoor
/- What is deferred, of expressions. -/
namespace Go.Proofs.YtlhmofphpfdjlaaGreatDoor
open Go.Proofs.Tryz
open Go.RowKit
theorem catchN_idle (p q : Addr) (w : World) :
    CallsD prog 23 #[.pointer (some p), .pointer (some q)] .returning w fun e u' w' => e = .returned (.tuple #[]) /\ u' = .returning /\ w' = w := by
  have hn := nil_nil
  refine callsD_of_wpS func23 rfl fun c₀ cs hu => ?_
  apply wpS_seq
  apply wpS_region
  simp [wpOpsS, go_sem, recoverD, hu, ntmps23, Exit.thenS]
  refine wpS_of_wp ?_
  simp only [Array.replicate, List.replicate, List.setIfInBounds_toArray, List.set_cons_zero, List.set_cons_succ, List.append_toArray, List.cons_append, List.nil_append]
  go_wp2
  cases c₀
  simp_all [bodyPostS, results, results23]
theorem catchN_panic (ab db : Nat) (li co x : Int) (older : List PanicEntry) (w : World) (y : NV) (x0 x1 x2 x3 : Value) (ha : w.heap[ab]? = some y.obj) (hd : w.heap[db]? = some (.cells #[x0, x1, x2, x3] 30)) (hab : ab ≠ db) :
    CallsD prog 23 #[.pointer (some ⟨ab, 0, none⟩), .pointer (some ⟨db, 0, none⟩)] (.panicking ({ v := .iface 30 (diagV li co x), recovered := false } :: older)) w fun e u' w' => e = .returned (.tuple #[]) /\ u' = .panicking ({ v := .iface 30 (diagV li co x), recovered := true } :: older) /\
      (w'.heap[ab]? = some zNV.obj /\ w'.heap[db]? = some (.cells #[.int .i64 0, .int .i64 li, .int .i64 co, .int .i64 x] 30)) /\ Hid (∀ B, B <= ab -> B <= db -> Below B w w') := by
  have hn := nil_neq
  have hta := assert_diag
  obtain ⟨⟨a0, a1, a2, a3, a4, a5, a6, a7⟩, ⟨z0, z1, z2, z3, z4, z5, z6, z7⟩, hla⟩ := box8 ha
  obtain ⟨⟨d0, d1, d2, d3⟩, ⟨g0, g1, g2, g3⟩, hld⟩ := res_facts hd
  have HA := hideP ha
  have HD := hideP hd
  clear ha hd
  have hab' : ¬ db = ab := fun e => hab e.symm
  refine callsD_of_wpS func23 rfl fun c₀ cs hu => ?_
  apply wpS_seq
  apply wpS_region
  simp [wpOpsS, go_sem, recoverD, hu, ntmps23, Exit.thenS]
  refine wpS_of_wp ?_
  simp only [Array.replicate, List.replicate, List.setIfInBounds_toArray, List.set_cons_zero, List.set_cons_succ, List.append_toArray, List.cons_append, List.nil_append]
  go_wp2
  go_region
  all_goals
    go_wp2
    refine ⟨rfl, _, rfl, .tuple #[], results_none rfl _ _ _, rfl, rfl, ⟨?_, ?_⟩, fun B h1 h2 => ?_⟩
    · rw [heap_drew]
      refine (Below.heap_alloc _ _ _ (by simp only [size_set]; exact hla)).trans ?_
      exact (other_set4 hab _ _ _ _).trans (put8_heap (x := zNV) HA.out)
    · rw [heap_drew]
      refine (Below.heap_alloc _ _ _ (by simp only [size_set]; exact hld)).trans ?_
      exact set4 ((put8_other (x := zNV) hab').trans HD.out) _ _ _ _
    · exact ((below_set4 (below_put8 (x := zNV) (Below.refl _ w) h1) h2 _ _ _ _).alloc (by simp only [size_set]; omega) _).drew
end Go.Proofs.YtlhmofphpfdjlaaGreatDoor
