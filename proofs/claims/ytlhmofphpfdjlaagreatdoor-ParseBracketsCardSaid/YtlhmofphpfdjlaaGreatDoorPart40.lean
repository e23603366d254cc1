/- Part. -/
import Derived.Test.YtlhmofphpfdjlaaGreatDoorPart39
import Derived.Test.YtlhmofphpfdjlaaGreatDoorPart9
set_option maxRecDepth 100000
set_option maxHeartbeats 4000000
/- What is deferred, of modules. -/
namespace Go.Proofs.YtlhmofphpfdjlaaGreatDoor
open Go.Proofs.Tryz
open Go.RowKit
/-- The parts of a module. -/
structure MV where
  ia : Option Addr
  il : Nat
  ic : Nat
  da : Option Addr
  dl : Nat
  dc : Nat
abbrev MV.val (x : MV) : Value := .agg #[.slice x.ia x.il x.ic, .slice x.da x.dl x.dc]
abbrev MV.obj (x : MV) : Obj := .cells #[.slice x.ia x.il x.ic, .slice x.da x.dl x.dc] 36
abbrev zMV : MV := ⟨none, 0, 0, none, 0, 0⟩
abbrev putM (w : World) (b : Nat) (x : MV) : World := (w.setCell ⟨b, 0, none⟩ (.slice x.ia x.il x.ic)).setCell ⟨b, 1, none⟩ (.slice x.da x.dl x.dc)
def MdV (lo : Nat) (w : World) (x : MV) (D : List Ty × List Ty) : Prop := x.il = D.1.length /\ x.dl = D.2.length /\ D.1.length <= 8193 /\ D.2.length <= 8193 /\ RowQ ImpC 4 lo w x.ia D.1 /\ RowQ DeclC 15 lo w x.da D.2
def MdE (lo : Nat) (w : World) (v : Value) (D : List Ty × List Ty) : Prop := ∃ x : MV, v = x.val /\ MdV lo w x D
theorem mdE_of {lo : Nat} {w : World} {v : Value} {D : List Ty × List Ty} (h : ModE lo w v D) : MdE lo w v D := by
  obtain ⟨ia, ic, da, dc, rfl, h1, h2, h3, h4⟩ := h
  exact ⟨⟨ia, D.1.length, ic, da, D.2.length, dc⟩, rfl, rfl, rfl, h1, h2, h3, h4⟩
section
variable {w w' : World} {lo lo' b pb : Nat} {x y : MV} {D : List Ty × List Ty}
theorem putM_heap (h : w.heap[b]? = some y.obj) : (putM w b x).heap[b]? = some x.obj := put2_heap h _ _
theorem putM_size : (putM w b x).heap.size = w.heap.size := by
  unfold putM
  rw [size_set, size_set]
theorem putM_other {i : Nat} (hi : i ≠ b) : (putM w b x).heap[i]? = w.heap[i]? := by
  unfold putM
  rw [Below.heap_setCell _ _ _ _ hi, Below.heap_setCell _ _ _ _ hi]
theorem below_putM {B : Nat} {u : World} (h : Below B u w) (hb : B <= b) (x : MV) : Below B u (putM w b x) := (h.setCell hb _).setCell hb _
theorem boxM (h : w.heap[b]? = some x.obj) : (w.cell? ⟨b, 0, none⟩ = some (.slice x.ia x.il x.ic) /\ w.cell? ⟨b, 1, none⟩ = some (.slice x.da x.dl x.dc)) /\ (w.frozen? ⟨b, 0, none⟩ = false /\ w.frozen? ⟨b, 1, none⟩ = false) /\ b < w.heap.size := box2 h
theorem MdV.keep (h : MdV lo w x D) (hs : w.heap.size <= w'.heap.size) (hk : ∀ b, lo <= b -> b < w.heap.size -> w'.heap[b]? = w.heap[b]?) : MdV lo w' x D :=
  ⟨h.1, h.2.1, h.2.2.1, h.2.2.2.1, rowQ_keep impC_k h.2.2.2.2.1 hs hk, rowQ_keep declC_k h.2.2.2.2.2 hs hk⟩
theorem MdV.lower (h : MdV lo w x D) (hl : lo' <= lo) : MdV lo' w x D :=
  ⟨h.1, h.2.1, h.2.2.1, h.2.2.2.1, rowQ_lower impC_k h.2.2.2.2.1 hl, rowQ_lower declC_k h.2.2.2.2.2 hl⟩
theorem MdV.stay (h : MdV lo w x D) (hs : Stay pb w w') (hp : pb < lo) : MdV lo w' x D := h.keep hs.size fun b hb hl => hs.keep b (by omega) hl
theorem MdV.putM (h : MdV lo w x D) (hb : b < lo) (y : MV) : MdV lo (putM w b y) x D := h.keep (by rw [putM_size]; exact Nat.le_refl _) fun i hi _ => putM_other (by omega)
theorem MdV.set1 (h : MdV lo w x D) (hb : b < lo) (o : Nat) (u : Value) : MdV lo (w.setCell ⟨b, o, none⟩ u) x D :=
  h.keep (by rw [size_set]; exact Nat.le_refl _) fun i hi _ => Below.heap_setCell _ _ _ _ (by show i ≠ b; omega)
end
theorem module_enters (pb : Nat) : Enters 19 pb := fun w => enters_of func19 (by kernel_rfl) (by kernel_rfl) _ w
theorem moduleM_c (pb tb cap : Nat) (ts : List Tok) (ok : ToksOk ts) (w : World) (h : Ps w pb tb cap ts 0 0) :
    Calls prog 19 #[.pointer (some ⟨pb, 0, none⟩)] w (PPost pb tb cap ts 0 w MdE (moduleP ts)) :=
  (module_c pb tb cap ts ok w h).mono fun e w' hp => by
    refine ⟨hp.1, ?_⟩
    have h2 := hp.2
    revert h2
    cases moduleP ts with
    | inr p => exact id
    | inl p =>
      rintro ⟨h1, v, h2, h3⟩
      exact ⟨h1, v, h2, mdE_of h3⟩
theorem catchM_idle (p q : Addr) (w : World) :
    CallsD prog 33 #[.pointer (some p), .pointer (some q)] .returning w fun e u' w' => e = .returned (.tuple #[]) /\ u' = .returning /\ w' = w := by
  have hn := nil_nil
  refine callsD_of_wpS func33 rfl fun c₀ cs hu => ?_
  apply wpS_seq
  apply wpS_region
  simp [wpOpsS, go_sem, recoverD, hu, ntmps33, Exit.thenS]
  refine wpS_of_wp ?_
  simp only [Array.replicate, List.replicate, List.setIfInBounds_toArray, List.set_cons_zero, List.set_cons_succ, List.append_toArray, List.cons_append, List.nil_append]
  go_wp2
  cases c₀
  simp_all [bodyPostS, results, results33]
theorem catchM_panic (ab db : Nat) (li co x : Int) (older : List PanicEntry) (w : World) (y : MV) (x0 x1 x2 x3 : Value) (ha : w.heap[ab]? = some y.obj) (hd : w.heap[db]? = some (.cells #[x0, x1, x2, x3] 30)) (hab : ab ≠ db) :
    CallsD prog 33 #[.pointer (some ⟨ab, 0, none⟩), .pointer (some ⟨db, 0, none⟩)] (.panicking ({ v := .iface 30 (diagV li co x), recovered := false } :: older)) w fun e u' w' => e = .returned (.tuple #[]) /\ u' = .panicking ({ v := .iface 30 (diagV li co x), recovered := true } :: older) /\
      (w'.heap[ab]? = some zMV.obj /\ w'.heap[db]? = some (.cells #[.int .i64 0, .int .i64 li, .int .i64 co, .int .i64 x] 30)) /\ Hid (∀ B, B <= ab -> B <= db -> Below B w w') := by
  have hn := nil_neq
  have hta := assert_diag
  obtain ⟨⟨a0, a1⟩, ⟨z0, z1⟩, hla⟩ := boxM ha
  obtain ⟨⟨d0, d1, d2, d3⟩, ⟨g0, g1, g2, g3⟩, hld⟩ := res_facts hd
  have HA := hideP ha
  have HD := hideP hd
  clear ha hd
  have hab' : ¬ db = ab := fun e => hab e.symm
  refine callsD_of_wpS func33 rfl fun c₀ cs hu => ?_
  apply wpS_seq
  apply wpS_region
  simp [wpOpsS, go_sem, recoverD, hu, ntmps33, Exit.thenS]
  refine wpS_of_wp ?_
  simp only [Array.replicate, List.replicate, List.setIfInBounds_toArray, List.set_cons_zero, List.set_cons_succ, List.append_toArray, List.cons_append, List.nil_append]
  go_wp2
  go_region
  all_goals
    go_wp2
    refine ⟨rfl, _, rfl, .tuple #[], results_none rfl _ _ _, rfl, rfl, ⟨?_, ?_⟩, fun B h1 h2 => ?_⟩
    · rw [heap_drew]
      refine (Below.heap_alloc _ _ _ (by simp only [size_set]; exact hla)).trans ?_
      exact (other_set4 hab _ _ _ _).trans (putM_heap (x := zMV) HA.out)
    · rw [heap_drew]
      refine (Below.heap_alloc _ _ _ (by simp only [size_set]; exact hld)).trans ?_
      exact set4 ((putM_other (x := zMV) hab').trans HD.out) _ _ _ _
    · exact ((below_set4 (below_putM (x := zMV) (Below.refl _ w) h1) h2 _ _ _ _).alloc (by simp only [size_set]; omega) _).drew
end Go.Proofs.YtlhmofphpfdjlaaGreatDoor
/- A whole text that is a module. -/
namespace Go.Proofs.YtlhmofphpfdjlaaGreatDoor
open Go.Proofs.Tryz
open Go.RowKit
theorem moduleText_toks {l : List UInt8} {ts : List Tok} (h : lexV l = .inl ts) : moduleTextV l = doneA (endA ts (moduleP ts)) := by
  rw [moduleP_end]
  unfold moduleTextV doneA
  rw [h]
  simp only
  cases endA ts (moduleA ts) <;> rfl
theorem ps_farM {w : World} {pb tb cap a d b : Nat} {ts : List Tok} (h : Ps w pb tb cap ts a d) (h1 : b ≠ pb) (h2 : b ≠ tb) (x : MV) : Ps (putM w b x) pb tb cap ts a d :=
  ⟨(putM_other (x := x) (fun e => h1 e.symm)).trans h.blk, h.tlt, toksC_keep h.toks (putM_other (x := x) (fun e => h2 e.symm)), h.lt⟩
theorem MdV.drew {lo : Nat} {w : World} {x : MV} {D : List Ty × List Ty} (h : MdV lo w x D) : MdV lo w.drew x D := h.keep (Nat.le_refl _) fun _ _ _ => rfl
theorem MdV.set4 {lo b : Nat} {w : World} {x : MV} {D : List Ty × List Ty} (h : MdV lo w x D) (hb : b < lo) (x0 x1 x2 x3 : Value) : MdV lo ((((w.setCell ⟨b, 0, none⟩ x0).setCell ⟨b, 1, none⟩ x1).setCell ⟨b, 2, none⟩ x2).setCell ⟨b, 3, none⟩ x3) x D :=
  (((h.set1 hb 0 _).set1 hb 1 _).set1 hb 2 _).set1 hb 3 _
theorem wholeM_c (S : ByteArray) (hS : S.size <= 140737488351232) (w : World) (hw : Lx.Words w) :
    Calls prog 18 #[.string S, .func (.func 19) #[] #[]] w (WPost w zMV.val MdE (moduleTextV S.data.toList)) := by
  have hmf : ∀ (fn : Fn) (first cap : Array Value) (w : World), (Instr.makeFunc fn first cap).run prog w = .ok (.func fn first cap) w := fun _ _ _ _ => rfl
  have HX := hideP (fun wx (hb : Below w.heap.size w wx) => Lx.lex_c S hS wx (hw.below hb))
  have hen := module_enters
  clear hw
  go_enter_defers func18, ntmps18
  go_wp2_with fail
  refine (HX.out _ (below_next (bl_alloc _ _) (bl_alloc _ _))).mono ?_
  intro e w2 hpost
  obtain ⟨hb2, hm⟩ := hpost
  have HB2 := hideP (below_next (below_next (bl_alloc _ _) (bl_alloc _ _)) hb2)
  have HA := hideP ((hb2.block w.heap.size (by rw [World.size_alloc, World.size_alloc]; omega)).trans ((Below.heap_alloc _ _ _ (by rw [World.size_alloc]; omega)).trans (heap_alloc_last w _)))
  have HD := hideP ((hb2.block (w.heap.size + 1) (by rw [World.size_alloc, World.size_alloc]; omega)).trans (heap_at1 w _ _))
  clear hb2
  obtain ⟨⟨a0, a1⟩, ⟨z0, z1⟩, hla⟩ := boxM (x := zMV) HA.out
  obtain ⟨⟨d0, d1, d2, d3⟩, ⟨g0, g1, g2, g3⟩, hld⟩ := res_facts HD.out
  cases hl : lexV S.data.toList with
  | inr p =>
    obtain ⟨x, li, co⟩ := p
    rw [hl] at hm
    simp only at hm
    subst hm
    have hx0 : (x != 0) = true := by simpa using lex_err hl
    have HE : Hid (moduleTextV S.data.toList = .inr (x, li, co)) := by show _ = _; unfold moduleTextV; rw [hl]
    clear hl
    unfold Lx.diagA
    go_wp2_with fail
    go_region
    all_goals
      go_wp2_with fail
      have hh1 := other_set4 (w := w2) (b := w.heap.size + 1) (i := w.heap.size) (by omega) (.int .i64 0) (.int .i64 li) (.int .i64 co) (.int .i64 x)
      have hga := putM_heap (x := zMV) (y := zMV) (hh1.trans HA.out)
      have hgd := set4 ((putM_other (x := zMV) (b := w.heap.size) (i := w.heap.size + 1) (by omega)).trans (set4 HD.out (.int .i64 0) (.int .i64 li) (.int .i64 co) (.int .i64 x))) (.int .i64 0) (.int .i64 li) (.int .i64 co) (.int .i64 x)
      refine ⟨.tuple #[zMV.val, diagV li co x], results_ccd rfl _ rfl ((other_set4 (b := w.heap.size + 1) (i := w.heap.size) (by omega) (.int .i64 0) (.int .i64 li) (.int .i64 co) (.int .i64 x)).trans hga) underlying36 (by kernel_rfl) rfl hgd underlying30 (by kernel_rfl), ?_⟩
      rw [HE.out]
      exact ⟨(below_set4 (below_putM (below_set4 HB2.out (by omega) _ _ _ _) (Nat.le_refl _) zMV) (by omega) _ _ _ _).drew, rfl⟩
  | inl ts =>
    rw [hl] at hm
    obtain ⟨g, cap, rfl, hown⟩ := hm
    have OK := hideP (lex_toks hl)
    have HE := hideP (moduleText_toks hl)
    have HTc := hideP (toksC_of hown)
    have hgl : g < w2.heap.size /\ w.heap.size + 2 <= g := by
      have := hown.lt g rfl
      rw [World.size_alloc, World.size_alloc] at this
      omega
    obtain ⟨hgl1, hgl2⟩ := hgl
    obtain ⟨Wd, hWd⟩ : ∃ W, W = (((w2.setCell ⟨w.heap.size + 1, 0, none⟩ (.int .i64 0)).setCell ⟨w.heap.size + 1, 1, none⟩ (.int .i64 0)).setCell ⟨w.heap.size + 1, 2, none⟩ (.int .i64 0)).setCell ⟨w.heap.size + 1, 3, none⟩ (.int .i64 0) := ⟨_, rfl⟩
    have hWs : Wd.heap.size = w2.heap.size := by rw [hWd, size_set4]
    have HAd : Hid (Wd.heap[w.heap.size]? = some zMV.obj) := by rw [hWd]; exact (other_set4 (by omega) _ _ _ _).trans HA.out
    have HDd : Hid (Wd.heap[w.heap.size + 1]? = some (.cells #[.int .i64 0, .int .i64 0, .int .i64 0, .int .i64 0] 30)) := by rw [hWd]; exact set4 HD.out _ _ _ _
    have HTd : Hid (ToksC Wd g ts) := toksC_keep HTc.out (by rw [hWd]; exact other_set4 (by omega) _ _ _ _)
    have HBd : Hid (Below w.heap.size w Wd) := by rw [hWd]; exact below_set4 HB2.out (by omega) _ _ _ _
    clear hl hown
    unfold Lx.diagA
    go_wp2_with fail
    rw [<- hWd, <- hWs]
    have P0 : Ps (Wd.alloc (.cells #[.slice (some ⟨g, 0, none⟩) ts.length cap, .int .i64 0, .int .i64 0] 72)) Wd.heap.size g cap ts 0 0 :=
      ⟨heap_alloc_last _ _, by omega, toksC_keep HTd.out (Below.heap_alloc _ _ _ (by omega)), OK.out.pos⟩
    have HP0 := hideP P0
    clear P0
    refine (moduleM_c Wd.heap.size g cap ts OK.out _ HP0.out).mono ?_
    intro e w3 hpost
    have HPo := hideP hpost
    have hst0 := hpost.1
    have HA3 := hideP ((hst0.below.block w.heap.size (by omega)).trans ((Below.heap_alloc _ _ _ (by omega)).trans HAd.out))
    have HD3 := hideP ((hst0.below.block (w.heap.size + 1) (by omega)).trans ((Below.heap_alloc _ _ _ (by omega)).trans HDd.out))
    have HB3 : Hid (Below w.heap.size w w3) := (HBd.out.alloc (by omega) _).trans (hst0.below.mono (by omega))
    have HS3 := hideP hst0.size
    clear hpost hst0 a0 a1 z0 z1 d0 d1 d2 d3 g0 g1 g2 g3
    rcases ppost_or HPo.out with ⟨er, li, co, hr, rfl, hst⟩ | ⟨D, b, v, hr, rfl, hst, hps, x, rfl, hv⟩
    · have HE2 : Hid (moduleTextV S.data.toList = .inr (er, li, co)) := by rw [HE.out, hr]; exact rfl
      clear hr hst
      go_wp2_with fail
      refine leaves_cons (f := 33) (args := #[.pointer (some ⟨w.heap.size, 0, none⟩), .pointer (some ⟨w.heap.size + 1, 0, none⟩)]) (by simp) (by simp [go_sem]) ?_
      refine (catchM_panic w.heap.size (w.heap.size + 1) li co er [] w3 zMV _ _ _ _ HA3.out HD3.out (by omega)).mono ?_
      rintro e u' w4 ⟨rfl, rfl, ⟨h1, h2⟩, h3⟩
      show ∃ v, _
      refine ⟨_, results_cc rfl _ rfl h1 underlying36 (by kernel_rfl) rfl h2 underlying30 (by kernel_rfl), ?_⟩
      rw [HE2.out]
      exact ⟨HB3.out.trans (h3.out _ (Nat.le_refl _) (by omega)), rfl⟩
    · have HV := hideP hv
      have HPs := hideP hps
      have HK := hideP hr
      obtain ⟨⟨a0, a1⟩, ⟨z0, z1⟩, hla3⟩ := boxM (x := zMV) HA3.out
      obtain ⟨⟨d0, d1, d2, d3⟩, ⟨g0, g1, g2, g3⟩, hld3⟩ := res_facts HD3.out
      rw [hWs] at HPs
      obtain ⟨We, hWe⟩ : ∃ W, W = putM w3 w.heap.size x := ⟨_, rfl⟩
      have HPe : Hid (Ps We w2.heap.size g cap ts b 0) := by rw [hWe]; exact ps_farM HPs.out (by omega) (by omega) x
      have HAe : Hid (We.heap[w.heap.size]? = some x.obj) := by rw [hWe]; exact putM_heap (y := zMV) HA3.out
      have HDe : Hid (We.heap[w.heap.size + 1]? = some (.cells #[.int .i64 0, .int .i64 0, .int .i64 0, .int .i64 0] 30)) := by rw [hWe]; exact (putM_other (x := x) (by omega)).trans HD3.out
      have HBe : Hid (Below w.heap.size w We) := by rw [hWe]; exact below_putM HB3.out (Nat.le_refl _) x
      have HVe : Hid (MdV (Wd.heap.size + 1) We x D) := by rw [hWe]; have := HV.out; rw [World.size_alloc] at this; exact this.putM (by omega) x
      have HSe : Hid (We.heap.size = w3.heap.size) := by rw [hWe]; exact putM_size (x := x)
      unfold putM at hWe
      clear hr hst hps hv
      go_wp2_with fail
      rw [<- hWe]
      clear hWe a0 a1 z0 z1 d0 d1 d2 d3 g0 g1 g2 g3
      refine (end_c w2.heap.size g cap b 0 ts _ HPe.out).mono ?_
      intro e w4 hpost
      have hst0 := hpost.1
      have hpe := HPe.out.ltp
      have HA4 := hideP ((hst0.below.block w.heap.size (by omega)).trans HAe.out)
      have HD4 := hideP ((hst0.below.block (w.heap.size + 1) (by omega)).trans HDe.out)
      have HB4 : Hid (Below w.heap.size w w4) := HBe.out.trans (hst0.below.mono (by omega))
      have HV4 : Hid (MdV (w2.heap.size + 1) w4 x D) := by
        have := HVe.out
        rw [hWs] at this
        exact this.stay hst0 (by omega)
      have HPo4 := hideP hpost
      clear hpost hst0
      rcases ppost_or HPo4.out with ⟨er, li, co, hr, rfl, hst⟩ | ⟨u, b', v, hr, rfl, hst, hps, hv⟩
      · have HE2 : Hid (moduleTextV S.data.toList = .inr (er, li, co)) := by
          rw [HE.out, HK.out]
          show doneA (if (tkA ts b).kind == 0 then .inl (D, b) else badA ts 7 b) = _
          by_cases h0 : ((tkA ts b).kind == 0) = true
          · rw [if_pos h0] at hr; cases hr
          · rw [if_neg h0] at hr ⊢
            injection hr with hr
            exact congrArg Sum.inr hr
        clear hr hst
        go_wp2_with fail
        refine leaves_cons (f := 33) (args := #[.pointer (some ⟨w.heap.size, 0, none⟩), .pointer (some ⟨w.heap.size + 1, 0, none⟩)]) (by simp) (by simp [go_sem]) ?_
        refine (catchM_panic w.heap.size (w.heap.size + 1) li co er [] w4 x _ _ _ _ HA4.out HD4.out (by omega)).mono ?_
        rintro e u' w5 ⟨rfl, rfl, ⟨h1, h2⟩, h3⟩
        show ∃ v, _
        refine ⟨_, results_cc rfl _ rfl h1 underlying36 (by kernel_rfl) rfl h2 underlying30 (by kernel_rfl), ?_⟩
        rw [HE2.out]
        exact ⟨HB4.out.trans (h3.out _ (Nat.le_refl _) (by omega)), rfl⟩
      · have HE2 : Hid (moduleTextV S.data.toList = .inl D) := by
          rw [HE.out, HK.out]
          show doneA (if (tkA ts b).kind == 0 then .inl (D, b) else badA ts 7 b) = _
          by_cases h0 : ((tkA ts b).kind == 0) = true
          · rw [if_pos h0]; exact rfl
          · rw [if_neg h0] at hr; cases hr
        obtain ⟨⟨a0, a1⟩, ⟨z0, z1⟩, hla4⟩ := boxM (x := x) HA4.out
        obtain ⟨⟨d0, d1, d2, d3⟩, ⟨g0, g1, g2, g3⟩, hld4⟩ := res_facts HD4.out
        clear hr hst hps hv
        go_wp2_with fail
        go_region
        all_goals
          go_wp2_with fail
          have hga := (other_set4 (b := w.heap.size + 1) (i := w.heap.size) (by omega) (.int .i64 0) (.int .i64 0) (.int .i64 0) (.int .i64 0)).trans (putM_heap (x := x) (y := x) HA4.out)
          have hgd := set4 ((putM_other (x := x) (b := w.heap.size) (i := w.heap.size + 1) (by omega)).trans HD4.out) (.int .i64 0) (.int .i64 0) (.int .i64 0) (.int .i64 0)
          have hT := ((HV4.out.putM (b := w.heap.size) (by omega) x).set4 (b := w.heap.size + 1) (by omega) (.int .i64 0) (.int .i64 0) (.int .i64 0) (.int .i64 0)).lower (lo' := w.heap.size) (by omega)
          have hBf := below_set4 (below_putM HB4.out (Nat.le_refl _) x) (show w.heap.size <= w.heap.size + 1 by omega) (.int .i64 0) (.int .i64 0) (.int .i64 0) (.int .i64 0)
          generalize hWf : (((((putM w4 w.heap.size x).setCell ⟨w.heap.size + 1, 0, none⟩ (.int .i64 0)).setCell ⟨w.heap.size + 1, 1, none⟩ (.int .i64 0)).setCell ⟨w.heap.size + 1, 2, none⟩ (.int .i64 0)).setCell ⟨w.heap.size + 1, 3, none⟩ (.int .i64 0)) = Wf at hga hgd hT hBf
          refine leaves_cons (f := 33) (args := #[.pointer (some ⟨w.heap.size, 0, none⟩), .pointer (some ⟨w.heap.size + 1, 0, none⟩)]) (by simp) (by simp [go_sem]) ?_
          refine (catchM_idle ⟨w.heap.size, 0, none⟩ ⟨w.heap.size + 1, 0, none⟩ _).mono ?_
          rintro e u' w5 ⟨rfl, rfl, rfl⟩
          show ∃ v, _
          refine ⟨_, results_ccd rfl _ rfl hga underlying36 (by kernel_rfl) rfl hgd underlying30 (by kernel_rfl), ?_⟩
          rw [HE2.out]
          exact ⟨hBf.drew, _, rfl, x, rfl, hT.drew⟩
theorem parseParse_c (S : ByteArray) (hS : S.size <= 140737488351232) (w : World) (hw : Lx.Words w) :
    Calls prog 9 #[.string S] w (WPost w zMV.val MdE (moduleTextV S.data.toList)) := by
  have HW := hideP (wholeM_c S hS _ (hw.below (below_next (bl_alloc w zMV.obj) (bl_alloc _ (.cells #[.int .i64 0, .int .i64 0, .int .i64 0, .int .i64 0] 30)))))
  obtain ⟨R, hR⟩ : ∃ R, R = moduleTextV S.data.toList := ⟨_, rfl⟩
  rw [<- hR] at HW ⊢
  clear hw hR
  go_enter func9, ntmps9
  go_wp2_with fail
  refine HW.out.mono ?_
  intro e w2 hpost
  obtain ⟨hb2, hm⟩ := hpost
  have HB2 := hideP (below_next (below_next (bl_alloc _ _) (bl_alloc _ _)) hb2)
  have HA := hideP ((hb2.block w.heap.size (by rw [World.size_alloc, World.size_alloc]; omega)).trans ((Below.heap_alloc _ _ _ (by rw [World.size_alloc]; omega)).trans (heap_alloc_last w _)))
  have HD := hideP ((hb2.block (w.heap.size + 1) (by rw [World.size_alloc, World.size_alloc]; omega)).trans (heap_at1 w _ _))
  clear hb2
  obtain ⟨⟨a0, a1⟩, ⟨z0, z1⟩, hla⟩ := boxM (x := zMV) HA.out
  obtain ⟨⟨d0, d1, d2, d3⟩, ⟨g0, g1, g2, g3⟩, hld⟩ := res_facts HD.out
  rw [World.size_alloc, World.size_alloc] at hm
  rcases R with D | ⟨er, li, co⟩
  · obtain ⟨v, rfl, x, rfl, hv⟩ := hm
    have HV := hideP hv
    clear hv
    go_wp2_with fail
    have hga := (other_set4 (b := w.heap.size + 1) (i := w.heap.size) (by omega) (.int .i64 0) (.int .i64 0) (.int .i64 0) (.int .i64 0)).trans (putM_heap (x := x) (y := zMV) HA.out)
    have hgd := set4 ((putM_other (x := x) (b := w.heap.size) (i := w.heap.size + 1) (by omega)).trans HD.out) (.int .i64 0) (.int .i64 0) (.int .i64 0) (.int .i64 0)
    refine bodyPost_ret (results_cc rfl _ rfl hga underlying36 (by kernel_rfl) rfl hgd underlying30 (by kernel_rfl)) rfl ⟨below_set4 (below_putM HB2.out (Nat.le_refl _) x) (by omega) _ _ _ _, _, rfl, x, rfl, ?_⟩
    exact ((HV.out.putM (b := w.heap.size) (by omega) x).set4 (b := w.heap.size + 1) (by omega) _ _ _ _).lower (by omega)
  · subst hm
    go_wp2_with fail
    have hga := (other_set4 (b := w.heap.size + 1) (i := w.heap.size) (by omega) (.int .i64 0) (.int .i64 li) (.int .i64 co) (.int .i64 er)).trans (putM_heap (x := zMV) (y := zMV) HA.out)
    have hgd := set4 ((putM_other (x := zMV) (b := w.heap.size) (i := w.heap.size + 1) (by omega)).trans HD.out) (.int .i64 0) (.int .i64 li) (.int .i64 co) (.int .i64 er)
    refine bodyPost_ret (results_cc rfl _ rfl hga underlying36 (by kernel_rfl) rfl hgd underlying30 (by kernel_rfl)) rfl ⟨below_set4 (below_putM HB2.out (Nat.le_refl _) zMV) (by omega) _ _ _ _, rfl⟩
end Go.Proofs.YtlhmofphpfdjlaaGreatDoor
/- What the parser made, as tree finds it: names and operations of two. -/
namespace Go.Proofs.YtlhmofphpfdjlaaGreatDoor
open Go.Proofs.Tryz
open Go.RowKit
/-- One tree with places, one without. -/
def BareN : Nat -> Ty -> Ty -> Prop
  | 0, _, _ => False
  | n + 1, D, D' => (∃ s l c, D = mkE 4 s 0 l c [] [] [] /\ D' = mkN 4 s 0 [] /\ s.length <= 1000) ∨ ∃ o l c x y x' y', D = mkE 14 o 0 l c [] [] [x, y] /\ D' = mkN 14 o 0 [x', y'] /\ o.length <= 1000 /\ BareN n x x' /\ BareN n y y'
abbrev pxOf (x : NV) : PX := ⟨x.li, x.co, x.ta, x.tc, x.na, x.nc⟩
theorem len_str {s : List UInt8} {b : ByteArray} (h : s = b.data.toList) : b.size = s.length := by rw [h]; rfl
theorem nd_of_node {w : World} {lo : Nat} : ∀ (n m : Nat) (x : NV) (D D' : Ty), BareN m D D' -> NodeF w lo n x D -> ∃ k : Nat, x.k = k /\ x.N = 0 /\ x.tl = 0 /\ x.nl = 0 /\ NdAt w n k x.tx 0 (pxOf x) x.ka x.kl x.kc D'
  | 0, _, _, _, _, _, h => h.elim
  | n + 1, 0, _, _, _, hb, _ => hb.elim
  | n + 1, m + 1, x, D, D', hb, h => by
    obtain ⟨tys, ns, ks, e, ⟨e1, e2, e3⟩, _, _, _, hr⟩ := h
    rcases hb with ⟨s, l, c, rfl, rfl, hs⟩ | ⟨o, l, c, y, z, y', z', rfl, rfl, ho, hy, hz⟩
    · obtain ⟨f1, f2, f3, f4, f5, rfl, rfl, rfl⟩ := mkE_inj e
      refine ⟨4, f1.symm, f3.symm, e1, e2, [], e3, ?_, by decide, ?_, by decide, Nat.zero_le _, by decide, .inl rfl⟩
      · rw [f2]
      · rw [len_str f2]; omega
    · obtain ⟨f1, f2, f3, f4, f5, rfl, rfl, rfl⟩ := mkE_inj e
      refine ⟨14, f1.symm, f3.symm, e1, e2, [y', z'], e3, ?_, by decide, ?_, by decide, Nat.zero_le _, (by show 2 <= 1000; decide), ?_⟩
      · rw [f2]
      · rw [len_str f2]; omega
      · rcases hr with hr | ⟨b, o, ea, hl, hcl, hc⟩
        · cases hr
        · refine .inr ⟨b, o, ea, hcl, fun i hi => ?_⟩
          have hi2 : i < 2 := hi
          obtain ⟨u, ⟨q0, q1, q2, q3, q4, q5, q6, q7⟩, hu⟩ := hc i hi2
          have key : ∃ k : Nat, u.k = k /\ u.N = 0 /\ u.tl = 0 /\ u.nl = 0 /\ NdAt w n k u.tx 0 (pxOf u) u.ka u.kl u.kc [y', z'][i] := by
            match i, hi2, hu with
            | 0, _, hu => exact nd_of_node n m u y y' hy hu
            | 1, _, hu => exact nd_of_node n m u z z' hz hu
          obtain ⟨k, g1, g2, g3, g4, hn⟩ := key
          rw [g1] at q0
          rw [g2] at q2
          rw [g3] at q5
          rw [g4] at q6
          exact ⟨k, u.tx, 0, pxOf u, u.ka, u.kl, u.kc, ⟨q0, q1, q2, q3, q4, q5, q6, q7⟩, hn⟩
/-- tree.Expr of what the parser made of names and operations. -/
theorem made_expr {w : World} (hB : Base w) {lo m : Nat} {x : NV} {D D' : Ty} (hb : BareN m D D') (hS : NamesOps m D') (h : NdV lo w x D) (hs : ∀ n, sizeT n D' <= 1000) (hh : ∀ n, heightT n D' <= 25) (hl : (textN m D').length <= 900) :
    Calls prog 10 #[x.val] w (TxPost w (textN m D')) := by
  obtain ⟨n, h⟩ := h
  have h' := nodeF_mono h (show n <= max n m by omega)
  obtain ⟨q, hq⟩ : ∃ q, max n m = q + 1 := by
    cases m with
    | zero => exact hb.elim
    | succ m => exact ⟨max n (m + 1) - 1, by omega⟩
  rw [hq] at h'
  obtain ⟨k, g1, g2, g3, g4, hn⟩ := nd_of_node (q + 1) m x D D' hb h'
  have e : x.val = ndV k x.tx 0 (pxOf x) x.ka x.kl x.kc := by
    unfold NV.val ndV pxOf
    rw [g1, g2, g3, g4]
    rfl
  rw [e]
  exact names_expr hB hS (by omega) hn (hs _) (hh _) hl
end Go.Proofs.YtlhmofphpfdjlaaGreatDoor
