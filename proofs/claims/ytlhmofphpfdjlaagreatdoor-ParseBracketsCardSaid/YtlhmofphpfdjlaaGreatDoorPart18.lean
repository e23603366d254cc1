/- Part. -/
import Derived.Test.YtlhmofphpfdjlaaGreatDoorPart17
set_option maxRecDepth 100000
set_option maxHeartbeats 4000000
/- Names, and what stands for a type or not. -/
namespace Go.Proofs.YtlhmofphpfdjlaaGreatDoor
open Go.Proofs.Tryz
open Go.RowKit
attribute [local go_sem ↓] Go.wp_at_zero Go.wp_at_succ
abbrev instNV (t : Tok) (ta : Option Addr) (tl tc : Nat) : NV := ⟨19, ⟨t.text.toArray⟩, 0, t.line, t.col, ta, tl, tc, none, 0, 0, none, 0, 0⟩
theorem kidsF_st {pb lo n : Nat} {w w' : World} {ka : Option Addr} {ks : List Ty} (h : KidsF w lo n ka ks) (hs : Stay pb w w') (hp : pb < lo) : KidsF w' lo n ka ks := kidsF_keep h hs.size fun b hb hl => hs.keep b (by omega) hl
/-- A name, and the types behind it. -/
def namedA (ts : List Tok) (K : Nat -> Pr Ty) (f a : Nat) : Pr Ty := if seesA ts (a + 1) [91] then (manyA ts K [44] f (a + 2)).go fun l b => (wantA ts b [93]).go fun _ b => .inl (mkE 19 (tkA ts a).text 0 (tkA ts a).line (tkA ts a).col l [] [], b) else .inl (mkE 4 (tkA ts a).text 0 (tkA ts a).line (tkA ts a).col [] [] [], a + 1)
theorem named_c (pb tb cap d : Nat) (ts : List Tok) (K : Nat -> Pr Ty) (hK : Reads pb tb cap d ts TyE 17 K) (ok : ToksOk ts) (a : Nat) (hn : a + 1 < ts.length) (w : World) (h : Ps w pb tb cap ts a d) :
    Calls prog 153 #[.pointer (some ⟨pb, 0, none⟩)] w (PPost pb tb cap ts d w NdE (namedA ts K ts.length a)) := by
  have H := hideP h
  have OK := hideP ok
  have hp := h.ltp
  have HK1 := hideP hK
  have C0 := hideP (ctx_init h zNV.obj)
  have HC := hideP (pass_c pb tb cap a d ts _ C0.out.ps hn ok.len)
  obtain ⟨f, hf⟩ : ∃ f, f + 1 = ts.length := ⟨ts.length - 1, by omega⟩
  obtain ⟨t, ht⟩ : ∃ t, t = tkA ts a := ⟨_, rfl⟩
  unfold namedA
  rw [<- ht] at HC ⊢
  clear ht
  obtain ⟨R, hR⟩ : ∃ R : Pr Ty, R = (if seesA ts (a + 1) [91] then (manyA ts K [44] ts.length (a + 2)).go fun l b => (wantA ts b [93]).go fun _ b => .inl (mkE 19 t.text 0 t.line t.col l [] [], b) else .inl (mkE 4 t.text 0 t.line t.col [] [] [], a + 1)) := ⟨_, rfl⟩
  rw [<- hR]
  have HR0 := hideP hR
  clear h ok hR hK
  go_enter func153, ntmps153
  go_wp2_with fail
  refine (HC.out).mono ?_
  rintro e w1 ⟨rfl, hst, hps⟩
  have C1 := hideP (C0.out.step hst hps)
  have C2 := hideP (C1.out.alloc (TOKO t))
  clear hst hps
  go_wp2_with fail
  have HT := hideP (take_c pb tb cap (a + 1) d ts [91] _ C2.out.ps OK.out)
  cases hs : seesA ts (a + 1) [91] with
  | false =>
    rw [hs, if_neg (by simp)] at HT
    have HR1 : Hid (R = .inl (mkE 4 t.text 0 t.line t.col [] [] [], a + 1)) := by rw [HR0.out, if_neg (by simp [hs])]; exact rfl
    clear hs
    refine (HT.out).mono ?_
    rintro e w2 ⟨rfl, hst, hps⟩
    have C3 := hideP (C2.out.step hst hps)
    clear hst hps
    obtain ⟨⟨k0, k1, k2, k3⟩, _, hk1⟩ := res_facts C3.out.b0
    go_wp2_with fail
    refine (placed_c t ⟨4, ⟨t.text.toArray⟩, 0, 0, 0, none, 0, 0, none, 0, 0, none, 0, 0⟩ _).mono ?_
    rintro e w3 ⟨rfl, hb⟩
    have C4 := hideP (C3.out.below hb)
    clear hb
    obtain ⟨⟨r0, r1, r2, r3, r4, r5, r6, r7⟩, ⟨f0, f1, f2, f3, f4, f5, f6, f7⟩, hr1⟩ := box8 (x := zNV) (C4.out.b1)
    go_wp2_with fail
    rw [HR1.out]
    refine bodyPost_ret (results_cell_row rfl _ _ w.heap.size 27 _ (0, 0) _ rfl (put8_heap (x := leafNV 4 t.text 0 t) C4.out.b1) underlying27 rfl (by kernel_rfl)) rfl ⟨stay_put8 C4.out.st hp (Nat.le_refl _) (leafNV 4 t.text 0 t), ps_put8 C4.out.ps hp (leafNV 4 t.text 0 t), _, rfl, leafNV 4 t.text 0 t, rfl, ?_⟩
    exact ((leaf_nd _ _ 4 t.text 0 t).put8 (Nat.lt_succ_self _) (leafNV 4 t.text 0 t)).lower (Nat.le_succ _)
  | true =>
    rw [hs, if_pos rfl] at HT
    have HR1 : Hid (R = (manyA ts K [44] (f + 1) (a + 2)).go fun l b => (wantA ts b [93]).go fun _ b => .inl (mkE 19 t.text 0 t.line t.col l [] [], b)) := by rw [HR0.out, if_pos hs, hf]; exact rfl
    clear hs
    refine (HT.out).mono ?_
    rintro e w2 ⟨rfl, hst, hps⟩
    have C3 := hideP (C2.out.step hst hps)
    clear hst hps
    go_wp2_with fail
    refine (listT_c pb tb cap d ts [44] _ K HK1.out f (a + 2) (by omega) _ C3.out.ps OK.out).mono ?_
    intro e w3 hpost
    rcases ppost_or hpost with ⟨er, li, co, hr, rfl, hst⟩ | ⟨l, b, v, hr, rfl, hst, hps, hv⟩
    · have HE : Hid (R = .inr (er, li, co)) := by rw [HR1.out, hr]; exact rfl
      have HF := hideP (C3.out.st.trans hst)
      clear hr hst hpost
      go_wp2_with fail
      exact ⟨rfl, HF.out, by rw [HE.out]⟩
    have HR2 : Hid (R = (wantA ts b [93]).go fun _ b => .inl (mkE 19 t.text 0 t.line t.col l [] [], b)) := by rw [HR1.out, hr]; exact rfl
    obtain ⟨cs, hv⟩ := hv
    obtain ⟨av, cv, m, rfl, hcv, hk⟩ := rows_kids hv
    have HKi := hideP (kidsF_lower hk C3.out.sz)
    have HLen : Hid (l.length <= 8193) := by have := many_len _ hr; have := OK.out.len; show _ <= _; omega
    have C4 := hideP ((C3.out.step hst hps))
    clear hr hst hps hpost hv hk
    go_wp2_with fail
    refine (must_c pb tb cap b d ts [93] _ C4.out.ps OK.out).mono ?_
    intro e w4 hpost
    rcases ppost_or hpost with ⟨er, li, co, hr, rfl, hst⟩ | ⟨u, b3, v, hr, rfl, hst, hps, hv⟩
    · have HE : Hid (R = .inr (er, li, co)) := by rw [HR2.out, hr]; exact rfl
      have HF := hideP (C4.out.st.trans hst)
      clear hr hst hpost
      go_wp2_with fail
      exact ⟨rfl, HF.out, by rw [HE.out]⟩
    have HR3 : Hid (R = .inl (mkE 19 t.text 0 t.line t.col l [] [], b3)) := by rw [HR2.out, hr]; exact rfl
    have HKj := hideP (kidsF_st HKi.out hst (by omega))
    have C5 := hideP ((C4.out.step hst hps))
    clear hr hst hps hpost hv
    obtain ⟨⟨k0, k1, k2, k3⟩, _, hk1⟩ := res_facts C5.out.b0
    go_wp2_with fail
    refine (placed_c t ⟨19, ⟨t.text.toArray⟩, 0, 0, 0, av, l.length, cv, none, 0, 0, none, 0, 0⟩ _).mono ?_
    rintro e w6 ⟨rfl, hb⟩
    have C6 := hideP (C5.out.below hb)
    have HN : Hid (NdV (w.heap.size + 1) w6 (instNV t av l.length cv) (mkE 19 t.text 0 t.line t.col l [] [])) := ⟨m + 1, l, [], [], rfl, ⟨rfl, rfl, rfl⟩, ⟨(by have := HLen.out; omega), Nat.zero_le _, Nat.zero_le _⟩, kidsF_stay HKj.out hb, .inl rfl, .inl rfl⟩
    clear hb
    obtain ⟨⟨r0, r1, r2, r3, r4, r5, r6, r7⟩, ⟨f0, f1, f2, f3, f4, f5, f6, f7⟩, hr1⟩ := box8 (x := zNV) (C6.out.b1)
    go_wp2_with fail
    rw [HR3.out]
    refine bodyPost_ret (results_cell_row rfl _ _ w.heap.size 27 _ (0, 0) _ rfl (put8_heap (x := instNV t av l.length cv) C6.out.b1) underlying27 rfl (by kernel_rfl)) rfl ⟨stay_put8 C6.out.st hp (Nat.le_refl _) (instNV t av l.length cv), ps_put8 C6.out.ps hp (instNV t av l.length cv), _, rfl, instNV t av l.length cv, rfl, ?_⟩
    exact ((HN.out).put8 (Nat.lt_succ_self _) (instNV t av l.length cv)).lower (Nat.le_succ _)
theorem results_ct {fn : Func} {p u : Tmp} {ty : TypeId} (h : fn.results = #[.cell p ty, .tmp u]) (tmps : Array Value) {P : Program} {w : World} {g : Nat} {t : TypeId} {cs : Array Value} {fr : Nat × Nat} {fs : Array Field}
    (hp : tmps.getD p undef = .pointer (some ⟨g, 0, none⟩)) (hg : w.heap[g]? = some (.cells cs t fr))
    (hu : P.underlying ty = some (.struct fs)) (hi : (P.info? ty).map (·.size) = some cs.size) :
    (results fn tmps).run P w = .ok (.tuple #[.agg cs, tmps.getD u undef]) w := results_cell_tmp h tmps hp hg hu hi
/-- A type behind a sign; any, and false, where it does not stand. -/
def behindA (ts : List Tok) (K : Nat -> Pr Ty) (s : List UInt8) (a : Nat) : Pr (Ty × Bool) := if seesA ts a s then (K (a + 1)).go fun t b => .inl ((t, true), b) else .inl ((mkT 0 [] [] [], false), a)
def TyBE (lo : Nat) (w : World) (v : Value) (x : Ty × Bool) : Prop := ∃ u, v = .tuple #[u, .bool x.2] /\ TyE lo w u x.1
theorem behind_c (pb tb cap d : Nat) (ts : List Tok) (s : List UInt8) (K : Nat -> Pr Ty) (hK : Reads pb tb cap d ts TyE 17 K) (ok : ToksOk ts) (a : Nat) (w : World) (h : Ps w pb tb cap ts a d) :
    Calls prog 67 #[.pointer (some ⟨pb, 0, none⟩), .string ⟨s.toArray⟩] w (PPost pb tb cap ts d w TyBE (behindA ts K s a)) := by
  have H := hideP h
  have OK := hideP ok
  have hp := h.ltp
  have HK1 := hideP hK
  have C0 := hideP (ctx_init h zTyO)
  obtain ⟨R, hR⟩ : ∃ R : Pr (Ty × Bool), R = (behindA ts K s a) := ⟨_, rfl⟩
  rw [<- hR]
  have HR0 := hideP hR
  clear h ok hR hK
  go_enter func67, ntmps67
  go_wp2_with fail
  have HT := hideP (take_c pb tb cap a d ts s _ C0.out.ps OK.out)
  cases hs : seesA ts a s with
  | false =>
    rw [hs, if_neg (by simp)] at HT
    have HR1 : Hid (R = .inl ((mkT 0 [] [] [], false), a)) := by rw [HR0.out, behindA, if_neg (by simp [hs])]; exact rfl
    clear hs
    refine (HT.out).mono ?_
    rintro e w1 ⟨rfl, hst, hps⟩
    have C1 := hideP (C0.out.step hst hps)
    clear hst hps
    obtain ⟨⟨r0, r1, r2, r3⟩, ⟨f0, f1, f2, f3⟩, hr1⟩ := res_facts C1.out.b0
    go_wp2_with fail
    rw [HR1.out]
    refine bodyPost_ret (results_ct rfl _ rfl (set4 C1.out.b0 _ _ _ _) underlying44 ty_size) rfl ⟨stay_set4 C1.out.st hp (Nat.le_refl _) _ _ _ _, ps_set4 C1.out.ps hp _ _ _ _, _, rfl, _, rfl, ?_⟩
    exact tyE_leaf _ _ 0 ⟨#[]⟩ (by decide) (by decide)
  | true =>
    rw [hs, if_pos rfl] at HT
    have HR1 : Hid (R = (K (a + 1)).go fun t b => .inl ((t, true), b)) := by rw [HR0.out, behindA, if_pos hs]; exact rfl
    clear hs
    refine (HT.out).mono ?_
    rintro e w1 ⟨rfl, hst, hps⟩
    have C1 := hideP (C0.out.step hst hps)
    clear hst hps
    go_wp2_with fail
    refine (HK1.out.calls (a + 1) _ C1.out.ps).mono ?_
    intro e w2 hpost
    rcases ppost_or hpost with ⟨er, li, co, hr, rfl, hst⟩ | ⟨D, b, v, hr, rfl, hst, hps, hv⟩
    · have HE : Hid (R = .inr (er, li, co)) := by rw [HR1.out, hr]; exact rfl
      have HF := hideP (C1.out.st.trans hst)
      clear hr hst hpost
      go_wp2_with fail
      exact ⟨rfl, HF.out, by rw [HE.out]⟩
    have HR2 : Hid (R = .inl ((D, true), b)) := by rw [HR1.out, hr]; exact rfl
    obtain ⟨k1, nm1, na1, nl1, nc1, ka1, kl1, kc1, rfl⟩ := hv.cells
    have C2 := hideP ((C1.out.step hst hps).addT hv C1.out.sz)
    clear hr hst hps hpost hv
    obtain ⟨⟨r0, r1, r2, r3⟩, ⟨f0, f1, f2, f3⟩, hr1⟩ := res_facts C2.out.b0
    go_wp2_with fail
    rw [HR2.out]
    refine bodyPost_ret (results_ct rfl _ rfl (set4 C2.out.b0 _ _ _ _) underlying44 ty_size) rfl ⟨stay_set4 C2.out.st hp (Nat.le_refl _) _ _ _ _, ps_set4 C2.out.ps hp _ _ _ _, _, rfl, _, rfl, ?_⟩
    exact (C2.out.t0.set4 (Nat.lt_succ_self _) _ _ _ _).lower (Nat.le_succ _)
theorem results_tc {fn : Func} {p u : Tmp} {ty : TypeId} (h : fn.results = #[.tmp u, .cell p ty]) (tmps : Array Value) {P : Program} {w : World} {g : Nat} {t : TypeId} {cs : Array Value} {fr : Nat × Nat} {fs : Array Field}
    (hp : tmps.getD p undef = .pointer (some ⟨g, 0, none⟩)) (hg : w.heap[g]? = some (.cells cs t fr))
    (hu : P.underlying ty = some (.struct fs)) (hi : (P.info? ty).map (·.size) = some cs.size) :
    (results fn tmps).run P w = .ok (.tuple #[tmps.getD u undef, .agg cs]) w := by
  have hp' : tmps[p]?.getD undef = .pointer (some ⟨g, 0, none⟩) := by simpa using hp
  simp [results, h, hp', asAddr, run_loadVar_row w g t ty cs fr _ hg hu rfl hi]
/-- What a function takes. -/
def paramA (ts : List Tok) (K : Nat -> Pr Ty) (a : Nat) : Pr (List UInt8 × Ty) := (wantA ts a [40]).go fun _ b => (nameA ts b).go fun s b => (behindA ts K [58] b).go fun x b => (wantA ts b [41]).go fun _ b => .inl ((s, x.1), b)
def ParE (lo : Nat) (w : World) (v : Value) (x : List UInt8 × Ty) : Prop := ∃ u, v = .tuple #[.string ⟨x.1.toArray⟩, u] /\ TyE lo w u x.2
theorem param_c (pb tb cap d : Nat) (ts : List Tok) (K : Nat -> Pr Ty) (hK : Reads pb tb cap d ts TyE 17 K) (ok : ToksOk ts) (a : Nat) (w : World) (h : Ps w pb tb cap ts a d) :
    Calls prog 66 #[.pointer (some ⟨pb, 0, none⟩)] w (PPost pb tb cap ts d w ParE (paramA ts K a)) := by
  have H := hideP h
  have OK := hideP ok
  have hp := h.ltp
  have HK1 := hideP hK
  have C0 := hideP (ctx_init h zTyO)
  obtain ⟨R, hR⟩ : ∃ R : Pr (List UInt8 × Ty), R = (paramA ts K a) := ⟨_, rfl⟩
  rw [<- hR]
  unfold paramA at hR
  have HR0 := hideP hR
  clear h ok hR hK
  go_enter func66, ntmps66
  go_wp2_with fail
  refine (must_c pb tb cap a d ts [40] _ C0.out.ps OK.out).mono ?_
  intro e w1 hpost
  rcases ppost_or hpost with ⟨er, li, co, hr, rfl, hst⟩ | ⟨u, b1, v, hr, rfl, hst, hps, hv⟩
  · have HE : Hid (R = .inr (er, li, co)) := by rw [HR0.out, hr]; exact rfl
    have HF := hideP (C0.out.st.trans hst)
    clear hr hst hpost
    go_wp2_with fail
    exact ⟨rfl, HF.out, by rw [HE.out]⟩
  have HR1 : Hid (R = (nameA ts b1).go fun s b => (behindA ts K [58] b).go fun x b => (wantA ts b [41]).go fun _ b => .inl ((s, x.1), b)) := by rw [HR0.out, hr]; exact rfl
  have C1 := hideP ((C0.out.step hst hps))
  clear hr hst hps hpost hv
  go_wp2_with fail
  refine (pname_c pb tb cap b1 d ts _ C1.out.ps OK.out).mono ?_
  intro e w2 hpost
  rcases ppost_or hpost with ⟨er, li, co, hr, rfl, hst⟩ | ⟨s, b2, v, hr, rfl, hst, hps, hv⟩
  · have HE : Hid (R = .inr (er, li, co)) := by rw [HR1.out, hr]; exact rfl
    have HF := hideP (C1.out.st.trans hst)
    clear hr hst hpost
    go_wp2_with fail
    exact ⟨rfl, HF.out, by rw [HE.out]⟩
  have HR2 : Hid (R = (behindA ts K [58] b2).go fun x b => (wantA ts b [41]).go fun _ b => .inl ((s, x.1), b)) := by rw [HR1.out, hr]; exact rfl
  subst hv
  have C2 := hideP ((C1.out.step hst hps))
  clear hr hst hps hpost  
  go_wp2_with fail
  refine (behind_c pb tb cap d ts [58] K HK1.out OK.out b2 _ C2.out.ps).mono ?_
  intro e w3 hpost
  rcases ppost_or hpost with ⟨er, li, co, hr, rfl, hst⟩ | ⟨x, b3, v, hr, rfl, hst, hps, hv⟩
  · have HE : Hid (R = .inr (er, li, co)) := by rw [HR2.out, hr]; exact rfl
    have HF := hideP (C2.out.st.trans hst)
    clear hr hst hpost
    go_wp2_with fail
    exact ⟨rfl, HF.out, by rw [HE.out]⟩
  have HR3 : Hid (R = (wantA ts b3 [41]).go fun _ b => .inl ((s, x.1), b)) := by rw [HR2.out, hr]; exact rfl
  obtain ⟨u3, rfl, hv⟩ := hv
  obtain ⟨k1, nm1, na1, nl1, nc1, ka1, kl1, kc1, rfl⟩ := hv.cells
  have C3 := hideP ((C2.out.step hst hps).addT hv C2.out.sz)
  clear hr hst hps hpost hv
  go_wp2_with fail
  have C4 := hideP (C3.out.alloc (tyO k1 nm1 na1 nl1 nc1 ka1 kl1 kc1))
  refine (must_c pb tb cap b3 d ts [41] _ C4.out.ps OK.out).mono ?_
  intro e w4 hpost
  rcases ppost_or hpost with ⟨er, li, co, hr, rfl, hst⟩ | ⟨u4, b4, v4, hr, rfl, hst, hps, hv⟩
  · have HE : Hid (R = .inr (er, li, co)) := by rw [HR3.out, hr]; exact rfl
    have HF := hideP (C4.out.st.trans hst)
    clear hr hst hpost
    go_wp2_with fail
    exact ⟨rfl, HF.out, by rw [HE.out]⟩
  have HR4 : Hid (R = .inl ((s, x.1), b4)) := by rw [HR3.out, hr]; exact rfl
  have C5 := hideP ((C4.out.step hst hps))
  clear hr hst hps hpost hv
  obtain ⟨⟨r0, r1, r2, r3⟩, ⟨f0, f1, f2, f3⟩, hr1⟩ := res_facts C5.out.b1
  obtain ⟨⟨q0, q1, q2, q3⟩, _, hq1⟩ := res_facts C5.out.b0
  have hne : ¬ w3.heap.size = w.heap.size := by have := C3.out.sz; omega
  go_wp2_with fail
  go_region
  all_goals
    go_wp2_with fail
    rw [HR4.out]
    refine bodyPost_ret (results_tc rfl _ rfl (set4 C5.out.b1 _ _ _ _) underlying44 ty_size) rfl ⟨(stay_set4 C5.out.st hp (Nat.le_refl _) _ _ _ _).drew, (ps_set4 C5.out.ps hp _ _ _ _).drew, _, rfl, _, rfl, ?_⟩
    exact (((C5.out.t0.set4 (Nat.lt_succ_self _) _ _ _ _).lower (Nat.le_succ _)).keep (Nat.le_refl _) fun _ _ _ => rfl)
end Go.Proofs.YtlhmofphpfdjlaaGreatDoor
/- Operations of one operand. -/
namespace Go.Proofs.YtlhmofphpfdjlaaGreatDoor
open Go.Proofs.Tryz
open Go.RowKit
attribute [local go_sem ↓] Go.wp_at_zero Go.wp_at_succ
/-- One expression in a row that was just made. -/
theorem ndV_one {lo kb : Nat} {w : World} {x : NV} {D1 : Ty} (h1 : NdV lo w x D1) (hk : w.heap[kb]? = some x.obj) (hlo : lo <= kb)
    (z : NV) (tys : List Ty) (ns : List (List UInt8)) (hz : z.ka = some ⟨kb, 0, none⟩ /\ z.kl = 1) (ht : z.tl = tys.length /\ tys.length <= 100000 /\ ∃ m, KidsF w lo m z.ta tys) (hn : z.nl = ns.length /\ ns.length <= 100000 /\ NamesF w lo z.na ns) :
    NdV lo w z (mkE z.k z.tx.data.toList z.N z.li z.co tys ns [D1]) := by
  obtain ⟨m1, h1⟩ := h1
  obtain ⟨t1, t2, m3, t3⟩ := ht
  refine ⟨max m1 m3 + 1, tys, ns, [D1], rfl, ⟨t1, hn.1, hz.2⟩, ⟨t2, hn.2.1, (by show 1 <= _; omega)⟩, kidsF_mono t3 (Nat.le_max_right _ _), hn.2.2, .inr ⟨kb, 0, hz.1, hlo, ⟨_, _, hk⟩, fun i hi => ?_⟩⟩
  match i, hi with
  | 0, _ => exact ⟨x, ⟨by rw [cell_of_row _ _ _ _ _ _ hk]; rfl, by rw [cell_of_row _ _ _ _ _ _ hk]; rfl, by rw [cell_of_row _ _ _ _ _ _ hk]; rfl, by rw [cell_of_row _ _ _ _ _ _ hk]; rfl, by rw [cell_of_row _ _ _ _ _ _ hk]; rfl, by rw [cell_of_row _ _ _ _ _ _ hk]; rfl, by rw [cell_of_row _ _ _ _ _ _ hk]; rfl, by rw [cell_of_row _ _ _ _ _ _ hk]; rfl⟩, nodeF_mono h1 (Nat.le_max_left _ _)⟩
abbrev set8 (w : World) (b : Nat) (v0 v1 v2 v3 v4 v5 v6 v7 : Value) : World := (((((((w.setCell ⟨b, 0, none⟩ v0).setCell ⟨b, 1, none⟩ v1).setCell ⟨b, 2, none⟩ v2).setCell ⟨b, 3, none⟩ v3).setCell ⟨b, 4, none⟩ v4).setCell ⟨b, 5, none⟩ v5).setCell ⟨b, 6, none⟩ v6).setCell ⟨b, 7, none⟩ v7
theorem set8_other {w : World} {b i : Nat} (hi : i ≠ b) (v0 v1 v2 v3 v4 v5 v6 v7 : Value) : (set8 w b v0 v1 v2 v3 v4 v5 v6 v7).heap[i]? = w.heap[i]? := by
  unfold set8
  rw [Below.heap_setCell _ _ _ _ hi, Below.heap_setCell _ _ _ _ hi, Below.heap_setCell _ _ _ _ hi, Below.heap_setCell _ _ _ _ hi, Below.heap_setCell _ _ _ _ hi, Below.heap_setCell _ _ _ _ hi, Below.heap_setCell _ _ _ _ hi, Below.heap_setCell _ _ _ _ hi]
/-- The box's cells behind a store elsewhere. -/
theorem tok_far {W W' : World} {b : Nat} {t : Tok} (h : TokB W b t) (hk : W'.heap[b]? = W.heap[b]?) : TokB W' b t := by
  have hc : ∀ j, W'.cell? ⟨b, j, none⟩ = W.cell? ⟨b, j, none⟩ := fun j => World.cell?_of_block (w := W) (a := ⟨b, j, none⟩) hk
  exact ⟨(hc 0).trans h.1, (hc 1).trans h.2.1, (hc 2).trans h.2.2.1, (hc 3).trans h.2.2.2⟩
abbrev unNV (k : Int) (t : Tok) (kb : Nat) : NV := ⟨k, ⟨#[]⟩, 0, t.line, t.col, none, 0, 0, none, 0, 0, some ⟨kb, 0, none⟩, 1, 1⟩
theorem unary_neg (pb tb cap d : Nat) (ts : List Tok) (U : Nat -> Pr Ty) (hU : Reads pb tb cap d ts NdE 143 U) (ok : ToksOk ts) (a : Nat) (hs : seesA ts a [45] = true) (w : World) (h : Ps w pb tb cap ts a d) :
    Calls prog 144 #[.pointer (some ⟨pb, 0, none⟩)] w (PPost pb tb cap ts d w NdE ((U (a + 1)).go fun x b => .inl (mkE 16 [] 0 (tkA ts a).line (tkA ts a).col [] [] [x], b))) := by
  have H := hideP h
  have OK := hideP ok
  have hp := h.ltp
  have HU1 := hideP hU
  have C0 := hideP (ctx_init h zNV.obj)
  have HN := hideP (sees_next ok.ends h.lt hs)
  have HS := hideP hs
  have HPa := hideP (fun w h => pass_c pb tb cap a d ts w h HN.out ok.len)
  obtain ⟨t, ht⟩ : ∃ t, t = tkA ts a := ⟨_, rfl⟩
  rw [<- ht] at HPa ⊢
  clear ht hs
  obtain ⟨R, hR⟩ : ∃ R : Pr Ty, R = ((U (a + 1)).go fun x b => .inl (mkE 16 [] 0 t.line t.col [] [] [x], b)) := ⟨_, rfl⟩
  rw [<- hR]
  have HR0 := hideP hR
  clear h ok hR hU
  go_enter func144, ntmps144
  go_wp2_with fail
  refine (is_new pb tb cap a _ 1 ts [[45]] _ _ C0.out.ps.rd (by simp) (by simp)).mono ?_
  rw [any_one, HS.out]
  rintro e w1 ⟨rfl, hb⟩
  have C1 := hideP (C0.out.below hb)
  clear hb
  go_wp2_with fail
  refine (HPa.out _ C1.out.ps).mono ?_
  rintro e w2 ⟨rfl, hst, hps⟩
  have C2 := hideP (C1.out.step hst hps)
  have C3 := hideP (C2.out.alloc (TOKO t))
  clear hst hps
  obtain ⟨⟨k0, k1, k2, k3⟩, _, hk1⟩ := res_facts C3.out.b0
  go_wp2_with fail
  have hne0 : w2.heap.size ≠ w.heap.size := by have := C2.out.sz; omega
  have hS0 : (((w2.alloc (TOKO t)).drew).cell? ⟨w2.heap.size, 0, none⟩ = some (.int .i64 t.kind) /\ ((w2.alloc (TOKO t)).drew).cell? ⟨w2.heap.size, 1, none⟩ = some (.string ⟨t.text.toArray⟩) /\ ((w2.alloc (TOKO t)).drew).cell? ⟨w2.heap.size, 2, none⟩ = some (.int .i64 t.line) /\ ((w2.alloc (TOKO t)).drew).cell? ⟨w2.heap.size, 3, none⟩ = some (.int .i64 t.col)) := (tokB (C3.out.drew.b0))
  have HC : Hid (Calls prog 143 #[.pointer (some ⟨pb, 0, none⟩)] (w2.alloc (TOKO t)).drew fun e w9 => (∃ chain, e = .panicked chain /\ PPost pb tb cap ts d w NdE R e w9) ∨ ∃ (y : NV) (D : Ty) (b2 : Nat), e = .returned (y.val) /\ ((w9.cell? ⟨w2.heap.size, 0, none⟩ = some (.int .i64 t.kind) /\ w9.cell? ⟨w2.heap.size, 1, none⟩ = some (.string ⟨t.text.toArray⟩) /\ w9.cell? ⟨w2.heap.size, 2, none⟩ = some (.int .i64 t.line) /\ w9.cell? ⟨w2.heap.size, 3, none⟩ = some (.int .i64 t.col))) /\ Hid (R = .inl (mkE 16 [] 0 t.line t.col [] [] [D], b2) /\ Ctx pb tb cap d ts w w9 b2 [(w2.heap.size, TOKO t), (w.heap.size, zNV.obj)] [(y, D)] [])) := by
    refine (HU1.out.calls (a + 1) _ C3.out.drew.ps).mono ?_
    intro e w9 hpost
    rcases ppost_or hpost with ⟨er, li, co, hr, rfl, hst⟩ | ⟨D, b2, v, hr, rfl, hst, hps, hv⟩
    · exact .inl ⟨_, rfl, C3.out.drew.st.trans hst, by rw [HR0.out, hr]; rfl⟩
    obtain ⟨y, rfl, hv⟩ := hv
    have CN := (C3.out.drew.step hst hps).addN hv C3.out.drew.sz
    exact .inr ⟨y, D, b2, rfl, (tokB (CN.b0)), by rw [HR0.out, hr]; rfl, CN⟩
  go_wp2_with fail
  go_region_held (fun W => (W.cell? ⟨w2.heap.size, 0, none⟩ = some (.int .i64 t.kind) /\ W.cell? ⟨w2.heap.size, 1, none⟩ = some (.string ⟨t.text.toArray⟩) /\ W.cell? ⟨w2.heap.size, 2, none⟩ = some (.int .i64 t.line) /\ W.cell? ⟨w2.heap.size, 3, none⟩ = some (.int .i64 t.col))) (first | with_reducible assumption | with_reducible exact HS3.out _ | with_reducible exact HS4.out _ _ _ _ _ _ _ _) (first
    | (go_at_call 143; refine HC.out.mono ?_; rintro e w9 (⟨ch, rfl, hf⟩ | ⟨y, D, b2, rfl, t5, HX⟩); exact ⟨rfl, hf⟩; have HS3 : Hid (∀ o, (((w9.alloc o)).cell? ⟨w2.heap.size, 0, none⟩ = some (.int .i64 t.kind) /\ ((w9.alloc o)).cell? ⟨w2.heap.size, 1, none⟩ = some (.string ⟨t.text.toArray⟩) /\ ((w9.alloc o)).cell? ⟨w2.heap.size, 2, none⟩ = some (.int .i64 t.line) /\ ((w9.alloc o)).cell? ⟨w2.heap.size, 3, none⟩ = some (.int .i64 t.col))) := (fun o => (tokB ((HX.out.2.alloc o).b1))))
    | (go_at_call 94; refine (placed_c t ⟨16, ⟨#[]⟩, 0, 0, 0, none, 0, 0, none, 0, 0, some ⟨w9.heap.size, 0, none⟩, 1, 1⟩ _).mono ?_; rintro e w10 ⟨rfl, hb⟩; have HX2 := hideP ((HX.out.2.alloc _).below hb); have t6 : (w10.cell? ⟨w2.heap.size, 0, none⟩ = some (.int .i64 t.kind) /\ w10.cell? ⟨w2.heap.size, 1, none⟩ = some (.string ⟨t.text.toArray⟩) /\ w10.cell? ⟨w2.heap.size, 2, none⟩ = some (.int .i64 t.line) /\ w10.cell? ⟨w2.heap.size, 3, none⟩ = some (.int .i64 t.col)) := (tokB (HX2.out.b1)); have HB8 := hideP (box8 (x := zNV) (HX2.out.b2)); obtain ⟨⟨r0, r1, r2, r3, r4, r5, r6, r7⟩, ⟨f0, f1, f2, f3, f4, f5, f6, f7⟩, hr1⟩ := HB8.out; have HS4 : Hid (∀ v0 v1 v2 v3 v4 v5 v6 v7, (((set8 w10 w.heap.size v0 v1 v2 v3 v4 v5 v6 v7)).cell? ⟨w2.heap.size, 0, none⟩ = some (.int .i64 t.kind) /\ ((set8 w10 w.heap.size v0 v1 v2 v3 v4 v5 v6 v7)).cell? ⟨w2.heap.size, 1, none⟩ = some (.string ⟨t.text.toArray⟩) /\ ((set8 w10 w.heap.size v0 v1 v2 v3 v4 v5 v6 v7)).cell? ⟨w2.heap.size, 2, none⟩ = some (.int .i64 t.line) /\ ((set8 w10 w.heap.size v0 v1 v2 v3 v4 v5 v6 v7)).cell? ⟨w2.heap.size, 3, none⟩ = some (.int .i64 t.col))) := (fun v0 v1 v2 v3 v4 v5 v6 v7 => (tokB ((set8_other hne0 v0 v1 v2 v3 v4 v5 v6 v7).trans (HX2.out.b1)))); clear hb))
  all_goals
    go_wp2_with fail
    rw [HX.out.1]
    refine bodyPost_ret (results_cell_row rfl _ _ w.heap.size 27 _ (0, 0) _ rfl (put8_heap (x := unNV 16 t w9.heap.size) HX2.out.b2) underlying27 rfl (by kernel_rfl)) rfl ⟨stay_put8 HX2.out.st hp (Nat.le_refl _) (unNV 16 t w9.heap.size), ps_put8 HX2.out.ps hp (unNV 16 t w9.heap.size), _, rfl, unNV 16 t w9.heap.size, rfl, ?_⟩
    exact ((ndV_one HX2.out.n0 HX2.out.b0 (by have := HX.out.2.sz; omega) (unNV 16 t w9.heap.size) [] [] ⟨rfl, rfl⟩ ⟨rfl, Nat.zero_le _, 0, .inl rfl⟩ ⟨rfl, Nat.zero_le _, .inl rfl⟩).put8 (Nat.lt_succ_self _) (unNV 16 t w9.heap.size)).lower (Nat.le_succ _)
theorem unary_not (pb tb cap d : Nat) (ts : List Tok) (U : Nat -> Pr Ty) (hU : Reads pb tb cap d ts NdE 143 U) (ok : ToksOk ts) (a : Nat) (hs : seesA ts a [110, 111, 116] = true) (w : World) (h : Ps w pb tb cap ts a d) :
    Calls prog 144 #[.pointer (some ⟨pb, 0, none⟩)] w (PPost pb tb cap ts d w NdE ((U (a + 1)).go fun x b => .inl (mkE 15 [] 0 (tkA ts a).line (tkA ts a).col [] [] [x], b))) := by
  have H := hideP h
  have OK := hideP ok
  have hp := h.ltp
  have HU1 := hideP hU
  have C0 := hideP (ctx_init h zNV.obj)
  have HN := hideP (sees_next ok.ends h.lt hs)
  have HS0 := hideP (sees_two hs (show ([110, 111, 116] : List UInt8) ≠ [45] by decide))
  have HS := hideP hs
  have HPa := hideP (fun w h => pass_c pb tb cap a d ts w h HN.out ok.len)
  obtain ⟨t, ht⟩ : ∃ t, t = tkA ts a := ⟨_, rfl⟩
  rw [<- ht] at HPa ⊢
  clear ht hs
  obtain ⟨R, hR⟩ : ∃ R : Pr Ty, R = ((U (a + 1)).go fun x b => .inl (mkE 15 [] 0 t.line t.col [] [] [x], b)) := ⟨_, rfl⟩
  rw [<- hR]
  have HR0 := hideP hR
  clear h ok hR hU
  go_enter func144, ntmps144
  go_wp2_with fail
  refine (is_new pb tb cap a _ 1 ts [[45]] _ _ C0.out.ps.rd (by simp) (by simp)).mono ?_
  rw [any_one, HS0.out]
  rintro e w1 ⟨rfl, hb⟩
  have C1 := hideP (C0.out.below hb)
  clear hb
  go_wp2_with fail
  refine (is_new pb tb cap a _ 1 ts [[110, 111, 116]] _ _ C1.out.ps.rd (by simp) (by simp)).mono ?_
  rw [any_one, HS.out]
  rintro e w2 ⟨rfl, hb⟩
  have C2 := hideP (C1.out.below hb)
  clear hb
  go_wp2_with fail
  refine (HPa.out _ C2.out.ps).mono ?_
  rintro e w3 ⟨rfl, hst, hps⟩
  have C3 := hideP (C2.out.step hst hps)
  have C4 := hideP (C3.out.alloc (TOKO t))
  clear hst hps
  obtain ⟨⟨k0, k1, k2, k3⟩, _, hk1⟩ := res_facts C4.out.b0
  go_wp2_with fail
  have hne0 : w3.heap.size ≠ w.heap.size := by have := C3.out.sz; omega
  have hS0 : (((w3.alloc (TOKO t)).drew).cell? ⟨w3.heap.size, 0, none⟩ = some (.int .i64 t.kind) /\ ((w3.alloc (TOKO t)).drew).cell? ⟨w3.heap.size, 1, none⟩ = some (.string ⟨t.text.toArray⟩) /\ ((w3.alloc (TOKO t)).drew).cell? ⟨w3.heap.size, 2, none⟩ = some (.int .i64 t.line) /\ ((w3.alloc (TOKO t)).drew).cell? ⟨w3.heap.size, 3, none⟩ = some (.int .i64 t.col)) := (tokB (C4.out.drew.b0))
  have HC : Hid (Calls prog 143 #[.pointer (some ⟨pb, 0, none⟩)] (w3.alloc (TOKO t)).drew fun e w9 => (∃ chain, e = .panicked chain /\ PPost pb tb cap ts d w NdE R e w9) ∨ ∃ (y : NV) (D : Ty) (b2 : Nat), e = .returned (y.val) /\ ((w9.cell? ⟨w3.heap.size, 0, none⟩ = some (.int .i64 t.kind) /\ w9.cell? ⟨w3.heap.size, 1, none⟩ = some (.string ⟨t.text.toArray⟩) /\ w9.cell? ⟨w3.heap.size, 2, none⟩ = some (.int .i64 t.line) /\ w9.cell? ⟨w3.heap.size, 3, none⟩ = some (.int .i64 t.col))) /\ Hid (R = .inl (mkE 15 [] 0 t.line t.col [] [] [D], b2) /\ Ctx pb tb cap d ts w w9 b2 [(w3.heap.size, TOKO t), (w.heap.size, zNV.obj)] [(y, D)] [])) := by
    refine (HU1.out.calls (a + 1) _ C4.out.drew.ps).mono ?_
    intro e w9 hpost
    rcases ppost_or hpost with ⟨er, li, co, hr, rfl, hst⟩ | ⟨D, b2, v, hr, rfl, hst, hps, hv⟩
    · exact .inl ⟨_, rfl, C4.out.drew.st.trans hst, by rw [HR0.out, hr]; rfl⟩
    obtain ⟨y, rfl, hv⟩ := hv
    have CN := (C4.out.drew.step hst hps).addN hv C4.out.drew.sz
    exact .inr ⟨y, D, b2, rfl, (tokB (CN.b0)), by rw [HR0.out, hr]; rfl, CN⟩
  go_wp2_with fail
  go_region_held (fun W => (W.cell? ⟨w3.heap.size, 0, none⟩ = some (.int .i64 t.kind) /\ W.cell? ⟨w3.heap.size, 1, none⟩ = some (.string ⟨t.text.toArray⟩) /\ W.cell? ⟨w3.heap.size, 2, none⟩ = some (.int .i64 t.line) /\ W.cell? ⟨w3.heap.size, 3, none⟩ = some (.int .i64 t.col))) (first | with_reducible assumption | with_reducible exact HS3.out _ | with_reducible exact HS4.out _ _ _ _ _ _ _ _) (first
    | (go_at_call 143; refine HC.out.mono ?_; rintro e w9 (⟨ch, rfl, hf⟩ | ⟨y, D, b2, rfl, t5, HX⟩); exact ⟨rfl, hf⟩; have HS3 : Hid (∀ o, (((w9.alloc o)).cell? ⟨w3.heap.size, 0, none⟩ = some (.int .i64 t.kind) /\ ((w9.alloc o)).cell? ⟨w3.heap.size, 1, none⟩ = some (.string ⟨t.text.toArray⟩) /\ ((w9.alloc o)).cell? ⟨w3.heap.size, 2, none⟩ = some (.int .i64 t.line) /\ ((w9.alloc o)).cell? ⟨w3.heap.size, 3, none⟩ = some (.int .i64 t.col))) := (fun o => (tokB ((HX.out.2.alloc o).b1))))
    | (go_at_call 94; refine (placed_c t ⟨15, ⟨#[]⟩, 0, 0, 0, none, 0, 0, none, 0, 0, some ⟨w9.heap.size, 0, none⟩, 1, 1⟩ _).mono ?_; rintro e w10 ⟨rfl, hb⟩; have HX2 := hideP ((HX.out.2.alloc _).below hb); have t6 : (w10.cell? ⟨w3.heap.size, 0, none⟩ = some (.int .i64 t.kind) /\ w10.cell? ⟨w3.heap.size, 1, none⟩ = some (.string ⟨t.text.toArray⟩) /\ w10.cell? ⟨w3.heap.size, 2, none⟩ = some (.int .i64 t.line) /\ w10.cell? ⟨w3.heap.size, 3, none⟩ = some (.int .i64 t.col)) := (tokB (HX2.out.b1)); have HB8 := hideP (box8 (x := zNV) (HX2.out.b2)); obtain ⟨⟨r0, r1, r2, r3, r4, r5, r6, r7⟩, ⟨f0, f1, f2, f3, f4, f5, f6, f7⟩, hr1⟩ := HB8.out; have HS4 : Hid (∀ v0 v1 v2 v3 v4 v5 v6 v7, (((set8 w10 w.heap.size v0 v1 v2 v3 v4 v5 v6 v7)).cell? ⟨w3.heap.size, 0, none⟩ = some (.int .i64 t.kind) /\ ((set8 w10 w.heap.size v0 v1 v2 v3 v4 v5 v6 v7)).cell? ⟨w3.heap.size, 1, none⟩ = some (.string ⟨t.text.toArray⟩) /\ ((set8 w10 w.heap.size v0 v1 v2 v3 v4 v5 v6 v7)).cell? ⟨w3.heap.size, 2, none⟩ = some (.int .i64 t.line) /\ ((set8 w10 w.heap.size v0 v1 v2 v3 v4 v5 v6 v7)).cell? ⟨w3.heap.size, 3, none⟩ = some (.int .i64 t.col))) := (fun v0 v1 v2 v3 v4 v5 v6 v7 => (tokB ((set8_other hne0 v0 v1 v2 v3 v4 v5 v6 v7).trans (HX2.out.b1)))); clear hb))
  all_goals
    go_wp2_with fail
    rw [HX.out.1]
    refine bodyPost_ret (results_cell_row rfl _ _ w.heap.size 27 _ (0, 0) _ rfl (put8_heap (x := unNV 15 t w9.heap.size) HX2.out.b2) underlying27 rfl (by kernel_rfl)) rfl ⟨stay_put8 HX2.out.st hp (Nat.le_refl _) (unNV 15 t w9.heap.size), ps_put8 HX2.out.ps hp (unNV 15 t w9.heap.size), _, rfl, unNV 15 t w9.heap.size, rfl, ?_⟩
    exact ((ndV_one HX2.out.n0 HX2.out.b0 (by have := HX.out.2.sz; omega) (unNV 15 t w9.heap.size) [] [] ⟨rfl, rfl⟩ ⟨rfl, Nat.zero_le _, 0, .inl rfl⟩ ⟨rfl, Nat.zero_le _, .inl rfl⟩).put8 (Nat.lt_succ_self _) (unNV 15 t w9.heap.size)).lower (Nat.le_succ _)
end Go.Proofs.YtlhmofphpfdjlaaGreatDoor
