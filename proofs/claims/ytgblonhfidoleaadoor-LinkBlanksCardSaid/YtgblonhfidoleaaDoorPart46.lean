/- Part. -/
import Derived.Test.YtgblonhfidoleaaDoorPart45
set_option maxRecDepth 100000
set_option maxHeartbeats 4000000
/- The fourth turn: where a program begins. -/
namespace Go.Proofs.YtgblonhfidoleaaDoor
open Go.Proofs.Tryd
open Go.RowKit Go.Maps
abbrev mainS : ByteArray := ⟨#[109, 97, 105, 110]⟩
/-- What the fourth turn leaves. -/
def MainR (kb nb : Nat) (L : L1) (r : Rw) (vS : Value) (w w' : World) (R : (Nat × Nat) ⊕ Dg) : Prop := match R with
  | .inr d => ∃ vD, Q4 kb nb L r vS (.string ⟨#[]⟩) (.int .i64 0) (.int .i64 0) w w' vD [d]
  | .inl (m, i) => w'.heap[kb]? = some (vwO nb L r vS (.string mainS) (.int .i64 m) (.int .i64 i) (.slice none 0 0)) /\ Stay kb w w'
theorem main_c (lo kb nb : Nat) (L : L1) (r : Rw) (w : World) (vS : Value) (hV : Vw lo kb nb w L r) (hb : w.heap[kb]? = some (vwO nb L r vS (.string ⟨#[]⟩) (.int .i64 0) (.int .i64 0) (.slice none 0 0))) :
    Calls prog 15 #[.pointer (some ⟨kb, 0, none⟩)] w fun e w' => e = .returned (.tuple #[]) /\ MainR kb nb L r vS w w' (mainV L.num L.mods) := by
  have HV := hideP hV
  have HB := hideP hb
  have HQ0 : Hid (Q4 kb nb L r vS (.string ⟨#[]⟩) (.int .i64 0) (.int .i64 0) w w (.slice none 0 0) []) := ⟨Stay.refl _ _, hb, World.ownsRow_nil _ _ _ _, lt_of_block hb, fun _ => rfl⟩
  obtain ⟨⟨p0, p1, p2, p3, p4, p5, p6, p7, p8⟩, hfr, hkl⟩ := box9 hb
  have hmS : mainS.size <= maxLen := by unfold maxLen; decide
  have hml := hV.ml
  have hzm : ((L.mods.length : Int) <= 9223372036854775807) := by omega
  have HN0 := hideP hV.num
  obtain ⟨R, hR⟩ : ∃ R, R = mainV L.num L.mods := ⟨_, rfl⟩
  rw [<- hR]
  unfold mainV at hR
  clear hV hb p0 p2 p8
  cases hk : look L.num mainB with
  | none =>
    have HL : Hid (look L.num mainS.data.toList = none) := hk
    rw [hk] at hR
    have HR := hideP hR
    clear hR hk
    go_enter func15, ntmps15
    go_wp2_with (first
      | (at_lookup; refine wpList_num_look rfl _ _ rfl nb L.num rfl HN0.out mainS rfl hmS none HL.out ?_)
      | fail)
    refine (tell4 HQ0.out ⟨0, 1, 1, 14⟩ (by simp)).mono ?_
    rintro e w2 ⟨rfl, vD, h2, _⟩
    have H2 := hideP h2
    clear h2
    go_wp2_with fail
    refine bodyPost_ret (results_none rfl _ _ _) rfl ⟨rfl, ?_⟩
    rw [HR.out]
    exact ⟨vD, H2.out⟩
  | some m =>
    have HL : Hid (look L.num mainS.data.toList = some m) := hk
    rw [hk] at hR
    have hml2 := HV.out.num_lt hk
    have hmd : L.mods.getD m noMo = L.mods[m] := by rw [List.getD_eq_getElem?_getD, List.getElem?_eq_getElem hml2, Option.getD_some]
    simp only [hmd] at hR
    obtain ⟨gF, fbk, haF, hgF1, hgF2, hcF, hfb1, hnF⟩ := HV.out.fst hml2
    obtain ⟨gM, x, haM, hgM1, hgM2, hcM0, hcM1, hMo⟩ := HV.out.mod hml2
    obtain ⟨o, ho⟩ : ∃ o, o = L.mods[m] := ⟨_, rfl⟩
    rw [<- ho] at hnF hMo hR
    have HNF := hideP hnF
    rw [haF] at p7
    rw [haM] at p1
    have hmi : (m : Int) < (L.mods.length : Int) := by omega
    clear hk hmd ho hnF
    cases hk2 : look (firsts o) mainB with
    | none =>
      have HL2 : Hid (look (firsts o) mainS.data.toList = none) := hk2
      rw [hk2] at hR
      have HR := hideP hR
      clear hR hk2
      go_enter func15, ntmps15
      go_wp2_with (first
        | (at_lookup; refine wpList_num_look rfl (.tmp 10) _ rfl nb L.num rfl HN0.out mainS rfl hmS (some m) HL.out ?_)
        | (at_lookup; refine wpList_num_look rfl (.tmp 25) _ rfl fbk (firsts o) rfl HNF.out mainS rfl hmS none HL2.out ?_)
        | fail)
      refine (tell4 HQ0.out ⟨m, 1, 1, 14⟩ (by simp)).mono ?_
      rintro e w2 ⟨rfl, vD, h2, _⟩
      have H2 := hideP h2
      clear h2
      go_wp2_with fail
      refine bodyPost_ret (results_none rfl _ _ _) rfl ⟨rfl, ?_⟩
      rw [HR.out]
      exact ⟨vD, H2.out⟩
    | some i =>
      have HL2 : Hid (look (firsts o) mainS.data.toList = some i) := hk2
      rw [hk2] at hR
      have hil := first_lt hk2
      have hdd : o.ds.getD i noDec = o.ds[i] := by rw [List.getD_eq_getElem?_getD, List.getElem?_eq_getElem hil, Option.getD_some]
      simp only [hdd] at hR
      obtain ⟨_, hdl, _, hdl2, _, hrd⟩ := hMo
      obtain ⟨gd, hda, hgd1, hgd2, c, _, hcd, y, hxd, hvs⟩ := rowQ_at hrd hil
      subst hxd
      rw [hda, hdl] at hcM1
      obtain ⟨d, hd⟩ : ∃ d, d = o.ds[i] := ⟨_, rfl⟩
      rw [<- hd] at hcd hR hvs
      have t0 : w.cell? ⟨gd, i * 15, none⟩ = some (.string ⟨d.nm.toArray⟩) := hcd 0 (by omega)
      have t1 : w.cell? ⟨gd, i * 15 + 1, none⟩ = some (.bool d.ex) := hcd 1 (by omega)
      have t2 : w.cell? ⟨gd, i * 15 + 2, none⟩ = some (.slice y.va d.vs y.vc) := hcd 2 (by omega)
      have t3 : w.cell? ⟨gd, i * 15 + 3, none⟩ = some (.string y.pm) := hcd 3 (by omega)
      have t4 : w.cell? ⟨gd, i * 15 + 4, none⟩ = some (.slice y.ta 2 y.tc) := hcd 4 (by omega)
      have t5 : w.cell? ⟨gd, i * 15 + 5, none⟩ = some (.int .i64 y.k) := hcd 5 (by omega)
      have t6 : w.cell? ⟨gd, i * 15 + 6, none⟩ = some (.string y.tx) := hcd 6 (by omega)
      have t7 : w.cell? ⟨gd, i * 15 + 7, none⟩ = some (.int .i64 y.n) := hcd 7 (by omega)
      have t8 : w.cell? ⟨gd, i * 15 + 8, none⟩ = some (.int .i64 y.a) := hcd 8 (by omega)
      have t9 : w.cell? ⟨gd, i * 15 + 9, none⟩ = some (.int .i64 y.b) := hcd 9 (by omega)
      have t10 : w.cell? ⟨gd, i * 15 + 10, none⟩ = some (.slice y.xa y.xl y.xc) := hcd 10 (by omega)
      have t11 : w.cell? ⟨gd, i * 15 + 11, none⟩ = some (.slice y.ya y.yl y.yc) := hcd 11 (by omega)
      have t12 : w.cell? ⟨gd, i * 15 + 12, none⟩ = some (.slice y.za y.zl y.zc) := hcd 12 (by omega)
      have t13 : w.cell? ⟨gd, i * 15 + 13, none⟩ = some (.int .i64 d.li) := hcd 13 (by omega)
      have t14 : w.cell? ⟨gd, i * 15 + 14, none⟩ = some (.int .i64 d.co) := hcd 14 (by omega)
      have hii : (i : Int) < (o.ds.length : Int) := by omega
      have hdz : ((o.ds.length : Int) <= 9223372036854775807) := by omega
      have hvz : ((d.vs : Int) <= 9223372036854775807) := by omega
      clear hk2 hcd hrd hd hdd
      by_cases hv : 0 < d.vs
      · rw [if_pos hv] at hR
        have HR := hideP hR
        have hv' : (0 : Int) < (d.vs : Int) := by omega
        have HQ1 := hideP (HQ0.out.below (bl_alloc w (decO y d)))
        clear hR
        go_enter func15, ntmps15
        go_wp2_with (first
          | (at_lookup; refine wpList_num_look rfl (.tmp 10) _ rfl nb L.num rfl HN0.out mainS rfl hmS (some m) HL.out ?_)
          | (at_lookup; refine wpList_num_look rfl (.tmp 25) _ rfl fbk (firsts o) rfl HNF.out mainS rfl hmS (some i) HL2.out ?_)
          | fail)
        refine (tell4 HQ1.out ⟨m, d.li, d.co, 14⟩ (by simp)).mono ?_
        rintro e w2 ⟨rfl, vD, h2, _⟩
        have H2 := hideP h2
        clear h2
        go_wp2_with fail
        refine bodyPost_ret (results_none rfl _ _ _) rfl ⟨rfl, ?_⟩
        rw [HR.out]
        exact ⟨vD, H2.out⟩
      · rw [if_neg hv] at hR
        have HR := hideP hR
        have hv' : ¬ (0 : Int) < (d.vs : Int) := by omega
        have HQ1 := hideP (HQ0.out.below (bl_alloc w (decO y d)))
        obtain ⟨⟨_, _, _, a3, a4, a5, _⟩, hfa, hka⟩ := box9 HQ1.out.box
        have f3 := hfa 3
        have f4 := hfa 4
        have f5 := hfa 5
        clear hR hfa
        go_enter func15, ntmps15
        go_wp2_with (first
          | (at_lookup; refine wpList_num_look rfl (.tmp 10) _ rfl nb L.num rfl HN0.out mainS rfl hmS (some m) HL.out ?_)
          | (at_lookup; refine wpList_num_look rfl (.tmp 25) _ rfl fbk (firsts o) rfl HNF.out mainS rfl hmS (some i) HL2.out ?_)
          | fail)
        refine bodyPost_end (results_none rfl _ _ _) rfl ⟨rfl, ?_⟩
        rw [HR.out]
        show _ /\ _
        refine ⟨?_, ?_⟩
        · have := cells_setCell (o := 5) (u := .int .i64 i) (cells_setCell (o := 4) (u := .int .i64 m) (cells_setCell (o := 3) (u := .string mainS) HB.out))
          refine (Below.heap_alloc _ _ _ (by rw [size_set, size_set, size_set]; exact hkl)).trans ?_
          simpa using this
        · exact ((((Stay.refl kb w).set 3 _).set 4 _).set 5 _).alloc hkl _
end Go.Proofs.YtgblonhfidoleaaDoor
/- link.Link. -/
namespace Go.Proofs.YtgblonhfidoleaaDoor
open Go.Proofs.Tryd
open Go.RowKit Go.Maps
/-- What link.Link answers, in memory from block lo on. -/
structure LkAt (lo : Nat) (w : World) (x : Lk) (r : Rw) (aS : Option Addr) (cS : Nat) (vs : List Value) : Prop where
  rN : RowQ StrS 1 lo w r.aN x.names
  rM : RowQ ModS 2 lo w r.aM x.mods
  rS : w.ownsRow lo 41 1 (.slice aS x.scopes.length cS) x.scopes.length vs
  rE : ∀ i (h1 : i < vs.length) (h2 : i < x.scopes.length), w.ownsRow lo 29 3 vs[i] x.scopes[i].length (x.scopes[i].flatMap enC)
  good : ∀ o ∈ x.mods, GoodM o
  ml : x.mods.length <= 16
abbrev lkV (x : Lk) (r : Rw) (aS : Option Addr) (cS : Nat) : Value := .agg #[.slice r.aN x.names.length r.cN, .slice r.aM x.mods.length r.cM, .slice aS x.scopes.length cS, .string mainS, .int .i64 x.main.1, .int .i64 x.main.2]
abbrev lkZ : Value := .agg #[.slice none 0 0, .slice none 0 0, .slice none 0 0, .string ⟨#[]⟩, .int .i64 0, .int .i64 0]
def LinkP (w : World) (R : Lk ⊕ List Dg) (e : Ending) (w' : World) : Prop := Below w.heap.size w w' /\ match R with
  | .inl x => ∃ r aS cS vs, e = .returned (.tuple #[lkV x r aS cS, .slice none 0 0]) /\ LkAt w.heap.size w' x r aS cS vs
  | .inr ds => ∃ vD, e = .returned (.tuple #[lkZ, vD]) /\ w'.ownsRow w.heap.size 37 4 vD ds.length (ds.flatMap dgC)
theorem flat_one {α β : Type} (f : α -> β) : ∀ l : List α, (l.map fun x => [f x]).flatten = l.map f
  | [] => rfl
  | x :: l => by simp [flat_one f l]
/-- What was read, when nothing is wrong. -/
theorem vw_of {lo kb nb : Nat} {w : World} {L : L1} {vN vM vF vD : Value} {xs : List MV} {fb : List Nat} (h : P1 lo kb nb w L vN vM vF vD xs fb) (hf : fb.length = L.mods.length) (hd : L.ds = []) (hv : ∀ p ∈ L.num, p.2 < L.mods.length) (hm : L.mods.length <= 16) : ∃ r, Vw lo kb nb w L r /\ w.heap[kb]? = some (vwO nb L r (.slice none 0 0) (.string ⟨#[]⟩) (.int .i64 0) (.int .i64 0) (.slice none 0 0)) := by
  obtain ⟨aN, cN, rfl⟩ := row_shape h.rN
  obtain ⟨aM, cM, rfl⟩ := row_shape h.rM
  obtain ⟨aF, cF, rfl⟩ := row_shape h.rF
  have hb := h.box
  rw [h.nil hd, hf] at hb
  refine ⟨⟨aN, cN, aM, cM, aF, cF⟩, ⟨h.num, ?_, ?_, ?_, h.good, hv, hm, h.lt1, h.lt2, h.lt3⟩, hb⟩
  · refine rowQ_own (et := 9) (cap := cN) (n := L.names.length) (cs := L.names.map fun s => [strV' s]) ?_ rfl (by simp) (by simp) fun i h1 h2 => by simp [StrS]
    rw [flat_one]
    exact h.rN
  · refine rowQ_own (et := 45) (cap := cM) (n := L.mods.length) (cs := xs.map mvC) ?_ rfl (by simp [h.xl]) (by simp) fun i h1 h2 => ?_
    · rw [<- List.flatMap_def]
      exact h.rM
    · rw [List.getElem_map]
      exact (h.mods i (by simpa using h1) h2).now modS_k
  · refine rowQ_own (et := 55) (cap := cF) (n := fb.length) (cs := fb.map fun b => [.map (some b)]) ?_ hf (by simp [hf]) (by simp) fun i h1 h2 => ?_
    · rw [flat_one]
      exact h.rF
    · rw [List.getElem_map]
      obtain ⟨h3, h4⟩ := h.fst i (by simpa using h1) h2
      exact ⟨_, rfl, h3, h4⟩
/-- The numbers of modules. -/
theorem lread_num (m : Nat) (a b : Bs) (s : L1) (h1 : s.ds = [] -> s.mods.length = m /\ ∀ p ∈ s.num, p.2 < m) : (lreadV m a b s).ds = [] -> (lreadV m a b s).mods.length = m + 1 /\ ∀ p ∈ (lreadV m a b s).num, p.2 < m + 1 := by
  unfold lreadV
  split
  · intro h; simp at h
  · split
    · intro h; simp at h
    · split
      · intro h; simp at h
      · intro h
        obtain ⟨h3, h4⟩ := h1 h
        refine ⟨by simp [h3], fun p hp => ?_⟩
        rcases List.mem_cons.1 hp with rfl | hp
        · show m < m + 1
          omega
        · have := h4 p hp
          omega
theorem lread_ds (m : Nat) (a b : Bs) (s : L1) (h : (lreadV m a b s).ds = []) : s.ds = [] := by
  revert h
  unfold lreadV
  split
  · intro h; simp at h
  · split
    · intro h; simp at h
    · split
      · intro h; simp at h
      · exact id
theorem readFrom_num : ∀ (l : List (Bs × Bs)) (m : Nat) (s : L1), (s.ds = [] -> s.mods.length = m /\ ∀ p ∈ s.num, p.2 < m) -> (readFrom m l s).ds = [] -> (readFrom m l s).mods.length = m + l.length /\ ∀ p ∈ (readFrom m l s).num, p.2 < m + l.length
  | [], m, s, h, hd => h hd
  | x :: l, m, s, h, hd => by
    have := readFrom_num l (m + 1) (lreadV m x.1 x.2 s) (fun he => ?_) hd
    · simp only [readFrom, List.length_cons]
      rw [show m + (l.length + 1) = m + 1 + l.length by omega]
      exact this
    · exact lread_num m x.1 x.2 s h he
theorem readAll_num {l : List (Bs × Bs)} (h : (readAllV l).ds = []) : (readAllV l).mods.length = l.length /\ l.length <= 16 /\ ∀ p ∈ (readAllV l).num, p.2 < l.length := by
  unfold readAllV at h ⊢
  by_cases h16 : 16 < l.length
  · rw [if_pos h16] at h
    cases h
  · rw [if_neg h16] at h ⊢
    have := readFrom_num l 0 L0 (fun _ => ⟨rfl, fun _ h => nomatch h⟩) h
    rw [Nat.zero_add] at this
    exact ⟨this.1, by omega, this.2⟩
/-- The first turn's closure. -/
theorem turn1_c (lo kb nb pb b0 : Nat) (a : Option Addr) (cap : Nat) (l : List Src) (vN vM vF vD : Value) (w : World) (hP : P1 lo kb nb w L0 vN vM vF vD [] []) (hw : Lx.Words w) (hv : 0 < nb) (hs : SrcAt nb w a l) (hl : l.length <= 1000) (hz : ∀ p ∈ l, p.1.size <= 140737488351232 /\ p.2.size <= 140737488351232)
    (h1 : w.cell? ⟨pb, 0, none⟩ = some (.pointer (some ⟨kb, 0, none⟩))) (h2 : w.cell? ⟨b0, 0, none⟩ = some (.slice a l.length cap)) :
    Calls prog 11 #[.pointer (some ⟨pb, 0, none⟩), .pointer (some ⟨b0, 0, none⟩)] w (ReadP lo kb nb w (readAllV (srcs l))) := by
  have HC := hideP (readAll_c lo kb nb a cap l vN vM vF vD w hP hw hv hs hl hz)
  clear hP hw hv hs hz
  go_enter func11, ntmps11
  go_wp2_with fail
  refine HC.out.mono ?_
  rintro e w2 ⟨rfl, h3, h4⟩
  have H3 := hideP h3
  have H4 := hideP h4
  clear h3 h4
  go_wp2_with fail
  exact bodyPost_end (results_none rfl _ _ _) rfl ⟨rfl, H3.out, H4.out⟩
end Go.Proofs.YtgblonhfidoleaaDoor
/- link.Link: the whole. -/
namespace Go.Proofs.YtgblonhfidoleaaDoor
open Go.Proofs.Tryd
open Go.RowKit Go.Maps
theorem results_ct6 {fn : Func} {p q : Tmp} {ty : TypeId} (h : fn.results = #[.cell p ty, .tmp q]) (tmps : Array Value) {P : Program} {w : World} {g : Nat} {t : TypeId} {cs : Array Value} {fs : Array Field} {v : Value}
    (hp : tmps.getD p undef = .pointer (some ⟨g, 0, none⟩)) (hg : w.heap[g]? = some (.cells cs t)) (hu : P.underlying ty = some (.struct fs)) (hi : (P.info? ty).map (·.size) = some cs.size) (hq : tmps.getD q undef = v) :
    (results fn tmps).run P w = .ok (.tuple #[.agg cs, v]) w := by
  have e1 : tmps[p]?.getD undef = .pointer (some ⟨g, 0, none⟩) := by simpa using hp
  have e2 : tmps[q]?.getD undef = v := by simpa using hq
  simp [results, h, e1, e2, asAddr, run_loadVar_row w g t ty cs (0, 0) _ hg hu rfl hi]
abbrev put6l (w : World) (b : Nat) (x0 x1 x2 x3 x4 x5 : Value) : World := (((((w.setCell ⟨b, 0, none⟩ x0).setCell ⟨b, 1, none⟩ x1).setCell ⟨b, 2, none⟩ x2).setCell ⟨b, 3, none⟩ x3).setCell ⟨b, 4, none⟩ x4).setCell ⟨b, 5, none⟩ x5
abbrev obj6 (x0 x1 x2 x3 x4 x5 : Value) : Obj := .cells #[x0, x1, x2, x3, x4, x5] 31
theorem put6_obj {w : World} {b : Nat} {y0 y1 y2 y3 y4 y5 : Value} (h : w.heap[b]? = some (obj6 y0 y1 y2 y3 y4 y5)) (x0 x1 x2 x3 x4 x5 : Value) : (put6l w b x0 x1 x2 x3 x4 x5).heap[b]? = some (obj6 x0 x1 x2 x3 x4 x5) := by
  have := cells_setCell (o := 5) (u := x5) (cells_setCell (o := 4) (u := x4) (cells_setCell (o := 3) (u := x3) (cells_setCell (o := 2) (u := x2) (cells_setCell (o := 1) (u := x1) (cells_setCell (o := 0) (u := x0) h)))))
  simpa using this
theorem put6_chg (w : World) (b : Nat) (x0 x1 x2 x3 x4 x5 : Value) : Chg b (fun q => q = b) w (put6l w b x0 x1 x2 x3 x4 x5) :=
  (((((Chg.refl b (fun q => q = b) w).set (Nat.le_refl _) (fun _ => rfl) 0 _).set (Nat.le_refl _) (fun _ => rfl) 1 _).set (Nat.le_refl _) (fun _ => rfl) 2 _).set (Nat.le_refl _) (fun _ => rfl) 3 _).set (Nat.le_refl _) (fun _ => rfl) 4 _ |>.set (Nat.le_refl _) (fun _ => rfl) 5 _
theorem box6l {W : World} {b : Nat} {c0 c1 c2 c3 c4 c5 : Value} {t : TypeId} (h : W.heap[b]? = some (.cells #[c0, c1, c2, c3, c4, c5] t)) :
    (W.cell? ⟨b, 0, none⟩ = some c0 /\ W.cell? ⟨b, 1, none⟩ = some c1 /\ W.cell? ⟨b, 2, none⟩ = some c2 /\ W.cell? ⟨b, 3, none⟩ = some c3 /\ W.cell? ⟨b, 4, none⟩ = some c4 /\ W.cell? ⟨b, 5, none⟩ = some c5) /\
    (∀ o, W.frozen? ⟨b, o, none⟩ = false) /\ b < W.heap.size := by
  refine ⟨⟨?_, ?_, ?_, ?_, ?_, ?_⟩, fun o => by simp [World.frozen?, h], lt_of_block h⟩ <;> simp [World.cell?, h]
abbrev fn1 (q : Nat) : Value := .func (.func 11) #[] #[.pointer (some ⟨q + 4, 0, none⟩), .pointer (some ⟨q, 0, none⟩)]
abbrev fnK (f q : Nat) : Value := .func (.func f) #[.pointer (some ⟨q + 3, 0, none⟩)] #[]
abbrev turnsO (q : Nat) : Obj := .cells #[fn1 q, fnK 13 q, fnK 14 q, fnK 15 q] 1
abbrev z6 : Obj := obj6 (.slice none 0 0) (.slice none 0 0) (.slice none 0 0) (.string ⟨#[]⟩) (.int .i64 0) (.int .i64 0)
/-- What link.Link keeps beside the linker; q: where its blocks begin. -/
structure Aux (q : Nat) (a : Option Addr) (n cap : Nat) (w wr : World) : Prop where
  bl : Below q w wr
  o0 : wr.heap[q]? = some (.cells #[.slice a n cap] 22)
  o1 : wr.heap[q + 1]? = some z6
  o4 : wr.heap[q + 4]? = some (.cells #[.pointer (some ⟨q + 3, 0, none⟩)] 54)
  o5 : wr.heap[q + 5]? = some (turnsO q)
theorem Aux.kp {q n cap : Nat} {a : Option Addr} {w wr w' : World} (h : Aux q a n cap w wr) (k : Kp (q + 2) (q + 3) (q + 6) wr w') : Aux q a n cap w w' :=
  ⟨h.bl.trans (k.below.mono (by omega)), (k.below.block _ (by omega)).trans h.o0, (k.below.block _ (by omega)).trans h.o1, (k.mid _ (by omega) (by omega)).trans h.o4, (k.mid _ (by omega) (by omega)).trans h.o5⟩
theorem Aux.stay {q n cap : Nat} {a : Option Addr} {w wr w' : World} (h : Aux q a n cap w wr) (k : Stay (q + 3) wr w') : Aux q a n cap w w' :=
  ⟨h.bl.trans (k.below.mono (by omega)), (k.below.block _ (by omega)).trans h.o0, (k.below.block _ (by omega)).trans h.o1, (k.keep _ (by omega) (lt_of_block h.o4)).trans h.o4, (k.keep _ (by omega) (lt_of_block h.o5)).trans h.o5⟩
/-- The scopes, between the later turns. -/
structure ScsAt (q : Nat) (wr : World) (vS : Value) (vs : List Value) (ess : List (List En)) : Prop where
  rS : wr.ownsRow q 41 1 vS ess.length vs
  rE : ∀ i (h1 : i < vs.length) (h2 : i < ess.length), wr.ownsRow q 29 3 vs[i] ess[i].length (ess[i].flatMap enC)
theorem ScsAt.stay {q kb : Nat} {w w' : World} {vS : Value} {vs : List Value} {ess : List (List En)} (h : ScsAt q w vS vs ess) (k : Stay kb w w') (hk : kb < q) : ScsAt q w' vS vs ess := by
  have hc : Chg kb (fun b => b = kb) w w' := ⟨k.below, fun b hb hn => by
    by_cases h1 : b < kb
    · exact k.below.block b h1
    · exact k.keep b (by omega) hb⟩
  exact ⟨hc.row h.rS fun b hb e => by have := (h.rS.lt b hb).1; omega, fun i h1 h2 => hc.row (h.rE i h1 h2) fun b hb e => by have := ((h.rE i h1 h2).lt b hb).1; omega⟩
theorem scs_of {kb nb : Nat} {L : L1} {r : Rw} {w0 w : World} {vS vD : Value} {vs : List Value} {ess : List (List En)} {ds : List Dg} (h : Q3 kb nb L r w0 w vS vD vs ess ds) {q : Nat} (hq : q <= w0.heap.size) : ScsAt q w vS vs ess :=
  ⟨row_base h.rS hq, fun i h1 h2 => row_base (h.rE i h1 h2) hq⟩
/-- A row without elements that was never begun. -/
theorem nil_row {w : World} {b e k : Nat} {v : Value} {xs : List Value} (h : w.ownsRow b e k v 0 xs) : v.ownBlock = none -> v = .slice none 0 0 := by
  intro e
  rcases h.2 with ⟨h, _⟩ | ⟨g, cap, cur, h, _⟩
  · exact h
  · rw [h] at e
    cases e
/-- Where link.Link stands between two turns. -/
def Turn (q : Nat) (l : List Src) (k : Nat) (wr : World) : Prop :=
  (k = 0 /\ P1 (q + 6) (q + 3) (q + 2) wr L0 (.slice none 0 0) (.slice none 0 0) (.slice none 0 0) (.slice none 0 0) [] []) ∨
  ∃ r, Vw (q + 6) (q + 3) (q + 2) wr (readAllV (srcs l)) r /\ (readAllV (srcs l)).ds = [] /\
    ((k = 1 /\ wr.heap[q + 3]? = some (vwO (q + 2) (readAllV (srcs l)) r (.slice none 0 0) (.string ⟨#[]⟩) (.int .i64 0) (.int .i64 0) (.slice none 0 0))) ∨
     ∃ vS vs, ScsAt (q + 6) wr vS vs (scopesV (readAllV (srcs l)).num (readAllV (srcs l)).mods 0 (readAllV (srcs l)).mods [] []).1 /\ (scopesV (readAllV (srcs l)).num (readAllV (srcs l)).mods 0 (readAllV (srcs l)).mods [] []).2 = [] /\
      ((k = 2 /\ wr.heap[q + 3]? = some (vwO (q + 2) (readAllV (srcs l)) r vS (.string ⟨#[]⟩) (.int .i64 0) (.int .i64 0) (.slice none 0 0))) ∨
       (cyclesV (readAllV (srcs l)).num (reachV (directsV (readAllV (srcs l)).num (readAllV (srcs l)).mods)) 0 (readAllV (srcs l)).mods [] = [] /\
        ((k = 3 /\ wr.heap[q + 3]? = some (vwO (q + 2) (readAllV (srcs l)) r vS (.string ⟨#[]⟩) (.int .i64 0) (.int .i64 0) (.slice none 0 0))) ∨
         ∃ m i, k = 4 /\ mainV (readAllV (srcs l)).num (readAllV (srcs l)).mods = .inl (m, i) /\ wr.heap[q + 3]? = some (vwO (q + 2) (readAllV (srcs l)) r vS (.string mainS) (.int .i64 m) (.int .i64 i) (.slice none 0 0))))))
end Go.Proofs.YtgblonhfidoleaaDoor
