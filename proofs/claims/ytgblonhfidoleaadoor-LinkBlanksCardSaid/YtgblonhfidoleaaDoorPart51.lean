/- Part. -/
import Derived.Test.YtgblonhfidoleaaDoorPart48
set_option maxRecDepth 100000
set_option maxHeartbeats 4000000
/- LinkScopes: the walk. -/
namespace Go.Proofs.YtgblonhfidoleaaDoor
open Go.Proofs.Tryd
open Go.RowKit Go.Maps
theorem flat_en : ∀ (es : List En) (i : Nat) (hi : i < es.length) (j : Nat), j < 3 -> (es.flatMap enC)[i * 3 + j]? = (enC es[i])[j]? := fun es i hi j hj => by
  have := cells_flatK (k := 3) (es.map enC) (by intro c hc; obtain ⟨d, _, rfl⟩ := List.mem_map.1 hc; rfl) i (by simpa using hi) j hj
  rw [<- List.flatMap_def, List.getElem_map] at this
  exact this
/-- The entries of a scope that was answered. -/
theorem sc_row {lo : Nat} {w : World} {x : Lk} {r : Rw} {aS : Option Addr} {cS : Nat} {vs : List Value} (h : LkAt lo w x r aS cS vs) {i : Nat} (hi : i < x.scopes.length) : ∃ gS a c, aS = some ⟨gS, 0, none⟩ /\ gS < w.heap.size /\ w.cell? ⟨gS, i, none⟩ = some (.slice a x.scopes[i].length c) /\ ∀ k, k < x.scopes[i].length -> ∃ g, a = some ⟨g, 0, none⟩ /\ g < w.heap.size /\ ∀ j, j < 3 -> w.cell? ⟨g, k * 3 + j, none⟩ = (enC (x.scopes[i].getD k ⟨[], 0, 0⟩))[j]? := by
  have hvl : vs.length = x.scopes.length := by have := h.rS.1; omega
  obtain ⟨gS, e, _, hg, hc⟩ := row_some h.rS (by omega)
  have hr := h.rE i (by omega) hi
  obtain ⟨a, c, ev⟩ := row_shape hr
  have hcell : w.cell? ⟨gS, i, none⟩ = some (.slice a x.scopes[i].length c) := by
    rw [hc i (by omega), List.getElem?_eq_getElem (by omega : i < vs.length), ev]
  refine ⟨gS, a, c, e, hg, hcell, fun k hk => ?_⟩
  rw [ev] at hr
  obtain ⟨g, e2, _, hg2, hc2⟩ := row_some hr (by omega)
  refine ⟨g, e2, hg2, fun j hj => ?_⟩
  rw [hc2 _ (by omega), flat_en _ k hk j hj, List.getD_eq_getElem?_getD, List.getElem?_eq_getElem hk, Option.getD_some]
theorem linkScopes_walk (a : Option Addr) (cap : Nat) (l : List Src) (w : World) (hw : Lx.Words w) (hs : SrcAt w.heap.size w a l /\ (∀ p ∈ l, p.1.size <= 140737488351232 /\ p.2.size <= 140737488351232) /\ (l.length : Int) <= 9223372036854775807) :
    Calls prog 5 #[.slice a l.length cap] w fun e w' => e = .returned (.bool true) /\ Below w.heap.size w w' := by
  have HW := hideP hw
  have HS := hideP hs.1
  have HZ := hideP hs.2.1
  have hl := hs.2.2
  have HA := hideP (awake7_c w hw)
  clear hw hs
  go_enter func5, ntmps5
  go_wp2_with fail
  refine HA.out.mono ?_
  rintro e w1 ⟨rfl, hb1⟩
  have HB1 := hideP hb1
  have HS1 := hideP (HS.out.below hb1)
  clear hb1 HA
  go_wp2_with fail
  refine (few_c _ a cap l w1 HS1.out hl HZ.out).mono ?_
  rintro e w1' ⟨rfl, b, rfl, hb20⟩
  cases b with
  | false =>
    clear hb20
    go_wp2_with fail
    go_ret
    exact ⟨rfl, HB1.out⟩
  | true =>
    have h20 := hb20 rfl
    clear hb20
    go_wp2_with fail
    refine (link_c a cap l _ (HW.out.below HB1.out) (HS1.out.mono HB1.out.size) (by omega) HZ.out).mono ?_
    intro e w2 hpost
    obtain ⟨hb2, hm⟩ := hpost
    cases hR : linkV (srcs l) with
    | inr ds =>
      rw [hR] at hm
      obtain ⟨vD, rfl, hrow⟩ := hm
      have HB2 : Hid (∀ o, Below w.heap.size w (w2.alloc o)) := fun o => below_next (below_next HB1.out hb2) (bl_alloc w2 o)
      obtain ⟨aD, cD, rfl⟩ := row_shape hrow
      have hdl : ds.length <= 9223372036854775807 := by
        rcases hrow.2 with ⟨_, e⟩ | ⟨g, c, cur, e, _, _, h1, h2, _⟩
        · omega
        · unfold maxLen at h2
          omega
      have hdz : ((ds.length : Int) <= 9223372036854775807) := by omega
      have hne : ds ≠ [] := by
        intro e
        subst e
        have := link_nonempty hR
        exact this rfl
      have hn0 : (0 : Int) < (ds.length : Int) := by have := List.length_pos_iff.2 hne; omega
      clear hR hb2 hrow
      go_wp2_with fail
      go_ret
      exact ⟨rfl, HB2.out _⟩
    | inl x =>
      rw [hR] at hm
      obtain ⟨r, aS, cS, vs, rfl, hL⟩ := hm
      have HOk := hideP (link_ok hR)
      have HL := hideP hL
      obtain ⟨pb, hpb⟩ : ∃ pb, pb = w2.heap.size := ⟨_, rfl⟩
      obtain ⟨ob, hob⟩ : ∃ ob, ob = obj6 (.slice r.aN x.names.length r.cN) (.slice r.aM x.mods.length r.cM) (.slice aS x.scopes.length cS) (.string mainS) (.int .i64 x.main.1) (.int .i64 x.main.2) := ⟨_, rfl⟩
      have HB2 := hideP (below_next HB1.out hb2)
      have HB3 : Hid (Below w2.heap.size w2 (w2.alloc ob)) := bl_alloc w2 _
      have HO3 : Hid ((w2.alloc ob).heap[pb]? = some ob) := by rw [hpb]; exact heap_alloc_last _ _
      have HOb := hideP hob
      have HPb := hideP hpb
      have hsl : x.scopes.length <= 16 := by have := HL.out.ml; have := HOk.out.sl; omega
      have hszz : ((x.scopes.length : Int) <= 9223372036854775807) := by omega
      have hmzz : ((x.mods.length : Int) <= 9223372036854775807) := by have := HL.out.ml; omega
      have hnzz : ((x.names.length : Int) <= 9223372036854775807) := by have := HL.out.ml; have := HOk.out.nl; omega
      clear hb2 hL hR hob hpb
      go_wp2_with fail
      have hw' := HOb.out
      unfold obj6 at hw'
      rw [<- hw', <- HPb.out]
      clear hw'
      go_loopw [7] (fun i wr => ∃ k : Nat, k <= x.scopes.length /\ i = .int .i64 k /\ Hid (Below w2.heap.size w2 wr) /\ Hid (wr.heap[pb]? = some ob)) (fun i _ => x.scopes.length - (intOf i).toNat)
      case atStart => exact ⟨0, by omega, rfl, HB3.out, HO3.out⟩
      case round =>
        obtain ⟨k, hk, rfl, HBr, HOr⟩ := hrel
        have ho := HOr.out
        rw [HOb.out] at ho
        obtain ⟨⟨c0, c1, c2, c3, c4, c5⟩, _, hpl⟩ := box6l ho
        clear ho
        by_cases hkl : k < x.scopes.length
        · have hkl' : (k : Int) < (x.scopes.length : Int) := by omega
          obtain ⟨gS, ai, ci, haS, hgS, hcell, hks⟩ := sc_row HL.out hkl
          subst haS
          have hel : x.scopes[k].length <= 9223372036854775807 := by
            have hvl : vs.length = x.scopes.length := by have := HL.out.rS.1; omega
            rcases (HL.out.rE k (by omega) hkl).2 with ⟨_, e⟩ | ⟨g, c, cur, e, _, _, h1, h2, _⟩
            · omega
            · unfold maxLen at h2
              omega
          have HSc := hideP (HOk.out.sc k hkl)
          obtain ⟨es, hes⟩ : ∃ es, es = x.scopes[k] := ⟨_, rfl⟩
          rw [<- hes] at hcell hks HSc hel
          have hezz : ((es.length : Int) <= 9223372036854775807) := by omega
          have HKs := hideP hks
          have HCe := hideP hcell
          have s0 : wr.cell? ⟨gS, k, none⟩ = some (.slice ai es.length ci) := (HBr.out.cell (p := ⟨gS, k, none⟩) hgS).trans hcell
          clear hes hcell hks
          go_wp2_with fail
          clear c0 c1 c2 c3 c4 c5 s0
          go_loopw [8] (fun i w4 => ∃ k2 : Nat, k2 <= es.length /\ i = .int .i64 k2 /\ Hid (Below w2.heap.size w2 w4) /\ Hid (w4.heap[pb]? = some ob)) (fun i _ => es.length - (intOf i).toNat)
          case atStart => exact ⟨0, by omega, rfl, HBr.out, HOr.out⟩
          case round =>
            obtain ⟨k2, hk2, rfl, HBs, HOs⟩ := hrel
            have ho := HOs.out
            rw [HOb.out] at ho
            obtain ⟨⟨c0, c1, c2, c3, c4, c5⟩, _, hpl⟩ := box6l ho
            clear ho
            have s0 : wr.cell? ⟨gS, k, none⟩ = some (.slice ai es.length ci) := (HBs.out.cell (p := ⟨gS, k, none⟩) hgS).trans HCe.out
            by_cases hk2l : k2 < es.length
            · have hk2l' : (k2 : Int) < (es.length : Int) := by omega
              obtain ⟨g, hai, hg, hce⟩ := HKs.out k2 hk2l
              subst hai
              have hgd0 : es.getD k2 ⟨[], 0, 0⟩ = es[k2] := by rw [List.getD_eq_getElem?_getD, List.getElem?_eq_getElem hk2l, Option.getD_some]
              rw [hgd0] at hce
              obtain ⟨hm1, hd1, hnm, hexp⟩ := HSc.out.1 es[k2] (List.getElem_mem hk2l)
              obtain ⟨gM, haM, _, hgM2, c, _, hcM, x', hx', hil, hdl, _, hdb, _, hrd⟩ := rowQ_at HL.out.rM hm1
              subst hx'
              obtain ⟨gd, hda, _, hgd2, c', _, hcd, y, hy, _⟩ := rowQ_at hrd hd1
              subst hy
              have hoth : ∀ n, n < k2 -> (es.getD n ⟨[], 0, 0⟩).nm ≠ es[k2].nm := fun n hn => by
                have hnl : n < es.length := by omega
                rw [List.getD_eq_getElem?_getD, List.getElem?_eq_getElem hnl, Option.getD_some]
                exact List.pairwise_iff_getElem.1 HSc.out.2 n k2 hnl hk2l hn
              have HOth := hideP hoth
              obtain ⟨d, hd⟩ : ∃ d, d = x.mods[es[k2].m].ds[es[k2].d] := ⟨_, rfl⟩
              rw [<- hd] at hcd hnm hexp
              have m1 : w2.cell? ⟨gM, es[k2].m * 2 + 1, none⟩ = some (.slice x'.da x'.dl x'.dc) := hcM 1 (by omega)
              rw [hda, hdl] at m1
              obtain ⟨dl, hdle⟩ : ∃ dl, dl = x.mods[es[k2].m].ds.length := ⟨_, rfl⟩
              rw [<- hdle] at m1 hd1 hdb
              obtain ⟨E, hE⟩ : ∃ E, E = es[k2] := ⟨_, rfl⟩
              rw [<- hE] at hce hm1 hd1 hnm hexp hcd m1 HOth
              obtain ⟨enm, em, ed⟩ := E
              simp only at hce hm1 hd1 hnm hexp hcd m1
              subst hnm
              have t0 : wr.cell? ⟨g, k2 * 3, none⟩ = some (.string ⟨d.nm.toArray⟩) := (HBs.out.cell (p := ⟨g, k2 * 3, none⟩) hg).trans (hce 0 (by omega))
              have t1 : wr.cell? ⟨g, k2 * 3 + 1, none⟩ = some (.int .i64 em) := (HBs.out.cell (p := ⟨g, k2 * 3 + 1, none⟩) hg).trans (hce 1 (by omega))
              have t2 : wr.cell? ⟨g, k2 * 3 + 2, none⟩ = some (.int .i64 ed) := (HBs.out.cell (p := ⟨g, k2 * 3 + 2, none⟩) hg).trans (hce 2 (by omega))
              have HCE := hideP hce
              have HCD := hideP hcd
              have HM1 := hideP m1
              have HEx := hideP hexp
              clear hce hcd m1 hexp hd hdle hE hoth hcM hrd hgd0
              go_wp2_with fail
              clear t0 t1 t2
              have hpw : pb < wr.heap.size := hpl
              obtain ⟨WA, hWA⟩ : ∃ WA, WA = wr.alloc (enO ⟨d.nm, em, ed⟩) := ⟨_, rfl⟩
              have hWs : WA.heap.size = wr.heap.size + 1 := by rw [hWA, World.size_alloc]
              have HBA : Hid (Below w2.heap.size w2 WA) := by rw [hWA]; exact below_next HBs.out (bl_alloc wr _)
              have HOA : Hid (WA.heap[pb]? = some ob) := by rw [hWA]; exact (Below.heap_alloc _ _ _ hpw).trans HOs.out
              have HEA : Hid (WA.heap[wr.heap.size]? = some (enO ⟨d.nm, em, ed⟩)) := by rw [hWA]; exact heap_alloc_last _ _
              obtain ⟨eb, heb⟩ : ∃ eb, eb = wr.heap.size := ⟨_, rfl⟩
              rw [<- hWA, <- heb]
              rw [<- heb] at HEA hWs hpw
              clear hWA heb c0 c1 c2 c3 c4 c5 s0
              have HFA : Hid (∀ W, Below w2.heap.size w2 W -> W.heap[pb]? = some ob -> W.heap[eb]? = some (enO ⟨d.nm, em, ed⟩) -> W.cell? ⟨pb, 1, none⟩ = some (.slice (some ⟨gM, 0, none⟩) x.mods.length r.cM) /\ W.cell? ⟨pb, 2, none⟩ = some (.slice (some ⟨gS, 0, none⟩) x.scopes.length cS) /\ W.cell? ⟨eb, 0, none⟩ = some (.string ⟨d.nm.toArray⟩) /\ W.cell? ⟨eb, 1, none⟩ = some (.int .i64 em) /\ W.cell? ⟨eb, 2, none⟩ = some (.int .i64 ed) /\ W.cell? ⟨gM, em * 2 + 1, none⟩ = some (.slice (some ⟨gd, 0, none⟩) dl x'.dc) /\ W.cell? ⟨gS, k, none⟩ = some (.slice (some ⟨g, 0, none⟩) es.length ci)) := fun W h1 h2 h3 => by
                rw [HOb.out] at h2
                obtain ⟨⟨_, c1, c2, _⟩, _, _⟩ := box6l h2
                rw [haM] at c1
                exact ⟨c1, c2, by simp [World.cell?, h3], by simp [World.cell?, h3], by simp [World.cell?, h3], (h1.cell (p := ⟨gM, em * 2 + 1, none⟩) hgM2).trans HM1.out, (h1.cell (p := ⟨gS, k, none⟩) hgS).trans HCe.out⟩
              obtain ⟨a1, a2, e0, e1, e2, m1, s1⟩ := HFA.out WA HBA.out HOA.out HEA.out
              have hmi : (em : Int) < (x.mods.length : Int) := by omega
              have hdi : (ed : Int) < (dl : Int) := by omega
              have hdlz : ((dl : Int) <= 9223372036854775807) := by omega
              go_quiet (fail)
              all_goals
                go_wp2_with fail
                obtain ⟨WB, hWB⟩ : ∃ W, W = WA.drewN nq := ⟨_, rfl⟩
                have HBB : Hid (Below w2.heap.size w2 WB) := by rw [hWB]; exact below_drewN HBA.out nq
                have HOB : Hid (WB.heap[pb]? = some ob) := by rw [hWB]; exact HOA.out
                have HEB : Hid (WB.heap[eb]? = some (enO ⟨d.nm, em, ed⟩)) := by rw [hWB]; exact HEA.out
                have hWBs : WB.heap.size = eb + 1 := by rw [hWB]; exact hWs
                rw [<- hWB]
                clear hWB a1 a2 e0 e1 e2 m1 s1
                have hw2 : w2.heap.size <= WB.heap.size := HBB.out.size
                have hpA : pb < WB.heap.size := by omega
                have heA : eb < WB.heap.size := by omega
                have hgMA : gM < WB.heap.size := by omega
                have hgdA : gd < WB.heap.size := by omega
                have HWs := hideP hWBs
                clear hWs hWBs hw2
                obtain ⟨a1, a2, e0, e1, e2, m1, s1⟩ := HFA.out WB HBB.out HOB.out HEB.out
                obtain ⟨a1', a2', e0', e1', e2', m1', s1'⟩ := HFA.out WB.drew HBB.out.drew HOB.out HEB.out
                have f0 : WB.cell? ⟨gd, ed * 15, none⟩ = some (.string ⟨d.nm.toArray⟩) := (HBB.out.cell (p := ⟨gd, ed * 15, none⟩) hgd2).trans (HCD.out 0 (by omega))
                have f1 : WB.cell? ⟨gd, ed * 15 + 1, none⟩ = some (.bool d.ex) := (HBB.out.cell (p := ⟨gd, ed * 15 + 1, none⟩) hgd2).trans (HCD.out 1 (by omega))
                have f2 : WB.cell? ⟨gd, ed * 15 + 2, none⟩ = some (.slice y.va d.vs y.vc) := (HBB.out.cell (p := ⟨gd, ed * 15 + 2, none⟩) hgd2).trans (HCD.out 2 (by omega))
                have f3 : WB.cell? ⟨gd, ed * 15 + 3, none⟩ = some (.string y.pm) := (HBB.out.cell (p := ⟨gd, ed * 15 + 3, none⟩) hgd2).trans (HCD.out 3 (by omega))
                have f4 : WB.cell? ⟨gd, ed * 15 + 4, none⟩ = some (.slice y.ta 2 y.tc) := (HBB.out.cell (p := ⟨gd, ed * 15 + 4, none⟩) hgd2).trans (HCD.out 4 (by omega))
                have f5 : WB.cell? ⟨gd, ed * 15 + 5, none⟩ = some (.int .i64 y.k) := (HBB.out.cell (p := ⟨gd, ed * 15 + 5, none⟩) hgd2).trans (HCD.out 5 (by omega))
                have f6 : WB.cell? ⟨gd, ed * 15 + 6, none⟩ = some (.string y.tx) := (HBB.out.cell (p := ⟨gd, ed * 15 + 6, none⟩) hgd2).trans (HCD.out 6 (by omega))
                have f7 : WB.cell? ⟨gd, ed * 15 + 7, none⟩ = some (.int .i64 y.n) := (HBB.out.cell (p := ⟨gd, ed * 15 + 7, none⟩) hgd2).trans (HCD.out 7 (by omega))
                have f8 : WB.cell? ⟨gd, ed * 15 + 8, none⟩ = some (.int .i64 y.a) := (HBB.out.cell (p := ⟨gd, ed * 15 + 8, none⟩) hgd2).trans (HCD.out 8 (by omega))
                have f9 : WB.cell? ⟨gd, ed * 15 + 9, none⟩ = some (.int .i64 y.b) := (HBB.out.cell (p := ⟨gd, ed * 15 + 9, none⟩) hgd2).trans (HCD.out 9 (by omega))
                have f10 : WB.cell? ⟨gd, ed * 15 + 10, none⟩ = some (.slice y.xa y.xl y.xc) := (HBB.out.cell (p := ⟨gd, ed * 15 + 10, none⟩) hgd2).trans (HCD.out 10 (by omega))
                have f11 : WB.cell? ⟨gd, ed * 15 + 11, none⟩ = some (.slice y.ya y.yl y.yc) := (HBB.out.cell (p := ⟨gd, ed * 15 + 11, none⟩) hgd2).trans (HCD.out 11 (by omega))
                have f12 : WB.cell? ⟨gd, ed * 15 + 12, none⟩ = some (.slice y.za y.zl y.zc) := (HBB.out.cell (p := ⟨gd, ed * 15 + 12, none⟩) hgd2).trans (HCD.out 12 (by omega))
                have f13 : WB.cell? ⟨gd, ed * 15 + 13, none⟩ = some (.int .i64 d.li) := (HBB.out.cell (p := ⟨gd, ed * 15 + 13, none⟩) hgd2).trans (HCD.out 13 (by omega))
                have f14 : WB.cell? ⟨gd, ed * 15 + 14, none⟩ = some (.int .i64 d.co) := (HBB.out.cell (p := ⟨gd, ed * 15 + 14, none⟩) hgd2).trans (HCD.out 14 (by omega))
                have h0 : WB.drew.cell? ⟨gd, ed * 15, none⟩ = some (.string ⟨d.nm.toArray⟩) := (HBB.out.drew.cell (p := ⟨gd, ed * 15, none⟩) hgd2).trans (HCD.out 0 (by omega))
                have h1 : WB.drew.cell? ⟨gd, ed * 15 + 1, none⟩ = some (.bool d.ex) := (HBB.out.drew.cell (p := ⟨gd, ed * 15 + 1, none⟩) hgd2).trans (HCD.out 1 (by omega))
                have h2 : WB.drew.cell? ⟨gd, ed * 15 + 2, none⟩ = some (.slice y.va d.vs y.vc) := (HBB.out.drew.cell (p := ⟨gd, ed * 15 + 2, none⟩) hgd2).trans (HCD.out 2 (by omega))
                have h3 : WB.drew.cell? ⟨gd, ed * 15 + 3, none⟩ = some (.string y.pm) := (HBB.out.drew.cell (p := ⟨gd, ed * 15 + 3, none⟩) hgd2).trans (HCD.out 3 (by omega))
                have h4 : WB.drew.cell? ⟨gd, ed * 15 + 4, none⟩ = some (.slice y.ta 2 y.tc) := (HBB.out.drew.cell (p := ⟨gd, ed * 15 + 4, none⟩) hgd2).trans (HCD.out 4 (by omega))
                have h5 : WB.drew.cell? ⟨gd, ed * 15 + 5, none⟩ = some (.int .i64 y.k) := (HBB.out.drew.cell (p := ⟨gd, ed * 15 + 5, none⟩) hgd2).trans (HCD.out 5 (by omega))
                have h6 : WB.drew.cell? ⟨gd, ed * 15 + 6, none⟩ = some (.string y.tx) := (HBB.out.drew.cell (p := ⟨gd, ed * 15 + 6, none⟩) hgd2).trans (HCD.out 6 (by omega))
                have h7 : WB.drew.cell? ⟨gd, ed * 15 + 7, none⟩ = some (.int .i64 y.n) := (HBB.out.drew.cell (p := ⟨gd, ed * 15 + 7, none⟩) hgd2).trans (HCD.out 7 (by omega))
                have h8 : WB.drew.cell? ⟨gd, ed * 15 + 8, none⟩ = some (.int .i64 y.a) := (HBB.out.drew.cell (p := ⟨gd, ed * 15 + 8, none⟩) hgd2).trans (HCD.out 8 (by omega))
                have h9 : WB.drew.cell? ⟨gd, ed * 15 + 9, none⟩ = some (.int .i64 y.b) := (HBB.out.drew.cell (p := ⟨gd, ed * 15 + 9, none⟩) hgd2).trans (HCD.out 9 (by omega))
                have h10 : WB.drew.cell? ⟨gd, ed * 15 + 10, none⟩ = some (.slice y.xa y.xl y.xc) := (HBB.out.drew.cell (p := ⟨gd, ed * 15 + 10, none⟩) hgd2).trans (HCD.out 10 (by omega))
                have h11 : WB.drew.cell? ⟨gd, ed * 15 + 11, none⟩ = some (.slice y.ya y.yl y.yc) := (HBB.out.drew.cell (p := ⟨gd, ed * 15 + 11, none⟩) hgd2).trans (HCD.out 11 (by omega))
                have h12 : WB.drew.cell? ⟨gd, ed * 15 + 12, none⟩ = some (.slice y.za y.zl y.zc) := (HBB.out.drew.cell (p := ⟨gd, ed * 15 + 12, none⟩) hgd2).trans (HCD.out 12 (by omega))
                have h13 : WB.drew.cell? ⟨gd, ed * 15 + 13, none⟩ = some (.int .i64 d.li) := (HBB.out.drew.cell (p := ⟨gd, ed * 15 + 13, none⟩) hgd2).trans (HCD.out 13 (by omega))
                have h14 : WB.drew.cell? ⟨gd, ed * 15 + 14, none⟩ = some (.int .i64 d.co) := (HBB.out.drew.cell (p := ⟨gd, ed * 15 + 14, none⟩) hgd2).trans (HCD.out 14 (by omega))
                apply once0 (WB.alloc (decO y d)).drew
                · go_region
                  all_goals exact ⟨rfl, rfl⟩
                · clear f0 f1 f2 f3 f4 f5 f6 f7 f8 f9 f10 f11 f12 f13 f14 h0 h1 h2 h3 h4 h5 h6 h7 h8 h9 h10 h11 h12 h13 h14 a1 a2 e0 e1 e2 m1 s1 a1' a2' e0' e1' e2' m1' s1'
                  obtain ⟨WC, hWC⟩ : ∃ W, W = (WB.alloc (decO y d)).drew := ⟨_, rfl⟩
                  have HBC : Hid (Below w2.heap.size w2 WC) := by rw [hWC]; exact (below_next HBB.out (bl_alloc WB _)).drew
                  have HOC : Hid (WC.heap[pb]? = some ob) := by rw [hWC]; exact (Below.heap_alloc _ _ _ hpA).trans HOB.out
                  have HEC : Hid (WC.heap[eb]? = some (enO ⟨d.nm, em, ed⟩)) := by rw [hWC]; exact (Below.heap_alloc _ _ _ heA).trans HEB.out
                  have HFC : Hid (WC.heap[WB.heap.size]? = some (decO y d)) := by rw [hWC]; exact heap_alloc_last _ _
                  obtain ⟨fb, hfb⟩ : ∃ fb, fb = WB.heap.size := ⟨_, rfl⟩
                  rw [<- hWC, <- hfb]
                  rw [<- hfb] at HFC
                  clear hWC hfb
                  obtain ⟨a1, a2, e0, e1, e2, m1, s1⟩ := HFA.out WC HBC.out HOC.out HEC.out
                  have f0 : WC.cell? ⟨fb, 0, none⟩ = some (.string ⟨d.nm.toArray⟩) := by have := HFC.out; simp [World.cell?, this, decO]
                  have f1 : WC.cell? ⟨fb, 1, none⟩ = some (.bool d.ex) := by have := HFC.out; simp [World.cell?, this, decO]
                  clear a1 m1 s1 e2
                  have hex : ¬ (em : Int) = (k : Int) -> d.ex = true := fun h => HEx.out (by omega)
                  by_cases hemk : (em : Int) = (k : Int)
                  case' neg =>
                    have hxt := hex hemk
                    rw [hxt] at f1
                  all_goals
                    clear hex
                    go_wp2_with fail
                    clear f0 f1 e0 e1 a2
                    go_loopw [11] (fun i w5 => ∃ n : Nat, n <= k2 /\ i = .int .i64 n /\ Hid (Below w2.heap.size w2 w5) /\ Hid (w5.heap[pb]? = some ob) /\ Hid (w5.heap[eb]? = some (enO ⟨d.nm, em, ed⟩))) (fun i _ => k2 - (intOf i).toNat)
                    case atStart => exact ⟨0, by omega, rfl, HBC.out, HOC.out, HEC.out⟩
                    case round =>
                      obtain ⟨n, hn, rfl, HBn, HOn, HEn⟩ := hrel
                      by_cases hnk : n < k2
                      · have hnk' : (n : Int) < (k2 : Int) := by omega
                        obtain ⟨_, a2, e0, _, _, _, s1⟩ := HFA.out _ HBn.out HOn.out HEn.out
                        obtain ⟨g', hg', hg2', hc'⟩ := HKs.out n (by omega)
                        have hgg : g' = g := by simp only [Option.some.injEq, Addr.mk.injEq] at hg'; exact hg'.1.symm
                        subst hgg
                        obtain ⟨nn, hnn⟩ : ∃ nn, nn = (es.getD n ⟨[], 0, 0⟩).nm := ⟨_, rfl⟩
                        have hne : ¬ nn = d.nm := by rw [hnn]; exact HOth.out n hnk
                        have t0 : wr.cell? ⟨g', n * 3, none⟩ = some (.string ⟨nn.toArray⟩) := by rw [hnn]; exact (HBn.out.cell (p := ⟨g', n * 3, none⟩) hg2').trans (hc' 0 (by omega))
                        have hnes : (n : Int) < (es.length : Int) := by omega
                        clear hc' hg' hnn
                        go_wp2_with fail
                        go_quiet (fail)
                        all_goals
                          go_wp2_with fail
                          case roundEnd => exact ⟨⟨n + 1, by omega, by go_num, below_drewN HBn.out nq, HOn.out, HEn.out⟩, by simp [intOf]; omega⟩
                          all_goals
                            rename_i hbad
                            exfalso
                            exact hne (by simpa using hbad)
                      · have hnk' : ¬ (n : Int) < (k2 : Int) := by omega
                        go_wp2_with fail
                        go_roundw
                        case rel => exact ⟨k2 + 1, by omega, by go_num, HBn.out, HOn.out⟩
                        case measure => simp [intOf]; omega
            · have hk2l' : ¬ (k2 : Int) < (es.length : Int) := by omega
              go_wp2_with fail
              go_roundw
              case rel => exact ⟨k + 1, by omega, by go_num, HBs.out, HOs.out⟩
              case measure => simp [intOf]; omega
        · have hkl' : ¬ (k : Int) < (x.scopes.length : Int) := by omega
          obtain ⟨hml, hmn⟩ := HOk.out.main
          obtain ⟨gN, haN, _, hgN2, c, _, hcN, hcS⟩ := rowQ_at HL.out.rN hml
          have hcS' : c = [strV' x.names[x.main.1]] := hcS
          rw [hmn] at hcS'
          subst hcS'
          rw [haN] at c0
          have n0 : wr.cell? ⟨gN, x.main.1, none⟩ = some (.string mainS) := by
            have h1 := hcN 0 (by omega)
            rw [Nat.mul_one, Nat.add_zero] at h1
            exact (HBr.out.cell (p := ⟨gN, x.main.1, none⟩) hgN2).trans h1
          have hm1 : (x.main.1 : Int) < (x.names.length : Int) := by omega
          have hm0 : (0 : Int) <= (x.main.1 : Int) := by omega
          clear hcN hcS hml hmn
          go_wp2_with fail
          go_ret
          exact ⟨rfl, below_next HB2.out HBr.out⟩
end Go.Proofs.YtgblonhfidoleaaDoor
