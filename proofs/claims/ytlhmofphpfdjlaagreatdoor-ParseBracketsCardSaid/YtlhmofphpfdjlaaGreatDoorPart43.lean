/- Part. -/
import Derived.Test.YtlhmofphpfdjlaaGreatDoorPart42
import Derived.Test.YtlhmofphpfdjlaaGreatDoorPart40
set_option maxRecDepth 100000
set_option maxHeartbeats 4000000
/- graduslaw04.Modules: of the same modules it answers true. -/
namespace Go.Proofs.YtlhmofphpfdjlaaGreatDoor
open Go.Proofs.Tryz
open Go.RowKit
theorem mkD_inj {s s' : List UInt8} {ex ex' : Bool} {vs vs' : List (List UInt8 × Ty)} {pm pm' : List UInt8} {tys tys' : List Ty} {B B' : Ty} {l l' c c' : Nat} (h : mkD s ex vs pm tys B l c = mkD s' ex' vs' pm' tys' B' l' c') : s = s' /\ ex = ex' /\ vs = vs' /\ pm = pm' /\ tys = tys' /\ B = B' /\ l = l' /\ c = c' := by
  unfold mkD at h
  simp only [DataW.agg.injEq, List.cons.injEq, DataW.lit.injEq, Lit.int.injEq, Lit.string.injEq, Lit.bool.injEq, true_and, and_true] at h
  obtain ⟨h1, h2, h3, h4, h5, h6, h7, h8⟩ := h
  refine ⟨h1, h2, (List.map_inj_right fun x y e => ?_).1 h3, h4, h5, h6, by omega, by omega⟩
  simp only [DataW.agg.injEq, List.cons.injEq, DataW.lit.injEq, Lit.string.injEq, and_true] at e
  exact Prod.ext e.1 e.2
theorem mkI_inj {s s' : List UInt8} {ns ns' : List (List UInt8)} {l l' c c' : Nat} (h : mkI s ns l c = mkI s' ns' l' c') : s = s' /\ ns = ns' /\ l = l' /\ c = c' := by
  unfold mkI at h
  simp only [DataW.agg.injEq, List.cons.injEq, DataW.lit.injEq, Lit.int.injEq, Lit.string.injEq, true_and, and_true] at h
  obtain ⟨h1, h2, h3, h4⟩ := h
  refine ⟨h1, (List.map_inj_right fun x y e => ?_).1 h2, by omega, by omega⟩
  simp only [DataW.lit.injEq, Lit.string.injEq] at e
  exact e
theorem var_at {w : World} {lo : Nat} {a : Option Addr} {vs : List (List UInt8 × Ty)} (h : VarsF lo w a vs) {i : Nat} (hi : i < vs.length) : ∃ (g : Nat) (k : Int) (nm : ByteArray) (na : Option Addr) (nl nc : Nat) (ka : Option Addr) (kl kc m : Nat), a = some ⟨g, 0, none⟩ /\ g < w.heap.size /\
    (w.cell? ⟨g, i * 5, none⟩ = some (.string ⟨vs[i].1.toArray⟩) /\ w.cell? ⟨g, i * 5 + 1, none⟩ = some (.int .i64 k) /\ w.cell? ⟨g, i * 5 + 2, none⟩ = some (.string nm) /\ w.cell? ⟨g, i * 5 + 3, none⟩ = some (.slice na nl nc) /\ w.cell? ⟨g, i * 5 + 4, none⟩ = some (.slice ka kl kc)) /\ TyF w lo m (.agg #[.int .i64 k, .string nm, .slice na nl nc, .slice ka kl kc]) vs[i].2 := by
  rcases h with rfl | ⟨g, e, _, hc, hr⟩
  · cases hi
  · obtain ⟨c, h1, h2, k, nm, na, nl, nc, ka, kl, kc, rfl, m, ht⟩ := hr i hi
    exact ⟨g, k, nm, na, nl, nc, ka, kl, kc, m, e, clean_lt hc, ⟨h2 0 (by omega), h2 1 (by omega), h2 2 (by omega), h2 3 (by omega), h2 4 (by omega)⟩, ht⟩
theorem decls_same {lo lo' : Nat} {w : World} {c c' : List Value} {D : Ty} (h : DeclC lo w c D) (h' : DeclC lo' w c' D) :
    Calls prog 15 #[.agg c.toArray, .agg c'.toArray] w fun e w' => e = .returned (.bool true) /\ Below w.heap.size w w' := by
  obtain ⟨s, ex, vs, va, vc, pm, ta, tc, tys, x, B, li, co, m, rfl, rfl, hvl, htl, hvs, hts, hx⟩ := h
  obtain ⟨s', ex', vs', va', vc', pm', ta', tc', tys', y, B', li', co', m', rfl, e, _, _, hvs', hts', hy⟩ := h'
  obtain ⟨rfl, rfl, rfl, rfl, rfl, rfl, rfl, rfl⟩ := mkD_inj e
  clear e
  obtain ⟨S1, hS1⟩ : ∃ S1 : ByteArray, S1 = ⟨s.toArray⟩ := ⟨_, rfl⟩
  obtain ⟨S2, hS2⟩ : ∃ S2 : ByteArray, S2 = ⟨pm.toArray⟩ := ⟨_, rfl⟩
  rw [<- hS1, <- hS2]
  have e1 : (S1.toList == S1.toList) = true := by simp
  have e2 : (S2.toList == S2.toList) = true := by simp
  have e3 : (ex == ex) = true := by simp
  clear hS1 hS2
  obtain ⟨W, hW⟩ : ∃ W, W = (w.alloc (dO S1 ex (.slice va vs.length vc) S2 (.slice ta 2 tc) x li co)).alloc (dO S1 ex (.slice va' vs.length vc') S2 (.slice ta' 2 tc') y li co) := ⟨_, rfl⟩
  have hb0 : Below w.heap.size w W := by rw [hW]; exact below_next (bl_alloc _ _) (bl_alloc _ _)
  have HXA : Hid (W.heap[w.heap.size]? = some (dO S1 ex (.slice va vs.length vc) S2 (.slice ta 2 tc) x li co)) := by rw [hW]; exact (Below.heap_alloc _ _ _ (by simp)).trans (heap_alloc_last w _)
  have HXB : Hid (W.heap[w.heap.size + 1]? = some (dO S1 ex (.slice va' vs.length vc') S2 (.slice ta' 2 tc') y li co)) := by rw [hW]; exact heap_at1 w _ _
  have HCELL : Hid (∀ wx, Below W.heap.size W wx -> wx.heap[w.heap.size]? = some (dO S1 ex (.slice va vs.length vc) S2 (.slice ta 2 tc) x li co) /\ wx.heap[w.heap.size + 1]? = some (dO S1 ex (.slice va' vs.length vc') S2 (.slice ta' 2 tc') y li co)) := fun wx hwx => ⟨(hwx.block _ (lt_of_block HXA.out)).trans HXA.out, (hwx.block _ (lt_of_block HXB.out)).trans HXB.out⟩
  have HB0 := hideP hb0
  have HVA := hideP (varsF_keep hvs hb0.size fun b _ hl => hb0.block b hl)
  have HVB := hideP (varsF_keep hvs' hb0.size fun b _ hl => hb0.block b hl)
  have HC2 : Hid (∀ wx, Below W.heap.size W wx -> Calls prog 28 #[.slice ta 2 tc, .slice ta' 2 tc'] wx fun e w' => e = .returned (.bool true) /\ Below wx.heap.size wx w') := fun wx hwx => by
    have := kinds_same (max m m') (one_same (max m m')) ta ta' tc tc' tys wx (kids_below (kidsF_any (kidsF_mono hts (Nat.le_max_left _ _))) (below_next hb0 hwx)) (kids_below (kidsF_any (kidsF_mono hts' (Nat.le_max_right _ _))) (below_next hb0 hwx)) (by omega)
    rw [htl] at this
    exact this
  have HC3 : Hid (∀ wx, Below W.heap.size W wx -> Calls prog 29 #[x.val, y.val] wx fun e w' => e = .returned (.bool true) /\ Below wx.heap.size wx w') := fun wx hwx => by
    obtain ⟨m1, hx⟩ := hx
    obtain ⟨m2, hy⟩ := hy
    exact nodes_same (max m1 m2) x y _ _ _ _ (nodeF_below (nodeF_mono hx (Nat.le_max_left _ _)) (below_next hb0 hwx)) (nodeF_below (nodeF_mono hy (Nat.le_max_right _ _)) (below_next hb0 hwx))
  clear hvs hvs' hts hts' hx hy hb0
  obtain ⟨⟨x0, x1, x2, x3, x4, x5, x6, x7, x8, x9, x10, x11, x12, x13, x14⟩, _, hltx⟩ := box15 HXA.out
  obtain ⟨⟨y0, y1, y2, y3, y4, y5, y6, y7, y8, y9, y10, y11, y12, y13, y14⟩, _, hlty⟩ := box15 HXB.out
  go_enter func15, ntmps15
  go_wp2_with fail
  rw [<- hW]
  clear hW
  go_loopw [5] (fun i wx => ∃ j : Nat, i = .int .i64 j /\ j <= vs.length /\ Hid (Below W.heap.size W wx)) (fun i _ => vs.length - (intOf i).toNat)
  case atStart => exact ⟨0, rfl, Nat.zero_le _, Below.refl _ _⟩
  case round =>
    obtain ⟨j, rfl, hj, hbl⟩ := hrel
    clear x0 x1 x2 x3 x4 x5 x6 x7 x8 x9 x10 x11 x12 x13 x14 y0 y1 y2 y3 y4 y5 y6 y7 y8 y9 y10 y11 y12 y13 y14 hltx hlty
    obtain ⟨⟨x0, x1, x2, x3, x4, x5, x6, x7, x8, x9, x10, x11, x12, x13, x14⟩, _, hltx⟩ := box15 (HCELL.out wr hbl.out).1
    obtain ⟨⟨y0, y1, y2, y3, y4, y5, y6, y7, y8, y9, y10, y11, y12, y13, y14⟩, _, hlty⟩ := box15 (HCELL.out wr hbl.out).2
    by_cases hlt : j < vs.length
    · have hjl : (j : Int) < (vs.length : Int) := by omega
      clear x0 x1 x3 x4 x5 x6 x7 x8 x9 x10 x11 x12 x13 x14 y0 y1 y3 y4 y5 y6 y7 y8 y9 y10 y11 y12 y13 y14
      obtain ⟨g, k1, nm1, na1, nl1, nc1, ka1, kl1, kc1, m1, rfl, hg1, hc1, ht1⟩ := var_at HVA.out hlt
      obtain ⟨g', k2, nm2, na2, nl2, nc2, ka2, kl2, kc2, m2, rfl, hg2, hc2, ht2⟩ := var_at HVB.out hlt
      obtain ⟨N1, hN1⟩ : ∃ N1 : ByteArray, N1 = ⟨vs[j].1.toArray⟩ := ⟨_, rfl⟩
      rw [<- hN1] at hc1 hc2
      have e4 : (N1.toList == N1.toList) = true := by simp
      have HSK : Hid (∀ wx, Below wr.heap.size wr wx -> wx.cell? ⟨w.heap.size, 2, none⟩ = some (.slice (some ⟨g, 0, none⟩) vs.length vc) /\ wx.cell? ⟨w.heap.size + 1, 2, none⟩ = some (.slice (some ⟨g', 0, none⟩) vs.length vc') /\ wx.cell? ⟨g, j * 5, none⟩ = some (.string N1) /\ wx.cell? ⟨g, j * 5 + 1, none⟩ = some (.int .i64 k1) /\ wx.cell? ⟨g, j * 5 + 2, none⟩ = some (.string nm1) /\ wx.cell? ⟨g, j * 5 + 3, none⟩ = some (.slice na1 nl1 nc1) /\ wx.cell? ⟨g, j * 5 + 4, none⟩ = some (.slice ka1 kl1 kc1) /\ wx.cell? ⟨g', j * 5, none⟩ = some (.string N1) /\ wx.cell? ⟨g', j * 5 + 1, none⟩ = some (.int .i64 k2) /\ wx.cell? ⟨g', j * 5 + 2, none⟩ = some (.string nm2) /\ wx.cell? ⟨g', j * 5 + 3, none⟩ = some (.slice na2 nl2 nc2) /\ wx.cell? ⟨g', j * 5 + 4, none⟩ = some (.slice ka2 kl2 kc2)) := fun wx hwx => by
        have hB := below_next hbl.out hwx
        obtain ⟨q0, q1, q2, q3, q4⟩ := hc1
        obtain ⟨p0, p1, p2, p3, p4⟩ := hc2
        exact ⟨(box15 (HCELL.out wx hB).1).1.2.2.1, (box15 (HCELL.out wx hB).2).1.2.2.1, (hB.cell (p := ⟨g, _, none⟩) hg1).trans q0, (hB.cell (p := ⟨g, _, none⟩) hg1).trans q1, (hB.cell (p := ⟨g, _, none⟩) hg1).trans q2, (hB.cell (p := ⟨g, _, none⟩) hg1).trans q3, (hB.cell (p := ⟨g, _, none⟩) hg1).trans q4, (hB.cell (p := ⟨g', _, none⟩) hg2).trans p0, (hB.cell (p := ⟨g', _, none⟩) hg2).trans p1, (hB.cell (p := ⟨g', _, none⟩) hg2).trans p2, (hB.cell (p := ⟨g', _, none⟩) hg2).trans p3, (hB.cell (p := ⟨g', _, none⟩) hg2).trans p4⟩
      have HC : Hid (∀ wx, Below wr.heap.size wr wx -> Calls prog 27 #[.agg #[.int .i64 k1, .string nm1, .slice na1 nl1 nc1, .slice ka1 kl1 kc1], .agg #[.int .i64 k2, .string nm2, .slice na2 nl2 nc2, .slice ka2 kl2 kc2]] wx fun e w' => e = .returned (.bool true) /\ Below wr.heap.size wr w') := fun wx hwx =>
        (one_same (max m1 m2) _ _ vs[j].2 wx (ty_below (tyF_any (tyF_mono ht1 (Nat.le_max_left _ _))) (below_next hbl.out hwx)) (ty_below (tyF_any (tyF_mono ht2 (Nat.le_max_right _ _))) (below_next hbl.out hwx))).mono fun e w' ⟨e1, e2⟩ => ⟨e1, below_next hwx e2⟩
      have hS0 := HSK.out wr.drew (Below.refl _ _).drew
      clear hc1 hc2 ht1 ht2 hN1
      go_wp2_with fail
      go_region_held (fun W => W.cell? ⟨w.heap.size, 2, none⟩ = some (.slice (some ⟨g, 0, none⟩) vs.length vc) /\ W.cell? ⟨w.heap.size + 1, 2, none⟩ = some (.slice (some ⟨g', 0, none⟩) vs.length vc') /\ W.cell? ⟨g, j * 5, none⟩ = some (.string N1) /\ W.cell? ⟨g, j * 5 + 1, none⟩ = some (.int .i64 k1) /\ W.cell? ⟨g, j * 5 + 2, none⟩ = some (.string nm1) /\ W.cell? ⟨g, j * 5 + 3, none⟩ = some (.slice na1 nl1 nc1) /\ W.cell? ⟨g, j * 5 + 4, none⟩ = some (.slice ka1 kl1 kc1) /\ W.cell? ⟨g', j * 5, none⟩ = some (.string N1) /\ W.cell? ⟨g', j * 5 + 1, none⟩ = some (.int .i64 k2) /\ W.cell? ⟨g', j * 5 + 2, none⟩ = some (.string nm2) /\ W.cell? ⟨g', j * 5 + 3, none⟩ = some (.slice na2 nl2 nc2) /\ W.cell? ⟨g', j * 5 + 4, none⟩ = some (.slice ka2 kl2 kc2)) (assumption) (first
        | (go_at_call 27; refine (HC.out _ (by first | exact Below.refl _ _ | exact below_drewN (Below.refl _ _) _ | exact (Below.refl _ _).drew)).mono ?_; rintro e w5 ⟨rfl, hb5⟩; have t5 := HSK.out _ hb5; have HB5 := hideP hb5; clear hb5))
      all_goals go_wp2_with fail
      all_goals obtain ⟨a0, a1, q0, _, _, _, _, p0, _, _, _, _⟩ := t5
      all_goals go_quiet (fail)
      all_goals go_wp2_with fail
      all_goals exact ⟨⟨j + 1, by go_num, by omega, below_drewN (below_next hbl.out HB5.out) _⟩, by simp [intOf]; omega⟩
    · have hjl : ¬ (j : Int) < (vs.length : Int) := by omega
      go_wp2_with fail
      refine (HC2.out _ hbl.out).mono ?_
      rintro e w3 ⟨rfl, hb3⟩
      have HB3 := hideP (below_next hbl.out hb3)
      clear hb3 x0 x1 x2 x3 x4 x5 x6 x7 x8 x9 x10 x11 x12 x13 x14 y0 y1 y2 y3 y4 y5 y6 y7 y8 y9 y10 y11 y12 y13 y14 hltx hlty
      obtain ⟨⟨x0, x1, x2, x3, x4, x5, x6, x7, x8, x9, x10, x11, x12, x13, x14⟩, _, hltx⟩ := box15 (HCELL.out w3 HB3.out).1
      obtain ⟨⟨y0, y1, y2, y3, y4, y5, y6, y7, y8, y9, y10, y11, y12, y13, y14⟩, _, hlty⟩ := box15 (HCELL.out w3 HB3.out).2
      go_wp2_with fail
      refine (HC3.out _ HB3.out).mono ?_
      rintro e w4 ⟨rfl, hb4⟩
      have HB4 := hideP (below_next HB3.out hb4)
      clear hb4
      go_wp2_with fail
      go_ret
      exact ⟨rfl, below_next HB0.out HB4.out⟩
theorem imp_at {w : World} {lo : Nat} {a : Option Addr} {xs : List Ty} (h : RowQ ImpC 4 lo w a xs) {i : Nat} (hi : i < xs.length) : ∃ (g : Nat) (s : List UInt8) (l : List (List UInt8)) (na : Option Addr) (nc li co : Nat), a = some ⟨g, 0, none⟩ /\ g < w.heap.size /\
    (w.cell? ⟨g, i * 4, none⟩ = some (.string ⟨s.toArray⟩) /\ w.cell? ⟨g, i * 4 + 1, none⟩ = some (.slice na l.length nc) /\ w.cell? ⟨g, i * 4 + 2, none⟩ = some (.int .i64 li) /\ w.cell? ⟨g, i * 4 + 3, none⟩ = some (.int .i64 co)) /\ xs[i] = mkI s l li co /\ l.length <= 8193 /\ NamesAt w na l := by
  rcases h with rfl | ⟨g, e, _, hc, hr⟩
  · cases hi
  · obtain ⟨c, h1, h2, s, l, na, nc, li, co, rfl, h3, h4, h5⟩ := hr i hi
    exact ⟨g, s, l, na, nc, li, co, e, clean_lt hc, ⟨h2 0 (by omega), h2 1 (by omega), h2 2 (by omega), h2 3 (by omega)⟩, h3, h4, h5.at⟩
theorem dec_at {w : World} {lo : Nat} {a : Option Addr} {xs : List Ty} (h : RowQ DeclC 15 lo w a xs) {i : Nat} (hi : i < xs.length) : ∃ (g : Nat) (c0 c1 c2 c3 c4 c5 c6 c7 c8 c9 c10 c11 c12 c13 c14 : Value), a = some ⟨g, 0, none⟩ /\ g < w.heap.size /\ (w.cell? ⟨g, i * 15, none⟩ = some c0 /\ w.cell? ⟨g, i * 15 + 1, none⟩ = some c1 /\ w.cell? ⟨g, i * 15 + 2, none⟩ = some c2 /\ w.cell? ⟨g, i * 15 + 3, none⟩ = some c3 /\ w.cell? ⟨g, i * 15 + 4, none⟩ = some c4 /\ w.cell? ⟨g, i * 15 + 5, none⟩ = some c5 /\ w.cell? ⟨g, i * 15 + 6, none⟩ = some c6 /\ w.cell? ⟨g, i * 15 + 7, none⟩ = some c7 /\ w.cell? ⟨g, i * 15 + 8, none⟩ = some c8 /\ w.cell? ⟨g, i * 15 + 9, none⟩ = some c9 /\ w.cell? ⟨g, i * 15 + 10, none⟩ = some c10 /\ w.cell? ⟨g, i * 15 + 11, none⟩ = some c11 /\ w.cell? ⟨g, i * 15 + 12, none⟩ = some c12 /\ w.cell? ⟨g, i * 15 + 13, none⟩ = some c13 /\ w.cell? ⟨g, i * 15 + 14, none⟩ = some c14) /\ DeclC lo w [c0, c1, c2, c3, c4, c5, c6, c7, c8, c9, c10, c11, c12, c13, c14] xs[i] := by
  rcases h with rfl | ⟨g, e, _, hc, hr⟩
  · cases hi
  · obtain ⟨c, h1, h2, h3⟩ := hr i hi
    have h4 := h3
    obtain ⟨s, ex, vs, va, vc, pm, ta, tc, tys, x, B, li, co, m, rfl, _⟩ := h4
    exact ⟨g, _, _, _, _, _, _, _, _, _, _, _, _, _, _, _, e, clean_lt hc, ⟨h2 0 (by omega), h2 1 (by omega), h2 2 (by omega), h2 3 (by omega), h2 4 (by omega), h2 5 (by omega), h2 6 (by omega), h2 7 (by omega), h2 8 (by omega), h2 9 (by omega), h2 10 (by omega), h2 11 (by omega), h2 12 (by omega), h2 13 (by omega), h2 14 (by omega)⟩, h3⟩
theorem modules_same {lo lo' : Nat} {w : World} {x y : MV} {D : List Ty × List Ty} (h : MdV lo w x D) (h' : MdV lo' w y D) :
    Calls prog 7 #[x.val, y.val] w fun e w' => e = .returned (.bool true) /\ Below w.heap.size w w' := by
  obtain ⟨ia, il, ic, da, dl, dc⟩ := x
  obtain ⟨ia', il', ic', da', dl', dc'⟩ := y
  obtain ⟨h1, h2, h3, h4, hi, hd⟩ := h
  obtain ⟨h1', h2', _, _, hi', hd'⟩ := h'
  dsimp only at h1 h2 hi hd h1' h2' hi' hd'
  subst h1 h2 h1' h2'
  obtain ⟨is, ds⟩ := D
  dsimp only at h3 h4 hi hd hi' hd' ⊢
  obtain ⟨W, hW⟩ : ∃ W, W = (w.alloc (MV.obj ⟨ia, is.length, ic, da, ds.length, dc⟩)).alloc (MV.obj ⟨ia', is.length, ic', da', ds.length, dc'⟩) := ⟨_, rfl⟩
  have hb0 : Below w.heap.size w W := by rw [hW]; exact below_next (bl_alloc _ _) (bl_alloc _ _)
  have HXA : Hid (W.heap[w.heap.size]? = some (MV.obj ⟨ia, is.length, ic, da, ds.length, dc⟩)) := by rw [hW]; exact (Below.heap_alloc _ _ _ (by simp)).trans (heap_alloc_last w _)
  have HXB : Hid (W.heap[w.heap.size + 1]? = some (MV.obj ⟨ia', is.length, ic', da', ds.length, dc'⟩)) := by rw [hW]; exact heap_at1 w _ _
  have HCELL : Hid (∀ wx, Below W.heap.size W wx -> (wx.cell? ⟨w.heap.size, 0, none⟩ = some (.slice ia is.length ic) /\ wx.cell? ⟨w.heap.size, 1, none⟩ = some (.slice da ds.length dc)) /\ wx.cell? ⟨w.heap.size + 1, 0, none⟩ = some (.slice ia' is.length ic') /\ wx.cell? ⟨w.heap.size + 1, 1, none⟩ = some (.slice da' ds.length dc')) := fun wx hwx => ⟨(boxM (x := ⟨ia, is.length, ic, da, ds.length, dc⟩) ((hwx.block _ (lt_of_block HXA.out)).trans HXA.out)).1, (boxM (x := ⟨ia', is.length, ic', da', ds.length, dc'⟩) ((hwx.block _ (lt_of_block HXB.out)).trans HXB.out)).1⟩
  have HB0 := hideP hb0
  have HIA := hideP (rowQ_keep impC_k hi hb0.size fun b _ hl => hb0.block b hl)
  have HIB := hideP (rowQ_keep impC_k hi' hb0.size fun b _ hl => hb0.block b hl)
  have HDA := hideP (rowQ_keep declC_k hd hb0.size fun b _ hl => hb0.block b hl)
  have HDB := hideP (rowQ_keep declC_k hd' hb0.size fun b _ hl => hb0.block b hl)
  clear hi hi' hd hd' hb0
  obtain ⟨⟨x0, x1⟩, y0, y1⟩ := HCELL.out W (Below.refl _ _)
  have hlx := lt_of_block HXA.out
  have hly := lt_of_block HXB.out
  go_enter func7, ntmps7
  go_wp2_with fail
  rw [<- hW]
  clear hW
  go_loopw [5] (fun i wx => ∃ j : Nat, i = .int .i64 j /\ j <= is.length /\ Hid (Below W.heap.size W wx)) (fun i _ => is.length - (intOf i).toNat)
  case atStart => exact ⟨0, rfl, Nat.zero_le _, Below.refl _ _⟩
  case round =>
    obtain ⟨j, rfl, hj, hbl⟩ := hrel
    clear x0 x1 y0 y1
    obtain ⟨⟨x0, x1⟩, y0, y1⟩ := HCELL.out wr hbl.out
    have hwr := hbl.out.size
    have hlx' : w.heap.size < wr.heap.size := by omega
    have hly' : w.heap.size + 1 < wr.heap.size := by omega
    by_cases hlt : j < is.length
    · have hjl : (j : Int) < (is.length : Int) := by omega
      obtain ⟨g, s, l, na, nc, li, co, rfl, hg1, ⟨q0, q1, q2, q3⟩, e1, hl, hn⟩ := imp_at HIA.out hlt
      obtain ⟨g', s', l', na', nc', li', co', rfl, hg2, ⟨p0, p1, p2, p3⟩, e2, _, hn'⟩ := imp_at HIB.out hlt
      obtain ⟨rfl, rfl, rfl, rfl⟩ := mkI_inj (e1.symm.trans e2)
      obtain ⟨S1, hS1⟩ : ∃ S1 : ByteArray, S1 = ⟨s.toArray⟩ := ⟨_, rfl⟩
      rw [<- hS1] at q0 p0
      have e4 : (S1.toList == S1.toList) = true := by simp
      replace q0 := (hbl.out.cell (p := ⟨g, _, none⟩) hg1).trans q0
      replace q1 := (hbl.out.cell (p := ⟨g, _, none⟩) hg1).trans q1
      replace q2 := (hbl.out.cell (p := ⟨g, _, none⟩) hg1).trans q2
      replace q3 := (hbl.out.cell (p := ⟨g, _, none⟩) hg1).trans q3
      replace p0 := (hbl.out.cell (p := ⟨g', _, none⟩) hg2).trans p0
      replace p1 := (hbl.out.cell (p := ⟨g', _, none⟩) hg2).trans p1
      replace p2 := (hbl.out.cell (p := ⟨g', _, none⟩) hg2).trans p2
      replace p3 := (hbl.out.cell (p := ⟨g', _, none⟩) hg2).trans p3
      replace hg1 := Nat.lt_of_lt_of_le hg1 hwr
      replace hg2 := Nat.lt_of_lt_of_le hg2 hwr
      have HN := hideP hn
      have HN' := hideP hn'
      clear e1 e2 hS1 hn hn'
      go_wp2_with fail
      have hb5 : Below wr.heap.size wr ((wr.alloc (.cells #[.string S1, .slice na l.length nc, .int .i64 li, .int .i64 co] 55)).alloc (.cells #[.string S1, .slice na' l.length nc', .int .i64 li, .int .i64 co] 55)) := below_next (bl_alloc _ _) (bl_alloc _ _)
      have HXC := hideP ((Below.heap_alloc (wr.alloc (.cells #[.string S1, .slice na l.length nc, .int .i64 li, .int .i64 co] 55)) (.cells #[.string S1, .slice na' l.length nc', .int .i64 li, .int .i64 co] 55) _ (by rw [World.size_alloc]; omega)).trans (heap_alloc_last wr _))
      have HXD := hideP (heap_at1 wr (.cells #[.string S1, .slice na l.length nc, .int .i64 li, .int .i64 co] 55) (.cells #[.string S1, .slice na' l.length nc', .int .i64 li, .int .i64 co] 55))
      have HB5 := hideP (below_next hbl.out hb5)
      refine (texts_same na na' nc nc' l _ (names_below HN.out HB5.out) (names_below HN'.out HB5.out) (by omega)).mono ?_
      rintro e w6 ⟨rfl, q, rfl⟩
      clear hb5 q0 q1 q2 q3 p0 p1 p2 p3
      generalize (wr.alloc (.cells #[.string S1, .slice na l.length nc, .int .i64 li, .int .i64 co] 55)).alloc (.cells #[.string S1, .slice na' l.length nc', .int .i64 li, .int .i64 co] 55) = W5 at HXC HXD HB5 ⊢
      obtain ⟨⟨q0, q1, q2, q3⟩, _, hql⟩ := res_facts HXC.out
      obtain ⟨⟨p0, p1, p2, p3⟩, _, hpl⟩ := res_facts HXD.out
      go_wp2_with fail
      exact ⟨⟨j + 1, by go_num, by omega, below_drewN HB5.out q⟩, by simp [intOf]; omega⟩
    · have hjl : ¬ (j : Int) < (is.length : Int) := by omega
      go_wp2_with fail
      go_loopw [9] (fun i wx => ∃ j : Nat, i = .int .i64 j /\ j <= ds.length /\ Hid (Below W.heap.size W wx)) (fun i _ => ds.length - (intOf i).toNat)
      case atStart => exact ⟨0, rfl, Nat.zero_le _, hbl⟩
      case round =>
        clear x0 x1 y0 y1 hbl hwr hlx' hly' hj hlt hjl
        obtain ⟨j, rfl, hj, hbl⟩ := hrel
        obtain ⟨⟨x0, x1⟩, y0, y1⟩ := HCELL.out _ hbl.out
        by_cases hlt : j < ds.length
        · have hjl : (j : Int) < (ds.length : Int) := by omega
          obtain ⟨g, c0, c1, c2, c3, c4, c5, c6, c7, c8, c9, c10, c11, c12, c13, c14, rfl, hg1, hc1, ht1⟩ := dec_at HDA.out hlt
          obtain ⟨g', d0, d1, d2, d3, d4, d5, d6, d7, d8, d9, d10, d11, d12, d13, d14, rfl, hg2, hc2, ht2⟩ := dec_at HDB.out hlt
          have HSK : Hid (∀ wx, Below wr.heap.size wr wx -> wx.cell? ⟨w.heap.size, 1, none⟩ = some (.slice (some ⟨g, 0, none⟩) ds.length dc) /\ wx.cell? ⟨w.heap.size + 1, 1, none⟩ = some (.slice (some ⟨g', 0, none⟩) ds.length dc') /\ wx.cell? ⟨g, j * 15, none⟩ = some c0 /\ wx.cell? ⟨g, j * 15 + 1, none⟩ = some c1 /\ wx.cell? ⟨g, j * 15 + 2, none⟩ = some c2 /\ wx.cell? ⟨g, j * 15 + 3, none⟩ = some c3 /\ wx.cell? ⟨g, j * 15 + 4, none⟩ = some c4 /\ wx.cell? ⟨g, j * 15 + 5, none⟩ = some c5 /\ wx.cell? ⟨g, j * 15 + 6, none⟩ = some c6 /\ wx.cell? ⟨g, j * 15 + 7, none⟩ = some c7 /\ wx.cell? ⟨g, j * 15 + 8, none⟩ = some c8 /\ wx.cell? ⟨g, j * 15 + 9, none⟩ = some c9 /\ wx.cell? ⟨g, j * 15 + 10, none⟩ = some c10 /\ wx.cell? ⟨g, j * 15 + 11, none⟩ = some c11 /\ wx.cell? ⟨g, j * 15 + 12, none⟩ = some c12 /\ wx.cell? ⟨g, j * 15 + 13, none⟩ = some c13 /\ wx.cell? ⟨g, j * 15 + 14, none⟩ = some c14 /\ wx.cell? ⟨g', j * 15, none⟩ = some d0 /\ wx.cell? ⟨g', j * 15 + 1, none⟩ = some d1 /\ wx.cell? ⟨g', j * 15 + 2, none⟩ = some d2 /\ wx.cell? ⟨g', j * 15 + 3, none⟩ = some d3 /\ wx.cell? ⟨g', j * 15 + 4, none⟩ = some d4 /\ wx.cell? ⟨g', j * 15 + 5, none⟩ = some d5 /\ wx.cell? ⟨g', j * 15 + 6, none⟩ = some d6 /\ wx.cell? ⟨g', j * 15 + 7, none⟩ = some d7 /\ wx.cell? ⟨g', j * 15 + 8, none⟩ = some d8 /\ wx.cell? ⟨g', j * 15 + 9, none⟩ = some d9 /\ wx.cell? ⟨g', j * 15 + 10, none⟩ = some d10 /\ wx.cell? ⟨g', j * 15 + 11, none⟩ = some d11 /\ wx.cell? ⟨g', j * 15 + 12, none⟩ = some d12 /\ wx.cell? ⟨g', j * 15 + 13, none⟩ = some d13 /\ wx.cell? ⟨g', j * 15 + 14, none⟩ = some d14) := fun wx hwx => by
            have hB := below_next hbl.out hwx
            obtain ⟨⟨_, a1⟩, _, b1⟩ := HCELL.out wx hB
            obtain ⟨q0, q1, q2, q3, q4, q5, q6, q7, q8, q9, q10, q11, q12, q13, q14⟩ := hc1
            obtain ⟨p0, p1, p2, p3, p4, p5, p6, p7, p8, p9, p10, p11, p12, p13, p14⟩ := hc2
            exact ⟨a1, b1, (hB.cell (p := ⟨g, _, none⟩) hg1).trans q0, (hB.cell (p := ⟨g, _, none⟩) hg1).trans q1, (hB.cell (p := ⟨g, _, none⟩) hg1).trans q2, (hB.cell (p := ⟨g, _, none⟩) hg1).trans q3, (hB.cell (p := ⟨g, _, none⟩) hg1).trans q4, (hB.cell (p := ⟨g, _, none⟩) hg1).trans q5, (hB.cell (p := ⟨g, _, none⟩) hg1).trans q6, (hB.cell (p := ⟨g, _, none⟩) hg1).trans q7, (hB.cell (p := ⟨g, _, none⟩) hg1).trans q8, (hB.cell (p := ⟨g, _, none⟩) hg1).trans q9, (hB.cell (p := ⟨g, _, none⟩) hg1).trans q10, (hB.cell (p := ⟨g, _, none⟩) hg1).trans q11, (hB.cell (p := ⟨g, _, none⟩) hg1).trans q12, (hB.cell (p := ⟨g, _, none⟩) hg1).trans q13, (hB.cell (p := ⟨g, _, none⟩) hg1).trans q14, (hB.cell (p := ⟨g', _, none⟩) hg2).trans p0, (hB.cell (p := ⟨g', _, none⟩) hg2).trans p1, (hB.cell (p := ⟨g', _, none⟩) hg2).trans p2, (hB.cell (p := ⟨g', _, none⟩) hg2).trans p3, (hB.cell (p := ⟨g', _, none⟩) hg2).trans p4, (hB.cell (p := ⟨g', _, none⟩) hg2).trans p5, (hB.cell (p := ⟨g', _, none⟩) hg2).trans p6, (hB.cell (p := ⟨g', _, none⟩) hg2).trans p7, (hB.cell (p := ⟨g', _, none⟩) hg2).trans p8, (hB.cell (p := ⟨g', _, none⟩) hg2).trans p9, (hB.cell (p := ⟨g', _, none⟩) hg2).trans p10, (hB.cell (p := ⟨g', _, none⟩) hg2).trans p11, (hB.cell (p := ⟨g', _, none⟩) hg2).trans p12, (hB.cell (p := ⟨g', _, none⟩) hg2).trans p13, (hB.cell (p := ⟨g', _, none⟩) hg2).trans p14⟩
          have HC : Hid (∀ wx, Below wr.heap.size wr wx -> Calls prog 15 #[.agg #[c0, c1, c2, c3, c4, c5, c6, c7, c8, c9, c10, c11, c12, c13, c14], .agg #[d0, d1, d2, d3, d4, d5, d6, d7, d8, d9, d10, d11, d12, d13, d14]] wx fun e w' => e = .returned (.bool true) /\ Below wr.heap.size wr w') := fun wx hwx => by
            have hB := below_next hbl.out hwx
            exact (decls_same (declC_k.keep ht1 hB.size fun b _ hl => hB.block b hl) (declC_k.keep ht2 hB.size fun b _ hl => hB.block b hl)).mono fun e w' ⟨e1, e2⟩ => ⟨e1, below_next hwx e2⟩
          have hS0 := HSK.out wr.drew (Below.refl _ _).drew
          clear hc1 hc2 ht1 ht2
          go_wp2_with fail
          go_region_held (fun W => W.cell? ⟨w.heap.size, 1, none⟩ = some (.slice (some ⟨g, 0, none⟩) ds.length dc) /\ W.cell? ⟨w.heap.size + 1, 1, none⟩ = some (.slice (some ⟨g', 0, none⟩) ds.length dc') /\ W.cell? ⟨g, j * 15, none⟩ = some c0 /\ W.cell? ⟨g, j * 15 + 1, none⟩ = some c1 /\ W.cell? ⟨g, j * 15 + 2, none⟩ = some c2 /\ W.cell? ⟨g, j * 15 + 3, none⟩ = some c3 /\ W.cell? ⟨g, j * 15 + 4, none⟩ = some c4 /\ W.cell? ⟨g, j * 15 + 5, none⟩ = some c5 /\ W.cell? ⟨g, j * 15 + 6, none⟩ = some c6 /\ W.cell? ⟨g, j * 15 + 7, none⟩ = some c7 /\ W.cell? ⟨g, j * 15 + 8, none⟩ = some c8 /\ W.cell? ⟨g, j * 15 + 9, none⟩ = some c9 /\ W.cell? ⟨g, j * 15 + 10, none⟩ = some c10 /\ W.cell? ⟨g, j * 15 + 11, none⟩ = some c11 /\ W.cell? ⟨g, j * 15 + 12, none⟩ = some c12 /\ W.cell? ⟨g, j * 15 + 13, none⟩ = some c13 /\ W.cell? ⟨g, j * 15 + 14, none⟩ = some c14 /\ W.cell? ⟨g', j * 15, none⟩ = some d0 /\ W.cell? ⟨g', j * 15 + 1, none⟩ = some d1 /\ W.cell? ⟨g', j * 15 + 2, none⟩ = some d2 /\ W.cell? ⟨g', j * 15 + 3, none⟩ = some d3 /\ W.cell? ⟨g', j * 15 + 4, none⟩ = some d4 /\ W.cell? ⟨g', j * 15 + 5, none⟩ = some d5 /\ W.cell? ⟨g', j * 15 + 6, none⟩ = some d6 /\ W.cell? ⟨g', j * 15 + 7, none⟩ = some d7 /\ W.cell? ⟨g', j * 15 + 8, none⟩ = some d8 /\ W.cell? ⟨g', j * 15 + 9, none⟩ = some d9 /\ W.cell? ⟨g', j * 15 + 10, none⟩ = some d10 /\ W.cell? ⟨g', j * 15 + 11, none⟩ = some d11 /\ W.cell? ⟨g', j * 15 + 12, none⟩ = some d12 /\ W.cell? ⟨g', j * 15 + 13, none⟩ = some d13 /\ W.cell? ⟨g', j * 15 + 14, none⟩ = some d14) (assumption) (first
            | (go_at_call 15; refine (HC.out _ (by first | exact Below.refl _ _ | exact below_drewN (Below.refl _ _) _ | exact (Below.refl _ _).drew)).mono ?_; rintro e w5 ⟨rfl, hb5⟩; have t5 := HSK.out _ hb5; have HB5 := hideP hb5; clear hb5))
          all_goals go_wp2_with fail
          all_goals exact ⟨⟨j + 1, by go_num, by omega, below_next hbl.out HB5.out⟩, by simp [intOf]; omega⟩
        · have hjl : ¬ (j : Int) < (ds.length : Int) := by omega
          go_wp2_with fail
          go_ret
          exact ⟨rfl, below_next HB0.out hbl.out⟩
end Go.Proofs.YtlhmofphpfdjlaaGreatDoor
