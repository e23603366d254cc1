/- Part of the proof of ParseTypes: the texts that follow, in build order. -/
import Derived.Test.YtfjlkkohccihnabGreatDoorPart26
import Derived.Test.YtfjlkkohccihnabGreatDoorPart7
import Derived.Test.YtfjlkkohccihnabGreatDoorPart22

/- graduslaw04.Nodes: of the same trees it answers true. -/
namespace Go.Proofs.YtfjlkkohccihnabGreatDoor
open Go.RowKit

theorem tyF_any {w : World} {lo n : Nat} {v : Value} {D : Ty} (h : TyF w lo n v D) : TyAt w false n v D := by
  induction n generalizing v D with
  | zero => exact h.elim
  | succ n ih =>
    obtain ⟨k, nm, na, nc, ka, kc, ns, ks, h1, h2, h3, h4, h5, h6, h7, h8, h9⟩ := h
    refine ⟨k, nm, na, nc, ka, kc, ns, ks, h1, h2, h3, h4, h5, h6, h7, h8.at, ?_⟩
    rcases h9 with h9 | ⟨b, o, e, _, hcl, hc⟩
    · exact .inl h9
    · refine .inr ⟨b, o, e, clean_lt hcl, clean_frozen hcl, (fun e => by cases e), fun i hi => ?_⟩
      obtain ⟨c0, c1, c2, c3, e0, e1, e2, e3, ht⟩ := hc i hi
      exact ⟨c0, c1, c2, c3, e0, e1, e2, e3, ih ht⟩
theorem kidsF_any {w : World} {lo n : Nat} {ka : Option Addr} {ks : List Ty} (h : KidsF w lo n ka ks) : KidsAt w false n ka ks := by
  rcases h with h9 | ⟨b, o, e, _, hcl, hc⟩
  · exact .inl h9
  · refine .inr ⟨b, o, e, clean_lt hcl, clean_frozen hcl, (fun e => by cases e), fun i hi => ?_⟩
    obtain ⟨c0, c1, c2, c3, e0, e1, e2, e3, ht⟩ := hc i hi
    exact ⟨c0, c1, c2, c3, e0, e1, e2, e3, tyF_any ht⟩

/-- Nodes answers true of two expressions with the same tree. -/
def NodesAt (n : Nat) : Prop := ∀ (x y : NV) (D : Ty) (lo lo' : Nat) (w : World), NodeF w lo n x D → NodeF w lo' n y D → Calls Tryz.prog 11 #[x.val, y.val] w fun e w' => e = .returned (.bool true) ∧ Below w.heap.size w w'

set_option maxRecDepth 100000 in
set_option maxHeartbeats 4000000 in
theorem nodes_same : ∀ n, NodesAt n
  | 0 => fun _ _ _ _ _ _ h => h.elim
  | n + 1 => fun x y D lo lo' w h h' => by
    obtain ⟨tys, ns, ks, hD, ⟨hx1, hx2, hx3⟩, ⟨hl1, hl2, hl3⟩, ht, hn, hk⟩ := h
    obtain ⟨tys', ns', ks', hD', ⟨hy1, hy2, hy3⟩, _, ht', hn', hk'⟩ := h'
    obtain ⟨k, tx, N, li, co, ta, tl, tc, na, nl, nc, ka, kl, kc⟩ := x
    obtain ⟨k', tx', N', li', co', ta', tl', tc', na', nl', nc', ka', kl', kc'⟩ := y
    dsimp only at hD hD' hx1 hx2 hx3 hy1 hy2 hy3 ht hn hk ht' hn' hk'
    obtain ⟨rfl, e2, rfl, rfl, rfl, rfl, rfl, rfl⟩ := mkE_inj (hD.symm.trans hD')
    obtain rfl : tx = tx' := by cases tx; cases tx'; simp at e2; rw [e2]
    subst hx1 hx2 hx3 hy1 hy2 hy3
    clear hD hD' e2
    obtain ⟨W, hW⟩ : ∃ W, W = (w.alloc (NV.obj ⟨k, tx, N, li, co, ta, tys.length, tc, na, ns.length, nc, ka, ks.length, kc⟩)).alloc (NV.obj ⟨k, tx, N, li, co, ta', tys.length, tc', na', ns.length, nc', ka', ks.length, kc'⟩) := ⟨_, rfl⟩
    have hb0 : Below w.heap.size w W := by rw [hW]; exact below_next (bl_alloc _ _) (bl_alloc _ _)
    have HXA : Hid (W.heap[w.heap.size]? = some (NV.obj ⟨k, tx, N, li, co, ta, tys.length, tc, na, ns.length, nc, ka, ks.length, kc⟩)) := by rw [hW]; exact (Below.heap_alloc _ _ _ (by simp)).trans (heap_alloc_last w _)
    have HXB : Hid (W.heap[w.heap.size + 1]? = some (NV.obj ⟨k, tx, N, li, co, ta', tys.length, tc', na', ns.length, nc', ka', ks.length, kc'⟩)) := by rw [hW]; exact heap_at1 w _ _
    have HC1 := hideP (texts_same na na' nc nc' ns W (names_below hn.at hb0) (names_below hn'.at hb0) (by omega))
    have HC2 : Hid (∀ wx, Below W.heap.size W wx → Calls Tryz.prog 28 #[.slice ta tys.length tc, .slice ta' tys.length tc'] wx fun e w' => e = .returned (.bool true) ∧ Below wx.heap.size wx w') := fun wx hwx => kinds_same n (one_same n) ta ta' tc tc' tys wx (kids_below (kidsF_any ht) (below_next hb0 hwx)) (kids_below (kidsF_any ht') (below_next hb0 hwx)) (by omega)
    have HCELL : Hid (∀ wx, Below W.heap.size W wx → wx.heap[w.heap.size]? = some (NV.obj ⟨k, tx, N, li, co, ta, tys.length, tc, na, ns.length, nc, ka, ks.length, kc⟩) ∧ wx.heap[w.heap.size + 1]? = some (NV.obj ⟨k, tx, N, li, co, ta', tys.length, tc', na', ns.length, nc', ka', ks.length, kc'⟩)) := fun wx hwx => ⟨(hwx.block _ (lt_of_block HXA.out)).trans HXA.out, (hwx.block _ (lt_of_block HXB.out)).trans HXB.out⟩
    have HKA := hideP (nodesF_below hk hb0)
    have HKB := hideP (nodesF_below hk' hb0)
    have HB0 := hideP hb0
    have IH := hideP (nodes_same n)
    have e3 : (tx.toList == tx.toList) = true := by simp
    have hks : ks.length ≤ 100000 := hl3
    clear ht hn hk ht' hn' hk' hb0 hl1 hl2 hl3
    obtain ⟨⟨x0, x1, x2, x3, x4, x5, x6, x7⟩, _, hltx⟩ := box8 HXA.out
    obtain ⟨⟨y0, y1, y2, y3, y4, y5, y6, y7⟩, _, hlty⟩ := box8 HXB.out
    go_enter Tryz.func11, Tryz.ntmps11
    go_wp2_with fail
    rw [← hW]
    clear hW
    refine HC1.out.mono ?_
    rintro e w1 ⟨rfl, q, rfl⟩
    have hb1 : Below W.heap.size W (W.drewN q) := below_drewN (Below.refl _ _) q
    have HB1 := hideP hb1
    clear hb1
    go_wp2_with fail
    refine (HC2.out _ HB1.out).mono ?_
    rintro e w2 ⟨rfl, hb2⟩
    have HB2 := hideP (below_next HB1.out hb2)
    clear hb2
    obtain ⟨⟨x0, x1, x2, x3, x4, x5, x6, x7⟩, _, hltx⟩ := box8 (HCELL.out w2 HB2.out).1
    obtain ⟨⟨y0, y1, y2, y3, y4, y5, y6, y7⟩, _, hlty⟩ := box8 (HCELL.out w2 HB2.out).2
    go_wp2_with fail
    go_loopw [7] (fun i wx => ∃ j : Nat, i = .int .i64 j ∧ j ≤ ks.length ∧ Hid (Below W.heap.size W wx)) (fun i _ => ks.length - (intOf i).toNat)
    case atStart => exact ⟨0, rfl, Nat.zero_le _, HB2⟩
    case round =>
      obtain ⟨j, rfl, hj, hbl⟩ := hrel
      clear x0 x1 x2 x3 x4 x5 x6 x7 y0 y1 y2 y3 y4 y5 y6 y7
      obtain ⟨⟨x0, x1, x2, x3, x4, x5, x6, x7⟩, _, hltx⟩ := box8 (HCELL.out wr hbl.out).1
      obtain ⟨⟨y0, y1, y2, y3, y4, y5, y6, y7⟩, _, hlty⟩ := box8 (HCELL.out wr hbl.out).2
      clear x0 x1 x2 x3 x4 x5 x6 y0 y1 y2 y3 y4 y5 y6
      by_cases hlt : j < ks.length
      · have hjl : (j : Int) < (ks.length : Int) := by omega
        obtain ⟨b, o, u, rfl, hb1, hc1, ht1⟩ := node_at HKA.out hlt
        obtain ⟨b', o', v, rfl, hb2, hc2, ht2⟩ := node_at HKB.out hlt
        have HSK : Hid (∀ wx, Below wr.heap.size wr wx → wx.cell? ⟨w.heap.size, 7, none⟩ = some (.slice (some ⟨b, o, none⟩) ks.length kc) ∧ wx.cell? ⟨w.heap.size + 1, 7, none⟩ = some (.slice (some ⟨b', o', none⟩) ks.length kc') ∧ wx.cell? ⟨b, o + j * 8, none⟩ = some (.int .i64 u.k) ∧ wx.cell? ⟨b, o + j * 8 + 1, none⟩ = some (.string u.tx) ∧ wx.cell? ⟨b, o + j * 8 + 2, none⟩ = some (.int .i64 u.N) ∧ wx.cell? ⟨b, o + j * 8 + 3, none⟩ = some (.int .i64 u.li) ∧ wx.cell? ⟨b, o + j * 8 + 4, none⟩ = some (.int .i64 u.co) ∧ wx.cell? ⟨b, o + j * 8 + 5, none⟩ = some (.slice u.ta u.tl u.tc) ∧ wx.cell? ⟨b, o + j * 8 + 6, none⟩ = some (.slice u.na u.nl u.nc) ∧ wx.cell? ⟨b, o + j * 8 + 7, none⟩ = some (.slice u.ka u.kl u.kc) ∧ wx.cell? ⟨b', o' + j * 8, none⟩ = some (.int .i64 v.k) ∧ wx.cell? ⟨b', o' + j * 8 + 1, none⟩ = some (.string v.tx) ∧ wx.cell? ⟨b', o' + j * 8 + 2, none⟩ = some (.int .i64 v.N) ∧ wx.cell? ⟨b', o' + j * 8 + 3, none⟩ = some (.int .i64 v.li) ∧ wx.cell? ⟨b', o' + j * 8 + 4, none⟩ = some (.int .i64 v.co) ∧ wx.cell? ⟨b', o' + j * 8 + 5, none⟩ = some (.slice v.ta v.tl v.tc) ∧ wx.cell? ⟨b', o' + j * 8 + 6, none⟩ = some (.slice v.na v.nl v.nc) ∧ wx.cell? ⟨b', o' + j * 8 + 7, none⟩ = some (.slice v.ka v.kl v.kc)) := fun wx hwx => by
          have hB := below_next hbl.out hwx
          have g1 := hc1.keep (hB.block b hb1)
          have g2 := hc2.keep (hB.block b' hb2)
          refine ⟨(box8 (HCELL.out wx hB).1).1.2.2.2.2.2.2.2, (box8 (HCELL.out wx hB).2).1.2.2.2.2.2.2.2, ?_⟩
          obtain ⟨p0, p1, p2, p3, p4, p5, p6, p7⟩ := g1
          exact ⟨p0, p1, p2, p3, p4, p5, p6, p7, g2⟩
        have HC : Hid (∀ wx, Below wr.heap.size wr wx → Calls Tryz.prog 11 #[u.val, v.val] wx fun e w' => e = .returned (.bool true) ∧ Below wr.heap.size wr w') := fun wx hwx =>
          (IH.out _ _ ks[j] lo lo' wx (nodeF_below ht1 (below_next hbl.out hwx)) (nodeF_below ht2 (below_next hbl.out hwx))).mono fun e w' ⟨e1, e2⟩ => ⟨e1, below_next hwx e2⟩
        have hS0 := HSK.out wr.drew (Below.refl _ _).drew
        clear hc1 hc2 ht1 ht2
        go_wp2_with fail
        go_region_held (fun W => W.cell? ⟨w.heap.size, 7, none⟩ = some (.slice (some ⟨b, o, none⟩) ks.length kc) ∧ W.cell? ⟨w.heap.size + 1, 7, none⟩ = some (.slice (some ⟨b', o', none⟩) ks.length kc') ∧ W.cell? ⟨b, o + j * 8, none⟩ = some (.int .i64 u.k) ∧ W.cell? ⟨b, o + j * 8 + 1, none⟩ = some (.string u.tx) ∧ W.cell? ⟨b, o + j * 8 + 2, none⟩ = some (.int .i64 u.N) ∧ W.cell? ⟨b, o + j * 8 + 3, none⟩ = some (.int .i64 u.li) ∧ W.cell? ⟨b, o + j * 8 + 4, none⟩ = some (.int .i64 u.co) ∧ W.cell? ⟨b, o + j * 8 + 5, none⟩ = some (.slice u.ta u.tl u.tc) ∧ W.cell? ⟨b, o + j * 8 + 6, none⟩ = some (.slice u.na u.nl u.nc) ∧ W.cell? ⟨b, o + j * 8 + 7, none⟩ = some (.slice u.ka u.kl u.kc) ∧ W.cell? ⟨b', o' + j * 8, none⟩ = some (.int .i64 v.k) ∧ W.cell? ⟨b', o' + j * 8 + 1, none⟩ = some (.string v.tx) ∧ W.cell? ⟨b', o' + j * 8 + 2, none⟩ = some (.int .i64 v.N) ∧ W.cell? ⟨b', o' + j * 8 + 3, none⟩ = some (.int .i64 v.li) ∧ W.cell? ⟨b', o' + j * 8 + 4, none⟩ = some (.int .i64 v.co) ∧ W.cell? ⟨b', o' + j * 8 + 5, none⟩ = some (.slice v.ta v.tl v.tc) ∧ W.cell? ⟨b', o' + j * 8 + 6, none⟩ = some (.slice v.na v.nl v.nc) ∧ W.cell? ⟨b', o' + j * 8 + 7, none⟩ = some (.slice v.ka v.kl v.kc)) (with_reducible assumption) (first
          | (go_at_call 11; refine (HC.out _ (by first | exact Below.refl _ _ | exact below_drewN (Below.refl _ _) _ | exact (Below.refl _ _).drew)).mono ?_; rintro e w5 ⟨rfl, hb5⟩; have t5 := HSK.out _ hb5; have HB5 := hideP hb5; clear hb5))
        all_goals go_wp2_with fail
        all_goals exact ⟨⟨j + 1, by go_num, by omega, below_next hbl.out HB5.out⟩, by simp [intOf]; omega⟩
      · have hjl : ¬ (j : Int) < (ks.length : Int) := by omega
        go_wp2_with fail
        go_ret
        exact ⟨rfl, below_next HB0.out hbl.out⟩
end Go.Proofs.YtfjlkkohccihnabGreatDoor

/- ParseTypes: the walk. -/
namespace Go.Proofs.YtfjlkkohccihnabGreatDoor
open Go.RowKit

/-- What a text's type is, and where its fault lies; noughts where there is none. -/
def tyT : Ty ⊕ (Int × Nat × Nat) → Ty
  | .inl D => D
  | .inr _ => mkT 0 [] [] []
def dgT : Ty ⊕ (Int × Nat × Nat) → Int × Nat × Nat
  | .inl _ => (0, 0, 0)
  | .inr p => p
theorem wpost_ty {w : World} {R : Ty ⊕ (Int × Nat × Nat)} {e : Ending} {w' : World} (h : WPost w zTy TyE R e w') : Below w.heap.size w w' ∧ ∃ (k : Int) (nm : ByteArray) (na : Option Addr) (nl nc : Nat) (ka : Option Addr) (kl kc : Nat), e = .returned (.tuple #[.agg #[.int .i64 k, .string nm, .slice na nl nc, .slice ka kl kc], diagV (dgT R).2.1 (dgT R).2.2 (dgT R).1]) ∧ TyE w.heap.size w' (.agg #[.int .i64 k, .string nm, .slice na nl nc, .slice ka kl kc]) (tyT R) := by
  obtain ⟨hb, hm⟩ := h
  refine ⟨hb, ?_⟩
  cases R with
  | inl D =>
    obtain ⟨v, rfl, hv⟩ := hm
    obtain ⟨k1, nm1, na1, nl1, nc1, ka1, kl1, kc1, rfl⟩ := hv.cells
    exact ⟨k1, nm1, na1, nl1, nc1, ka1, kl1, kc1, rfl, hv⟩
  | inr p =>
    obtain ⟨er, li, co⟩ := p
    exact ⟨0, ⟨#[]⟩, none, 0, 0, none, 0, 0, hm, rtyE_kids (m := 0) (ks := []) (by decide) (.inl rfl) (by simp) (by simp)⟩

/-- One type in a row of its own, as the types of a node without else. -/
theorem nd_types {lo g : Nat} {w : World} {k : Int} {nm : ByteArray} {na : Option Addr} {nl nc : Nat} {ka : Option Addr} {kl kc : Nat} {D : Ty} (h : TyE lo w (.agg #[.int .i64 k, .string nm, .slice na nl nc, .slice ka kl kc]) D) (hg : w.heap[g]? = some (tyO k nm na nl nc ka kl kc)) (hl : lo ≤ g) :
    NdV lo w ⟨0, ⟨#[]⟩, 0, 0, 0, some ⟨g, 0, none⟩, 1, 1, none, 0, 0, none, 0, 0⟩ (mkE 0 [] 0 0 0 [D] [] []) := by
  obtain ⟨m, h⟩ := h
  refine ⟨m + 1, [D], [], [], rfl, ⟨rfl, rfl, rfl⟩, ⟨by simp, by simp, by simp⟩, .inr ⟨g, 0, rfl, hl, ⟨_, _, hg⟩, fun i hi => ?_⟩, .inl rfl, .inl rfl⟩
  match i, hi with
  | 0, _ => exact ⟨_, _, _, _, by rw [cell_of_row _ _ _ _ _ _ hg]; rfl, by rw [cell_of_row _ _ _ _ _ _ hg]; rfl, by rw [cell_of_row _ _ _ _ _ _ hg]; rfl, by rw [cell_of_row _ _ _ _ _ _ hg]; rfl, h⟩

set_option maxRecDepth 100000 in
set_option maxHeartbeats 4000000 in
theorem parseTypes_walk (a : ByteArray) (w : World) (hw : Base5 w) (hs : a.size ≤ 140737488351232) :
    Calls Tryz.prog 4 #[.string a] w fun e w' => e = .returned (.bool true) ∧ Below w.heap.size w w' := by
  have HW := hideP hw
  have HA := hideP (awake5_c w hw)
  clear hw
  have hz : ((a.size : Int) ≤ 9223372036854775807) := by omega
  go_enter Tryz.func4, Tryz.ntmps4
  go_wp2_with fail
  refine HA.out.mono ?_
  rintro e w1 ⟨rfl, hb1⟩
  have HB1 := hideP hb1
  clear hb1 HA
  by_cases hlong : (70000 : Int) < (a.size : Int)
  · go_wp2_with fail
    go_ret
    exact ⟨rfl, HB1.out⟩
  go_wp2_with fail
  obtain ⟨R, hR⟩ : ∃ R, R = typeTextV a.data.toList := ⟨_, rfl⟩
  have HR := hideP hR
  refine (parseType_c a hs _ (HW.out.lx.below HB1.out)).mono ?_
  rw [← hR]
  clear hR
  intro e w2 hpost
  obtain ⟨hb2, k1, nm1, na1, nl1, nc1, ka1, kl1, kc1, rfl, hv1⟩ := wpost_ty hpost
  have HB2 := hideP (below_next HB1.out hb2)
  have HV1 := hideP hv1
  clear hpost hb2 hv1
  obtain ⟨li, hli⟩ : ∃ x, x = (dgT R).2.1 := ⟨_, rfl⟩
  obtain ⟨co, hco⟩ : ∃ x, x = (dgT R).2.2 := ⟨_, rfl⟩
  obtain ⟨er, her⟩ : ∃ x, x = (dgT R).1 := ⟨_, rfl⟩
  rw [← hli, ← hco, ← her]
  have HG := hideP (And.intro hli (And.intro hco her))
  clear hli hco her
  have hB2 := below_next (bl_alloc w2 (tyO k1 nm1 na1 nl1 nc1 ka1 kl1 kc1)) (bl_alloc _ (dgO li co er))
  have HBw := hideP (below_next HB2.out hB2)
  have HAw := hideP ((Below.heap_alloc (w2.alloc (tyO k1 nm1 na1 nl1 nc1 ka1 kl1 kc1)) (dgO li co er) _ (by rw [World.size_alloc]; omega)).trans (heap_alloc_last w2 (tyO k1 nm1 na1 nl1 nc1 ka1 kl1 kc1)))
  have HDw := hideP (heap_at1 w2 (tyO k1 nm1 na1 nl1 nc1 ka1 kl1 kc1) (dgO li co er))
  have HVw := hideP ((HV1.out.alloc (tyO k1 nm1 na1 nl1 nc1 ka1 kl1 kc1)).alloc (dgO li co er))
  clear hB2 HV1 HB2
  go_wp2_with fail
  obtain ⟨ab, hab⟩ : ∃ ab, ab = w2.heap.size := ⟨_, rfl⟩
  rw [← hab] at HAw HDw ⊢
  clear hab
  generalize (w2.alloc (tyO k1 nm1 na1 nl1 nc1 ka1 kl1 kc1)).alloc (dgO li co er) = W2 at HBw HAw HDw HVw ⊢
  refine (rType_c a hs _).mono ?_
  rw [← HR.out]
  intro e w3 hpost
  obtain ⟨hb3, k2, nm2, na2, nl2, nc2, ka2, kl2, kc2, rfl, hv2⟩ := wpost_ty hpost
  rw [← HG.out.1, ← HG.out.2.1, ← HG.out.2.2]
  have hB3 := below_next hb3 (below_next (bl_alloc w3 (tyO k2 nm2 na2 nl2 nc2 ka2 kl2 kc2)) (bl_alloc _ (dgO li co er)))
  have HB3 := hideP (below_next HBw.out hB3)
  have HA3 := hideP ((hB3.block _ (lt_of_block HAw.out)).trans HAw.out)
  have HD3 := hideP ((hB3.block _ (lt_of_block HDw.out)).trans HDw.out)
  have HV3 := hideP (HVw.out.keep hB3.size fun b _ hl => hB3.block b hl)
  have HE3 := hideP ((Below.heap_alloc (w3.alloc (tyO k2 nm2 na2 nl2 nc2 ka2 kl2 kc2)) (dgO li co er) _ (by rw [World.size_alloc]; omega)).trans (heap_alloc_last w3 (tyO k2 nm2 na2 nl2 nc2 ka2 kl2 kc2)))
  have HF3 := hideP (heap_at1 w3 (tyO k2 nm2 na2 nl2 nc2 ka2 kl2 kc2) (dgO li co er))
  have HU3 := hideP ((hv2.alloc (tyO k2 nm2 na2 nl2 nc2 ka2 kl2 kc2)).alloc (dgO li co er))
  have HS2 := hideP HBw.out.size
  clear hpost hb3 hv2 hB3 HBw HAw HDw HVw
  obtain ⟨⟨a0, a1, a2, a3⟩, _, hla⟩ := res_facts HA3.out
  obtain ⟨⟨e0, e1, e2, e3⟩, _, hle⟩ := res_facts HE3.out
  have hw0 := HB3.out.size
  have HSz : Hid (((w3.alloc (tyO k2 nm2 na2 nl2 nc2 ka2 kl2 kc2)).alloc (dgO li co er)).heap.size = w3.heap.size + 1 + 1) := by show _ = _; rw [World.size_alloc, World.size_alloc]
  have HW1 : Hid (w.heap.size ≤ w1.heap.size) := HB1.out.size
  have HW2 : Hid (w.heap.size ≤ W2.heap.size) := HS2.out
  go_wp2_with fail
  generalize (w3.alloc (.cells #[.int .i64 k2, .string nm2, .slice na2 nl2 nc2, .slice ka2 kl2 kc2] 36)).alloc (.cells #[.int .i64 0, .int .i64 li, .int .i64 co, .int .i64 er] 30) = W3 at HB3 HA3 HD3 HV3 HE3 HF3 HU3 hla hle a0 a1 a2 a3 e0 e1 e2 e3 hw0 HSz ⊢
  clear a0 a1 a2 a3 e0 e1 e2 e3
  have hr1 : ((W3.alloc (tyO k1 nm1 na1 nl1 nc1 ka1 kl1 kc1)).alloc (tyO k2 nm2 na2 nl2 nc2 ka2 kl2 kc2)).heap[w3.heap.size + 1 + 1]? = some (tyO k1 nm1 na1 nl1 nc1 ka1 kl1 kc1) := by
    rw [← HSz.out]
    exact (Below.heap_alloc _ _ _ (by rw [World.size_alloc]; omega)).trans (heap_alloc_last _ _)
  have hr2 : ((W3.alloc (tyO k1 nm1 na1 nl1 nc1 ka1 kl1 kc1)).alloc (tyO k2 nm2 na2 nl2 nc2 ka2 kl2 kc2)).heap[w3.heap.size + 1 + 1 + 1]? = some (tyO k2 nm2 na2 nl2 nc2 ka2 kl2 kc2) := by
    rw [← HSz.out]
    exact heap_at1 _ _ _
  have hsz := HSz.out
  have hx := nd_types (((HV3.out.lower HW1.out).alloc (tyO k1 nm1 na1 nl1 nc1 ka1 kl1 kc1)).alloc (tyO k2 nm2 na2 nl2 nc2 ka2 kl2 kc2)) hr1 (by omega)
  have hy := nd_types (((HU3.out.lower HW2.out).alloc (tyO k1 nm1 na1 nl1 nc1 ka1 kl1 kc1)).alloc (tyO k2 nm2 na2 nl2 nc2 ka2 kl2 kc2)) hr2 (by omega)
  obtain ⟨m1, hx⟩ := hx
  obtain ⟨m2, hy⟩ := hy
  refine (nodes_same (max m1 m2) _ _ _ _ _ _ (nodeF_mono hx (Nat.le_max_left _ _)) (nodeF_mono hy (Nat.le_max_right _ _))).mono ?_
  rintro e w4 ⟨rfl, hb4⟩
  have hB4 := below_next (below_next (bl_alloc W3 (tyO k1 nm1 na1 nl1 nc1 ka1 kl1 kc1)) (bl_alloc _ (tyO k2 nm2 na2 nl2 nc2 ka2 kl2 kc2))) hb4
  have HB4 := hideP (below_next HB3.out hB4)
  obtain ⟨⟨d0, d1, d2, d3⟩, _, hdl⟩ := res_facts ((hB4.block _ (lt_of_block HD3.out)).trans HD3.out)
  obtain ⟨⟨f0, f1, f2, f3⟩, _, hfl⟩ := res_facts ((hB4.block _ (lt_of_block HF3.out)).trans HF3.out)
  clear hx hy hr1 hr2 hb4 hB4
  go_wp2_with fail
  go_ret
  exact ⟨rfl, HB4.out⟩
end Go.Proofs.YtfjlkkohccihnabGreatDoor
