/- Part. -/
import Derived.Deep.Cut
import Derived.Deep.CutRange
import Derived.Test.YtlhmofphpfdjlaaGreatDoorPart16
set_option maxRecDepth 100000
set_option maxHeartbeats 4000000
/- graduslaw04.texts, kinds: of the same trees they answer true (one and Nodes are still to be done). -/
namespace Go.Proofs.YtlhmofphpfdjlaaGreatDoor
open Go.Proofs.Tryz
open Go.RowKit
theorem nameL_cell {w : World} {na : Option Addr} {ns : List (List UInt8)} (h : NamesAt w na ns) {i : Nat} (hi : i < ns.length) : ∃ b o, na = some ⟨b, o, none⟩ /\ b < w.heap.size /\ w.cell? ⟨b, o + i, none⟩ = some (.string ⟨ns[i].toArray⟩) := by
  rcases h with rfl | ⟨b, o, e, hb, hc⟩
  · cases hi
  · exact ⟨b, o, e, hb, hc i hi⟩
theorem texts_same (na nb : Option Addr) (ca cb : Nat) (ns : List (List UInt8)) (w : World) (ha : NamesAt w na ns) (hb : NamesAt w nb ns) (hl : ns.length <= 140737488351232) :
    Calls prog 14 #[.slice na ns.length ca, .slice nb ns.length cb] w fun e w' => e = .returned (.bool true) /\ ∃ q, w' = w.drewN q := by
  have HA := hideP ha
  have HB := hideP hb
  have e1 : ((ns.length : Int) != (ns.length : Int)) = false := by simp
  clear ha hb
  go_enter func14, ntmps14
  go_wp2_with fail
  go_loopw [5] (fun i wx => ∃ j q : Nat, i = .int .i64 j /\ j <= ns.length /\ wx = w.drewN q) (fun i _ => ns.length - (intOf i).toNat)
  case atStart => exact ⟨0, 0, rfl, Nat.zero_le _, rfl⟩
  case round =>
    obtain ⟨j, q, rfl, hj, rfl⟩ := hrel
    by_cases hlt : j < ns.length
    · have hjl : (j : Int) < (ns.length : Int) := by omega
      obtain ⟨b, o, rfl, hbl, hc⟩ := nameL_cell HA.out hlt
      obtain ⟨b', o', rfl, hbl', hc'⟩ := nameL_cell HB.out hlt
      obtain ⟨S1, hS1⟩ : ∃ S1 : ByteArray, S1 = ⟨ns[j].toArray⟩ := ⟨_, rfl⟩
      rw [<- hS1] at hc hc'
      have e5 : (S1.toList == S1.toList) = true := by simp
      clear hS1
      go_wp2_with fail
      go_quiet (fail)
      go_wp2_with fail
      exact ⟨⟨j + 1, _, by go_num, by omega, rfl⟩, by simp [intOf]; omega⟩
    · have hjl : ¬ (j : Int) < (ns.length : Int) := by omega
      go_wp2_with fail
      go_ret
      exact ⟨rfl, q, rfl⟩
/-- one answers true of two types with the same tree. -/
def OneAt (n : Nat) : Prop := ∀ (va vb : Value) (D : Ty) (w : World), TyAt w false n va D -> TyAt w false n vb D -> Calls prog 27 #[va, vb] w fun e w' => e = .returned (.bool true) /\ Below w.heap.size w w'
theorem kinds_same (n : Nat) (ih : OneAt n) (ka kb : Option Addr) (ca cb : Nat) (ks : List Ty) (w : World) (ha : KidsAt w false n ka ks) (hb : KidsAt w false n kb ks) (hl : ks.length <= 140737488351232) :
    Calls prog 28 #[.slice ka ks.length ca, .slice kb ks.length cb] w fun e w' => e = .returned (.bool true) /\ Below w.heap.size w w' := by
  have HA := hideP ha
  have HB := hideP hb
  have IH := hideP ih
  have e1 : ((ks.length : Int) != (ks.length : Int)) = false := by simp
  clear ha hb ih
  go_enter func28, ntmps28
  go_wp2_with fail
  go_loopw [5] (fun i wx => ∃ j : Nat, i = .int .i64 j /\ j <= ks.length /\ Hid (Below w.heap.size w wx)) (fun i _ => ks.length - (intOf i).toNat)
  case atStart => exact ⟨0, rfl, Nat.zero_le _, Below.refl _ _⟩
  case round =>
    obtain ⟨j, rfl, hj, hbl⟩ := hrel
    by_cases hlt : j < ks.length
    · have hjl : (j : Int) < (ks.length : Int) := by omega
      obtain ⟨b, o, k1, nm1, na1, nl1, nc1, la1, ll1, lc1, rfl, hb1, q0, q1, q2, q3, ht1⟩ := kid_at HA.out hlt
      obtain ⟨b', o', k2, nm2, na2, nl2, nc2, la2, ll2, lc2, rfl, hb2, p0, p1, p2, p3, ht2⟩ := kid_at HB.out hlt
      have HSK : Hid (∀ wx, Below wr.heap.size wr wx -> wx.cell? ⟨b, o + j * 4, none⟩ = some (.int .i64 k1) /\ wx.cell? ⟨b, o + j * 4 + 1, none⟩ = some (.string nm1) /\ wx.cell? ⟨b, o + j * 4 + 2, none⟩ = some (.slice na1 nl1 nc1) /\ wx.cell? ⟨b, o + j * 4 + 3, none⟩ = some (.slice la1 ll1 lc1) /\ wx.cell? ⟨b', o' + j * 4, none⟩ = some (.int .i64 k2) /\ wx.cell? ⟨b', o' + j * 4 + 1, none⟩ = some (.string nm2) /\ wx.cell? ⟨b', o' + j * 4 + 2, none⟩ = some (.slice na2 nl2 nc2) /\ wx.cell? ⟨b', o' + j * 4 + 3, none⟩ = some (.slice la2 ll2 lc2)) := fun wx hwx => by
        have hB := below_next hbl.out hwx
        exact ⟨(hB.cell (p := ⟨b, o + j * 4, none⟩) hb1).trans q0, (hB.cell (p := ⟨b, o + j * 4 + 1, none⟩) hb1).trans q1, (hB.cell (p := ⟨b, o + j * 4 + 2, none⟩) hb1).trans q2, (hB.cell (p := ⟨b, o + j * 4 + 3, none⟩) hb1).trans q3, (hB.cell (p := ⟨b', o' + j * 4, none⟩) hb2).trans p0, (hB.cell (p := ⟨b', o' + j * 4 + 1, none⟩) hb2).trans p1, (hB.cell (p := ⟨b', o' + j * 4 + 2, none⟩) hb2).trans p2, (hB.cell (p := ⟨b', o' + j * 4 + 3, none⟩) hb2).trans p3⟩
      have HC : Hid (∀ wx, Below wr.heap.size wr wx -> Calls prog 27 #[.agg #[.int .i64 k1, .string nm1, .slice na1 nl1 nc1, .slice la1 ll1 lc1], .agg #[.int .i64 k2, .string nm2, .slice na2 nl2 nc2, .slice la2 ll2 lc2]] wx fun e w' => e = .returned (.bool true) /\ Below wr.heap.size wr w') := fun wx hwx =>
        (IH.out _ _ ks[j] wx (ty_below ht1 (below_next hbl.out hwx)) (ty_below ht2 (below_next hbl.out hwx))).mono fun e w' ⟨e1, e2⟩ => ⟨e1, below_next hwx e2⟩
      have hS0 := HSK.out wr.drew (Below.refl _ _).drew
      clear q0 q1 q2 q3 p0 p1 p2 p3 ht1 ht2
      go_wp2_with fail
      go_region_held (fun W => W.cell? ⟨b, o + j * 4, none⟩ = some (.int .i64 k1) /\ W.cell? ⟨b, o + j * 4 + 1, none⟩ = some (.string nm1) /\ W.cell? ⟨b, o + j * 4 + 2, none⟩ = some (.slice na1 nl1 nc1) /\ W.cell? ⟨b, o + j * 4 + 3, none⟩ = some (.slice la1 ll1 lc1) /\ W.cell? ⟨b', o' + j * 4, none⟩ = some (.int .i64 k2) /\ W.cell? ⟨b', o' + j * 4 + 1, none⟩ = some (.string nm2) /\ W.cell? ⟨b', o' + j * 4 + 2, none⟩ = some (.slice na2 nl2 nc2) /\ W.cell? ⟨b', o' + j * 4 + 3, none⟩ = some (.slice la2 ll2 lc2)) (assumption) (first
        | (go_at_call 27; refine (HC.out _ (by first | exact Below.refl _ _ | exact below_drewN (Below.refl _ _) _ | exact (Below.refl _ _).drew)).mono ?_; rintro e w5 ⟨rfl, hb5⟩; have t5 := HSK.out _ hb5; have HB5 := hideP hb5; clear hb5))
      all_goals go_wp2_with fail
      all_goals exact ⟨⟨j + 1, by go_num, by omega, below_next hbl.out HB5.out⟩, by simp [intOf]; omega⟩
    · have hjl : ¬ (j : Int) < (ks.length : Int) := by omega
      go_wp2_with fail
      go_ret
      exact ⟨rfl, hbl.out⟩
theorem one_same : ∀ n, OneAt n
  | 0 => fun _ _ _ _ h => h.elim
  | n + 1 => fun va vb D w h h' => by
    obtain ⟨k, nm, na, nc, ka, kc, ns, ks, rfl, rfl, _, _, _, ⟨_, hnl⟩, ⟨_, hkl⟩, hns, hks⟩ := h
    obtain ⟨k', nm', na', nc', ka', kc', ns', ks', rfl, e, _, _, _, _, _, hns', hks'⟩ := h'
    obtain ⟨rfl, e2, rfl, rfl⟩ := mkT_inj e
    obtain rfl : nm = nm' := by cases nm; cases nm'; simp at e2; rw [e2]
    have hl1 : ns.length <= 140737488351232 := hnl
    have hl2 : ks.length <= 140737488351232 := hkl
    have hb0 : Below w.heap.size w ((w.alloc (tyO k nm na ns.length nc ka ks.length kc)).alloc (tyO k nm na' ns.length nc' ka' ks.length kc')) := below_next (bl_alloc _ _) (bl_alloc _ _)
    obtain ⟨W, hW⟩ : ∃ W, W = (w.alloc (tyO k nm na ns.length nc ka ks.length kc)).alloc (tyO k nm na' ns.length nc' ka' ks.length kc') := ⟨_, rfl⟩
    have hxa : W.heap[w.heap.size]? = some (tyO k nm na ns.length nc ka ks.length kc) := by rw [hW]; exact (Below.heap_alloc _ _ _ (by simp)).trans (heap_alloc_last w _)
    have hxb : W.heap[w.heap.size + 1]? = some (tyO k nm na' ns.length nc' ka' ks.length kc') := by rw [hW]; exact heap_at1 w _ _
    rw [<- hW] at hb0
    have HC1 := hideP (texts_same na na' nc nc' ns W (names_below hns hb0) (names_below hns' hb0) hl1)
    have HC2 : Hid (∀ wx, Below W.heap.size W wx -> Calls prog 28 #[.slice ka ks.length kc, .slice ka' ks.length kc'] wx fun e w' => e = .returned (.bool true) /\ Below wx.heap.size wx w') := fun wx hwx => kinds_same n (one_same n) ka ka' kc kc' ks wx (kids_below hks (below_next hb0 hwx)) (kids_below hks' (below_next hb0 hwx)) hl2
    have HXA := hideP hxa
    have HXB := hideP hxb
    have HN1 : Hid (∀ w1, (∃ q, w1 = W.drewN q) -> Hid (Below W.heap.size W w1) /\ Hid (∀ wx, Below w1.heap.size w1 wx -> wx.cell? ⟨w.heap.size, 0, none⟩ = some (.int .i64 k) /\ wx.cell? ⟨w.heap.size, 1, none⟩ = some (.string nm) /\ wx.cell? ⟨w.heap.size, 3, none⟩ = some (.slice ka ks.length kc) /\ wx.cell? ⟨w.heap.size + 1, 0, none⟩ = some (.int .i64 k) /\ wx.cell? ⟨w.heap.size + 1, 1, none⟩ = some (.string nm) /\ wx.cell? ⟨w.heap.size + 1, 3, none⟩ = some (.slice ka' ks.length kc'))) := by
      rintro w1 ⟨q, rfl⟩
      refine ⟨below_drewN (Below.refl _ _) _, fun wx hwx => ?_⟩
      have hB := below_next (below_drewN (Below.refl W.heap.size W) q) hwx
      have hs : W.heap.size = w.heap.size + 2 := by rw [hW]; simp
      have ha : ∀ o, wx.cell? ⟨w.heap.size, o, none⟩ = W.cell? ⟨w.heap.size, o, none⟩ := fun o => hB.cell (p := ⟨w.heap.size, o, none⟩) (by show w.heap.size < W.heap.size; omega)
      have hb : ∀ o, wx.cell? ⟨w.heap.size + 1, o, none⟩ = W.cell? ⟨w.heap.size + 1, o, none⟩ := fun o => hB.cell (p := ⟨w.heap.size + 1, o, none⟩) (by show w.heap.size + 1 < W.heap.size; omega)
      rw [ha, ha, ha, hb, hb, hb]
      simp [World.cell?, hxa, hxb, tyO]
    have HB0 := hideP hb0
    subst hW
    have e3 : (nm.toList == nm.toList) = true := by simp
    clear hns hns' hks hks' hb0 hxa hxb e e2 hnl hkl
    go_enter func27, ntmps27
    go_wp2_with fail
    refine HC1.out.mono ?_
    rintro e w1 ⟨rfl, hq⟩
    obtain ⟨HB1, HS1⟩ := HN1.out _ hq
    obtain ⟨a0, a1, a3, b0, b1, b3⟩ := HS1.out w1 (Below.refl _ _)
    clear hq
    go_wp2_with fail
    refine (HC2.out w1 HB1.out).mono ?_
    rintro e w2 ⟨rfl, hb2⟩
    obtain ⟨a0, a1, a3, b0, b1, b3⟩ := HS1.out w2 hb2
    have HB2 := hideP hb2
    clear hb2
    go_wp2_with fail
    go_ret
    exact ⟨rfl, below_next HB0.out (below_next HB1.out HB2.out)⟩
end Go.Proofs.YtlhmofphpfdjlaaGreatDoor
/- graduslaw04.Nodes: of the same trees it answers true. -/
namespace Go.Proofs.YtlhmofphpfdjlaaGreatDoor
open Go.Proofs.Tryz
open Go.RowKit
theorem tyF_any {w : World} {lo n : Nat} {v : Value} {D : Ty} (h : TyF w lo n v D) : TyAt w false n v D := by
  induction n generalizing v D with
  | zero => exact h.elim
  | succ n ih =>
    obtain ⟨k, nm, na, nc, ka, kc, ns, ks, h1, h2, h3, h4, h5, h6, h7, h8, h9⟩ := h
    refine ⟨k, nm, na, nc, ka, kc, ns, ks, h1, h2, h3, h4, h5, h6, h7, h8.at, ?_⟩
    rcases h9 with h9 | ⟨b, o, e, _, hcl, hc⟩
    · exact .inl h9
    · refine .inr ⟨b, o, e, clean_lt hcl, clean_frozen hcl, (fun e => by cases e), fun i hi => ?_⟩
      obtain ⟨c0, c1, c2, c3, e0, e1, e2, e3, ht⟩ := hc i hi
      exact ⟨c0, c1, c2, c3, e0, e1, e2, e3, ih ht⟩
theorem kidsF_any {w : World} {lo n : Nat} {ka : Option Addr} {ks : List Ty} (h : KidsF w lo n ka ks) : KidsAt w false n ka ks := by
  rcases h with h9 | ⟨b, o, e, _, hcl, hc⟩
  · exact .inl h9
  · refine .inr ⟨b, o, e, clean_lt hcl, clean_frozen hcl, (fun e => by cases e), fun i hi => ?_⟩
    obtain ⟨c0, c1, c2, c3, e0, e1, e2, e3, ht⟩ := hc i hi
    exact ⟨c0, c1, c2, c3, e0, e1, e2, e3, tyF_any ht⟩
/-- Nodes answers true of two expressions with the same tree. -/
def NodesAt (n : Nat) : Prop := ∀ (x y : NV) (D : Ty) (lo lo' : Nat) (w : World), NodeF w lo n x D -> NodeF w lo' n y D -> Calls prog 29 #[x.val, y.val] w fun e w' => e = .returned (.bool true) /\ Below w.heap.size w w'
theorem nodes_same : ∀ n, NodesAt n
  | 0 => fun _ _ _ _ _ _ h => h.elim
  | n + 1 => fun x y D lo lo' w h h' => by
    obtain ⟨tys, ns, ks, hD, ⟨hx1, hx2, hx3⟩, ⟨hl1, hl2, hl3⟩, ht, hn, hk⟩ := h
    obtain ⟨tys', ns', ks', hD', ⟨hy1, hy2, hy3⟩, _, ht', hn', hk'⟩ := h'
    obtain ⟨k, tx, N, li, co, ta, tl, tc, na, nl, nc, ka, kl, kc⟩ := x
    obtain ⟨k', tx', N', li', co', ta', tl', tc', na', nl', nc', ka', kl', kc'⟩ := y
    dsimp only at hD hD' hx1 hx2 hx3 hy1 hy2 hy3 ht hn hk ht' hn' hk'
    obtain ⟨rfl, e2, rfl, rfl, rfl, rfl, rfl, rfl⟩ := mkE_inj (hD.symm.trans hD')
    obtain rfl : tx = tx' := by cases tx; cases tx'; simp at e2; rw [e2]
    subst hx1 hx2 hx3 hy1 hy2 hy3
    clear hD hD' e2
    obtain ⟨W, hW⟩ : ∃ W, W = (w.alloc (NV.obj ⟨k, tx, N, li, co, ta, tys.length, tc, na, ns.length, nc, ka, ks.length, kc⟩)).alloc (NV.obj ⟨k, tx, N, li, co, ta', tys.length, tc', na', ns.length, nc', ka', ks.length, kc'⟩) := ⟨_, rfl⟩
    have hb0 : Below w.heap.size w W := by rw [hW]; exact below_next (bl_alloc _ _) (bl_alloc _ _)
    have HXA : Hid (W.heap[w.heap.size]? = some (NV.obj ⟨k, tx, N, li, co, ta, tys.length, tc, na, ns.length, nc, ka, ks.length, kc⟩)) := by rw [hW]; exact (Below.heap_alloc _ _ _ (by simp)).trans (heap_alloc_last w _)
    have HXB : Hid (W.heap[w.heap.size + 1]? = some (NV.obj ⟨k, tx, N, li, co, ta', tys.length, tc', na', ns.length, nc', ka', ks.length, kc'⟩)) := by rw [hW]; exact heap_at1 w _ _
    have HC1 := hideP (texts_same na na' nc nc' ns W (names_below hn.at hb0) (names_below hn'.at hb0) (by omega))
    have HC2 : Hid (∀ wx, Below W.heap.size W wx -> Calls prog 28 #[.slice ta tys.length tc, .slice ta' tys.length tc'] wx fun e w' => e = .returned (.bool true) /\ Below wx.heap.size wx w') := fun wx hwx => kinds_same n (one_same n) ta ta' tc tc' tys wx (kids_below (kidsF_any ht) (below_next hb0 hwx)) (kids_below (kidsF_any ht') (below_next hb0 hwx)) (by omega)
    have HCELL : Hid (∀ wx, Below W.heap.size W wx -> wx.heap[w.heap.size]? = some (NV.obj ⟨k, tx, N, li, co, ta, tys.length, tc, na, ns.length, nc, ka, ks.length, kc⟩) /\ wx.heap[w.heap.size + 1]? = some (NV.obj ⟨k, tx, N, li, co, ta', tys.length, tc', na', ns.length, nc', ka', ks.length, kc'⟩)) := fun wx hwx => ⟨(hwx.block _ (lt_of_block HXA.out)).trans HXA.out, (hwx.block _ (lt_of_block HXB.out)).trans HXB.out⟩
    have HKA := hideP (nodesF_below hk hb0)
    have HKB := hideP (nodesF_below hk' hb0)
    have HB0 := hideP hb0
    have IH := hideP (nodes_same n)
    have e3 : (tx.toList == tx.toList) = true := by simp
    have hks : ks.length <= 100000 := hl3
    clear ht hn hk ht' hn' hk' hb0 hl1 hl2 hl3
    obtain ⟨⟨x0, x1, x2, x3, x4, x5, x6, x7⟩, _, hltx⟩ := box8 HXA.out
    obtain ⟨⟨y0, y1, y2, y3, y4, y5, y6, y7⟩, _, hlty⟩ := box8 HXB.out
    go_enter func29, ntmps29
    go_wp2_with fail
    rw [<- hW]
    clear hW
    refine HC1.out.mono ?_
    rintro e w1 ⟨rfl, q, rfl⟩
    have hb1 : Below W.heap.size W (W.drewN q) := below_drewN (Below.refl _ _) q
    have HB1 := hideP hb1
    clear hb1
    go_wp2_with fail
    refine (HC2.out _ HB1.out).mono ?_
    rintro e w2 ⟨rfl, hb2⟩
    have HB2 := hideP (below_next HB1.out hb2)
    clear hb2
    obtain ⟨⟨x0, x1, x2, x3, x4, x5, x6, x7⟩, _, hltx⟩ := box8 (HCELL.out w2 HB2.out).1
    obtain ⟨⟨y0, y1, y2, y3, y4, y5, y6, y7⟩, _, hlty⟩ := box8 (HCELL.out w2 HB2.out).2
    go_wp2_with fail
    go_loopw [7] (fun i wx => ∃ j : Nat, i = .int .i64 j /\ j <= ks.length /\ Hid (Below W.heap.size W wx)) (fun i _ => ks.length - (intOf i).toNat)
    case atStart => exact ⟨0, rfl, Nat.zero_le _, HB2⟩
    case round =>
      obtain ⟨j, rfl, hj, hbl⟩ := hrel
      clear x0 x1 x2 x3 x4 x5 x6 x7 y0 y1 y2 y3 y4 y5 y6 y7
      obtain ⟨⟨x0, x1, x2, x3, x4, x5, x6, x7⟩, _, hltx⟩ := box8 (HCELL.out wr hbl.out).1
      obtain ⟨⟨y0, y1, y2, y3, y4, y5, y6, y7⟩, _, hlty⟩ := box8 (HCELL.out wr hbl.out).2
      clear x0 x1 x2 x3 x4 x5 x6 y0 y1 y2 y3 y4 y5 y6
      by_cases hlt : j < ks.length
      · have hjl : (j : Int) < (ks.length : Int) := by omega
        obtain ⟨b, o, u, rfl, hb1, hc1, ht1⟩ := node_at HKA.out hlt
        obtain ⟨b', o', v, rfl, hb2, hc2, ht2⟩ := node_at HKB.out hlt
        have HSK : Hid (∀ wx, Below wr.heap.size wr wx -> wx.cell? ⟨w.heap.size, 7, none⟩ = some (.slice (some ⟨b, o, none⟩) ks.length kc) /\ wx.cell? ⟨w.heap.size + 1, 7, none⟩ = some (.slice (some ⟨b', o', none⟩) ks.length kc') /\ wx.cell? ⟨b, o + j * 8, none⟩ = some (.int .i64 u.k) /\ wx.cell? ⟨b, o + j * 8 + 1, none⟩ = some (.string u.tx) /\ wx.cell? ⟨b, o + j * 8 + 2, none⟩ = some (.int .i64 u.N) /\ wx.cell? ⟨b, o + j * 8 + 3, none⟩ = some (.int .i64 u.li) /\ wx.cell? ⟨b, o + j * 8 + 4, none⟩ = some (.int .i64 u.co) /\ wx.cell? ⟨b, o + j * 8 + 5, none⟩ = some (.slice u.ta u.tl u.tc) /\ wx.cell? ⟨b, o + j * 8 + 6, none⟩ = some (.slice u.na u.nl u.nc) /\ wx.cell? ⟨b, o + j * 8 + 7, none⟩ = some (.slice u.ka u.kl u.kc) /\ wx.cell? ⟨b', o' + j * 8, none⟩ = some (.int .i64 v.k) /\ wx.cell? ⟨b', o' + j * 8 + 1, none⟩ = some (.string v.tx) /\ wx.cell? ⟨b', o' + j * 8 + 2, none⟩ = some (.int .i64 v.N) /\ wx.cell? ⟨b', o' + j * 8 + 3, none⟩ = some (.int .i64 v.li) /\ wx.cell? ⟨b', o' + j * 8 + 4, none⟩ = some (.int .i64 v.co) /\ wx.cell? ⟨b', o' + j * 8 + 5, none⟩ = some (.slice v.ta v.tl v.tc) /\ wx.cell? ⟨b', o' + j * 8 + 6, none⟩ = some (.slice v.na v.nl v.nc) /\ wx.cell? ⟨b', o' + j * 8 + 7, none⟩ = some (.slice v.ka v.kl v.kc)) := fun wx hwx => by
          have hB := below_next hbl.out hwx
          have g1 := hc1.keep (hB.block b hb1)
          have g2 := hc2.keep (hB.block b' hb2)
          refine ⟨(box8 (HCELL.out wx hB).1).1.2.2.2.2.2.2.2, (box8 (HCELL.out wx hB).2).1.2.2.2.2.2.2.2, ?_⟩
          obtain ⟨p0, p1, p2, p3, p4, p5, p6, p7⟩ := g1
          exact ⟨p0, p1, p2, p3, p4, p5, p6, p7, g2⟩
        have HC : Hid (∀ wx, Below wr.heap.size wr wx -> Calls prog 29 #[u.val, v.val] wx fun e w' => e = .returned (.bool true) /\ Below wr.heap.size wr w') := fun wx hwx =>
          (IH.out _ _ ks[j] lo lo' wx (nodeF_below ht1 (below_next hbl.out hwx)) (nodeF_below ht2 (below_next hbl.out hwx))).mono fun e w' ⟨e1, e2⟩ => ⟨e1, below_next hwx e2⟩
        have hS0 := HSK.out wr.drew (Below.refl _ _).drew
        clear hc1 hc2 ht1 ht2
        go_wp2_with fail
        go_region_held (fun W => W.cell? ⟨w.heap.size, 7, none⟩ = some (.slice (some ⟨b, o, none⟩) ks.length kc) /\ W.cell? ⟨w.heap.size + 1, 7, none⟩ = some (.slice (some ⟨b', o', none⟩) ks.length kc') /\ W.cell? ⟨b, o + j * 8, none⟩ = some (.int .i64 u.k) /\ W.cell? ⟨b, o + j * 8 + 1, none⟩ = some (.string u.tx) /\ W.cell? ⟨b, o + j * 8 + 2, none⟩ = some (.int .i64 u.N) /\ W.cell? ⟨b, o + j * 8 + 3, none⟩ = some (.int .i64 u.li) /\ W.cell? ⟨b, o + j * 8 + 4, none⟩ = some (.int .i64 u.co) /\ W.cell? ⟨b, o + j * 8 + 5, none⟩ = some (.slice u.ta u.tl u.tc) /\ W.cell? ⟨b, o + j * 8 + 6, none⟩ = some (.slice u.na u.nl u.nc) /\ W.cell? ⟨b, o + j * 8 + 7, none⟩ = some (.slice u.ka u.kl u.kc) /\ W.cell? ⟨b', o' + j * 8, none⟩ = some (.int .i64 v.k) /\ W.cell? ⟨b', o' + j * 8 + 1, none⟩ = some (.string v.tx) /\ W.cell? ⟨b', o' + j * 8 + 2, none⟩ = some (.int .i64 v.N) /\ W.cell? ⟨b', o' + j * 8 + 3, none⟩ = some (.int .i64 v.li) /\ W.cell? ⟨b', o' + j * 8 + 4, none⟩ = some (.int .i64 v.co) /\ W.cell? ⟨b', o' + j * 8 + 5, none⟩ = some (.slice v.ta v.tl v.tc) /\ W.cell? ⟨b', o' + j * 8 + 6, none⟩ = some (.slice v.na v.nl v.nc) /\ W.cell? ⟨b', o' + j * 8 + 7, none⟩ = some (.slice v.ka v.kl v.kc)) (with_reducible assumption) (first
          | (go_at_call 29; refine (HC.out _ (by first | exact Below.refl _ _ | exact below_drewN (Below.refl _ _) _ | exact (Below.refl _ _).drew)).mono ?_; rintro e w5 ⟨rfl, hb5⟩; have t5 := HSK.out _ hb5; have HB5 := hideP hb5; clear hb5))
        all_goals go_wp2_with fail
        all_goals exact ⟨⟨j + 1, by go_num, by omega, below_next hbl.out HB5.out⟩, by simp [intOf]; omega⟩
      · have hjl : ¬ (j : Int) < (ks.length : Int) := by omega
        go_wp2_with fail
        go_ret
        exact ⟨rfl, below_next HB0.out hbl.out⟩
end Go.Proofs.YtlhmofphpfdjlaaGreatDoor
