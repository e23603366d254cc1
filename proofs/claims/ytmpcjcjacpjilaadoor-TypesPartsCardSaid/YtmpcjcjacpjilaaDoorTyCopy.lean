/- types.ownCopy by a contract: the walk. -/
import Derived.Test.YtmpcjcjacpjilaaDoorTyCp
namespace Go.Proofs.YtmpcjcjacpjilaaDoor
open Go.RowKit

set_option maxHeartbeats 4000000 in
set_option maxRecDepth 100000 in
theorem copy_step (n : Nat) (ih : CopyAt n) : CopyAt (n + 1) := by
  intro v D w h hf
  obtain ⟨k, nm, na, nc, ka, kc, ns, ks, rfl, rfl, h3, h4, h5, ⟨_, h6⟩, ⟨_, h7⟩, h8, h9⟩ := h
  obtain ⟨hf1, hf2, hf3⟩ := hf
  rw [names_mk] at hf1
  rw [kids_mk] at hf2 hf3
  have hb0 := below_next (bl_alloc w (tyO k nm na ns.length nc ka ks.length kc)) (bl_alloc _ zC)
  have HB0 := hideP hb0
  have HC1 := hideP (cloneN_c na nc ns _ (names_below h8 hb0) hf1)
  have HK := hideP h9
  have HBX : Hid (((w.alloc (tyO k nm na ns.length nc ka ks.length kc)).alloc zC).heap[w.heap.size]? = some (tyO k nm na ns.length nc ka ks.length kc)) := (Below.heap_alloc _ _ _ (by simp)).trans (heap_alloc_last w _)
  have HRS : Hid (((w.alloc (tyO k nm na ns.length nc ka ks.length kc)).alloc zC).heap[w.heap.size + 1]? = some zC) := heap_at1 w _ _
  clear h8 h9 hb0
  go_enter Tryd.func25, Tryd.ntmps25
  go_wp2_with fail
  refine HC1.out.mono ?_
  rintro e w1 ⟨na', nc', rfl, hle, hNF, hb1⟩
  have HB1 := hideP (below_next HB0.out hb1)
  have hbx1 := (hb1.block _ (lt_of_block HBX.out)).trans HBX.out
  have hrs1 := (hb1.block _ (lt_of_block HRS.out)).trans HRS.out
  obtain ⟨⟨x0, x1, x2, x3⟩, ⟨f0, f1, f2, f3⟩, hltx⟩ := res_facts hbx1
  have HBX1 := hideP hbx1
  have HRS1 := hideP hrs1
  have HNF := hideP hNF
  have hbS : Below w.heap.size w (w1.setCell ⟨w.heap.size, 2, none⟩ (.slice na' ns.length nc')) := HB1.out.setCell (p := ⟨w.heap.size, 2, none⟩) (Nat.le_refl _) _
  have HC2 := hideP (cloneK_c n ka kc ks w _ HK.out hbS hf2)
  have HBS := hideP hbS
  clear hb1 hbx1 hrs1 hNF hbS
  go_wp2_with fail
  refine HC2.out.mono ?_
  rintro e w2 ⟨v', cl, rfl, hcl, hown, hct, hb2⟩
  obtain ⟨ka', kc', rfl, hkc, hrow⟩ := owns_rowC hown hcl
  have HB2 := hideP (below_next HBS.out hb2)
  have hbx2 : w2.heap[w.heap.size]? = some (tyO k nm na' ns.length nc' ka ks.length kc) := (hb2.block _ (by simp [World.setCell]; omega)).trans (cells_setCell HBX1.out)
  clear x0 x1 x2 x3 f0 f1 f2 f3 hltx
  obtain ⟨⟨x0, x1, x2, x3⟩, ⟨f0, f1, f2, f3⟩, hltx⟩ := res_facts hbx2
  have HBX2 := hideP hbx2
  have HROW := hideP hrow
  have HCT := hideP hct
  clear hbx2 hrow hct hown
  have hszS : (w1.setCell ⟨w.heap.size, 2, none⟩ (.slice na' ns.length nc')).heap.size = w1.heap.size := by simp [World.setCell]
  have hrs2 : w2.heap[w.heap.size + 1]? = some zC := (hb2.block _ (by rw [hszS]; exact lt_of_block HRS1.out)).trans ((Below.heap_setCell _ _ _ _ (by show w.heap.size + 1 ≠ w.heap.size; omega)).trans HRS1.out)
  have hsz12 : w1.heap.size ≤ w2.heap.size := by have := hb2.size; rw [hszS] at this; exact this
  have hb12 : ∀ b, b < w1.heap.size → b ≠ w.heap.size → w2.heap[b]? = w1.heap[b]? := fun b h1 h2 => (hb2.block _ (by rw [hszS]; exact h1)).trans (Below.heap_setCell _ _ _ _ h2)
  have HCI : Hid (CI w (w2.setCell ⟨w.heap.size, 3, none⟩ (.slice ka' ks.length kc')) n w1.heap.size (tyO k nm na' ns.length nc' ka' ks.length kc') na' ka' ns ks (fun i => cl.getD i (0, ⟨#[]⟩, none, 0, 0, none, 0, 0)) 0) := by
    refine ⟨HB2.out.setCell (p := ⟨w.heap.size, 3, none⟩) (Nat.le_refl _) _, cells_setCell HBX2.out, (Below.heap_setCell _ _ _ _ (by show w.heap.size + 1 ≠ w.heap.size; omega)).trans hrs2, by simp [World.setCell]; exact hsz12, ?_, ?_, ?_⟩
    · rcases HNF.out with e0 | ⟨b, o, e, m1, m2, m3⟩
      · exact .inl e0
      · have m1' : w.heap.size + 2 ≤ b := by simpa using m1
        refine .inr ⟨b, o, e, m1', m2, fun i hi => ?_⟩
        refine (World.cell?_of_block (w := w1) (a := ⟨b, o + i, none⟩) ?_).trans (m3 i hi)
        exact (Below.heap_setCell _ _ _ _ (by show b ≠ w.heap.size; omega)).trans (hb12 b m2 (by omega))
    · rcases HROW.out with e0 | ⟨g, e, m1, cur, m2, m3⟩
      · exact .inl e0
      · rw [hszS] at m1
        have hlt1 := lt_of_block HRS1.out
        exact .inr ⟨g, e, m1, ⟨cur, (Below.heap_setCell _ _ _ _ (by show g ≠ w.heap.size; omega)).trans m2, m3⟩, fun i _ h => absurd h (Nat.not_lt_zero _)⟩
    · intro i hi _
      have hic : i < cl.length := by omega
      show TyAt w false n (cl.getD i _).val ks[i]
      rw [List.getD_eq_getElem?_getD, List.getElem?_eq_getElem hic]
      exact HCT.out i hic hi
  have hB2 : w.heap.size + 2 ≤ w1.heap.size := by have := lt_of_block HRS1.out; omega
  have IH := hideP ih
  have HF3 := hideP hf3
  clear hb2 hszS hrs2 hsz12 hb12 ih hf3 hcl
  go_wp2_with fail
  go_loopw [16] (fun i wx => ∃ (j : Nat) (f : Nat → Cells), i = .int .i64 j ∧ j ≤ ks.length ∧ Hid (CI w wx n w1.heap.size (tyO k nm na' ns.length nc' ka' ks.length kc') na' ka' ns ks f j)) (fun i _ => ks.length - (intOf i).toNat)
  case atStart => exact ⟨0, _, rfl, Nat.zero_le _, HCI⟩
  case round =>
    obtain ⟨j, f, rfl, hj, hC⟩ := hrel
    clear HCI x0 x1 x2 x3 f0 f1 f2 f3 hltx
    obtain ⟨⟨x0, x1, x2, x3⟩, _, hltx⟩ := res_facts hC.out.hx
    by_cases hlt : j < ks.length
    · have hjl : (j : Int) < (ks.length : Int) := by omega
      obtain ⟨g, hgk, hgB, hRC, _⟩ : ∃ g, ka' = some ⟨g, 0, none⟩ ∧ w1.heap.size ≤ g ∧ RowC wr g ks.length f ∧ True := by
        rcases hC.out.rw with e0 | ⟨g, e, m1, m2, _⟩
        · omega
        · exact ⟨g, e, m1, m2, trivial⟩
      subst hgk
      have htd := hC.out.td j hlt (Nat.le_refl _)
      have hlg : g < wr.heap.size := by obtain ⟨cur, h1, _⟩ := hRC; exact lt_of_block h1
      obtain ⟨⟨y1, y2, y3, y4, y5, y6, y7, y8⟩, hy⟩ : ∃ y, y = f j := ⟨_, rfl⟩
      rw [← hy] at htd
      have hcc : ∀ r, r < 4 → wr.cell? ⟨g, j * 4 + r, none⟩ = (Cells.list (y1, y2, y3, y4, y5, y6, y7, y8))[r]? := fun r hr => by rw [hy]; exact rowC_cell hRC hlt hr
      have r0 : wr.cell? ⟨g, j * 4, none⟩ = some (.int .i64 y1) := hcc 0 (by omega)
      have r1 : wr.cell? ⟨g, j * 4 + 1, none⟩ = some (.string y2) := hcc 1 (by omega)
      have r2 : wr.cell? ⟨g, j * 4 + 2, none⟩ = some (.slice y3 y4 y5) := hcc 2 (by omega)
      have r3 : wr.cell? ⟨g, j * 4 + 3, none⟩ = some (.slice y6 y7 y8) := hcc 3 (by omega)
      obtain ⟨W, hW⟩ : ∃ W, W = wr.alloc (tyO y1 y2 y3 y4 y5 y6 y7 y8) := ⟨_, rfl⟩
      have hbk : Below wr.heap.size wr W := by rw [hW]; exact bl_alloc _ _
      have hgW : g + 1 ≤ W.heap.size := by have := hbk.size; omega
      have hCK := hC.out.grow hbk
      have HC5 : Hid (∀ wx, Below W.heap.size W wx → Calls Tryd.prog 25 #[.agg #[.int .i64 y1, .string y2, .slice y3 y4 y5, .slice y6 y7 y8]] wx fun e w' => (∃ (c1 : Int) (c2 : ByteArray) (c3 : Option Addr) (c4 c5 : Nat) (c6 : Option Addr) (c7 c8 : Nat), e = .returned (.agg #[.int .i64 c1, .string c2, .slice c3 c4 c5, .slice c6 c7 c8]) ∧ TyF w' (g + 1) n (.agg #[.int .i64 c1, .string c2, .slice c3 c4 c5, .slice c6 c7 c8]) ks[j]) ∧ Below W.heap.size W w') := fun wx hwx =>
        (IH.out _ ks[j] _ (ty_below htd (below_next hCK.bl hwx)) (HF3.out _ (List.getElem_mem hlt))).mono fun e w' ⟨v5, e1, hF5, hb5⟩ => by
          obtain ⟨c1, c2, c3, c4, c5, c6, c7, c8, rfl, _⟩ := tyF_form hF5
          exact ⟨⟨c1, c2, c3, c4, c5, c6, c7, c8, e1, tyF_lower hF5 (Nat.le_trans hgW hwx.size)⟩, below_next hwx hb5⟩
      have HC6 : Hid (∀ wx, Below W.heap.size W wx → CI w wx n w1.heap.size (tyO k nm na' ns.length nc' (some ⟨g, 0, none⟩) ks.length kc') na' (some ⟨g, 0, none⟩) ns ks f j) := fun wx h => hCK.grow h
      have HCELL : Hid (∀ wx, Below W.heap.size W wx → (wx.cell? ⟨w.heap.size, 3, none⟩ = some (.slice (some ⟨g, 0, none⟩) ks.length kc') ∧ w.heap.size < wx.heap.size) ∧ (g < wx.heap.size ∧ (∃ v, wx.cell? ⟨g, j * 4, none⟩ = some v) ∧ (∃ v, wx.cell? ⟨g, j * 4 + 1, none⟩ = some v) ∧ (∃ v, wx.cell? ⟨g, j * 4 + 2, none⟩ = some v) ∧ ∃ v, wx.cell? ⟨g, j * 4 + 3, none⟩ = some v) ∧ wx.frozen? ⟨g, j * 4, none⟩ = false ∧ wx.frozen? ⟨g, j * 4 + 1, none⟩ = false ∧ wx.frozen? ⟨g, j * 4 + 2, none⟩ = false ∧ wx.frozen? ⟨g, j * 4 + 3, none⟩ = false) := fun wx h => by
        have hx := hCK.grow h
        have hR : RowC wx g ks.length f := by
          rcases hx.rw with e0 | ⟨g', e, m1, m2, _⟩
          · omega
          · injection e with e
            injection e with e
            subst e
            exact m2
        exact ⟨⟨(res_facts hx.hx).1.2.2.2, lt_of_block hx.hx⟩, ⟨by obtain ⟨cur, h1, _⟩ := hR; exact lt_of_block h1, ⟨_, rowC_cell hR hlt (r := 0) (by omega)⟩, ⟨_, rowC_cell hR hlt (r := 1) (by omega)⟩, ⟨_, rowC_cell hR hlt (r := 2) (by omega)⟩, ⟨_, rowC_cell hR hlt (r := 3) (by omega)⟩⟩, rowC_free hR _, rowC_free hR _, rowC_free hR _, rowC_free hR _⟩
      subst hW
      clear hcc hy htd hbk hRC hCK
      go_wp2_with fail
      go_region_with (go_at_call 25; refine (HC5.out _ (by first | exact Below.refl _ _ | exact below_drewN (Below.refl _ _) _ | exact (Below.refl _ _).drew)).mono ?_; rintro e w5 ⟨⟨c1, c2, c3, c4, c5, c6, c7, c8, rfl, hF5⟩, hb5⟩; obtain ⟨⟨z3, hz5⟩, ⟨hg5, ⟨_, t0⟩, ⟨_, t1⟩, ⟨_, t2⟩, ⟨_, t3⟩⟩, s0, s1, s2, s3⟩ := HCELL.out _ hb5; have HF5 := hideP hF5; have HC7 := hideP (HC6.out _ hb5); clear hF5 hb5)
      all_goals
        go_wp2_with fail
        exact ⟨⟨j + 1, _, by go_num, by omega, HC7.out.put hB2 hlt (c := (c1, c2, c3, c4, c5, c6, c7, c8)) HF5.out⟩, by simp [intOf]; omega⟩
    · have hjl : ¬ (j : Int) < (ks.length : Int) := by omega
      obtain ⟨⟨z0, z1, z2, z3⟩, ⟨p0, p1, p2, p3⟩, hltz⟩ := res_facts hC.out.rs
      have hle' := hle
      go_wp2_with fail
      refine bodyPost_ret (results_cell_row rfl _ _ _ _ _ _ _ rfl (set4 hC.out.rs _ _ _ _) Tryd.underlying25 rfl ty_size) rfl ?_
      have hje : j = ks.length := by omega
      refine ⟨_, rfl, ?_, below_set4 hC.out.bl (by omega) _ _ _ _⟩
      refine ⟨k, nm, na', nc', ka', kc', ns, ks, rfl, rfl, h3, h4, h5, ⟨hle, h6⟩, ⟨hkc, h7⟩, ?_, ?_⟩
      · rcases hC.out.nf with e0 | ⟨b, o, e, m1, m2, m3⟩
        · exact .inl e0
        · refine .inr ⟨b, o, e, by omega, by rw [size_set4]; exact Nat.lt_of_lt_of_le m2 hC.out.sz, fun i hi => (World.cell?_of_block (w := wr) (a := ⟨b, o + i, none⟩) (other_set4 (by show b ≠ w.heap.size + 1; omega) _ _ _ _)).trans (m3 i hi)⟩
      · rcases hC.out.rw with e0 | ⟨g, e, m1, ⟨cur, m2, m4⟩, m3⟩
        · exact .inl (List.length_eq_zero_iff.1 e0)
        · rw [e]
          refine rowC_kids (K := ks.length) (f := f) ⟨cur, (other_set4 (by omega) _ _ _ _).trans m2, m4⟩ (by omega) rfl fun i hi => ?_
          exact tyF_lower (tyF_keep (m3 i hi (by omega)) (by rw [size_set4]; exact Nat.le_refl _) fun bb h1 _ => other_set4 (by omega) _ _ _ _) (by omega)

theorem copy_c : ∀ n, CopyAt n
  | 0 => fun _ _ _ h => h.elim
  | n + 1 => copy_step n (copy_c n)
end Go.Proofs.YtmpcjcjacpjilaaDoor
