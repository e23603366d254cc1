/- graduslaw03.TypesTags: the walk. -/
import Derived.Test.YtmpcjcjacpjilaaDoorTyAw
import Derived.Test.YtmpcjcjacpjilaaDoorTySmF
import Derived.Test.YtmpcjcjacpjilaaDoorTyMb
import Derived.Test.YtmpcjcjacpjilaaDoorRefSame
import Derived.BigQuiet
import Derived.Deep.RegionWith
import Derived.RegionTactic
import Derived.Deep.Cut
import Derived.Deep.CutRange
import Derived.Deep.RegionHeld
namespace Go.Proofs.YtmpcjcjacpjilaaDoor
open Go.RowKit

theorem zTy_at (w : World) (n : Nat) : TyAt w false (n + 1) zTy (mkT 0 [] [] []) :=
  ⟨0, ⟨#[]⟩, none, 0, none, 0, [], [], rfl, rfl, by decide, by decide, by simp, ⟨Nat.le_refl _, by simp [reachBytes]⟩, ⟨Nat.le_refl _, by simp [reachBytes]⟩, .inl rfl, .inl rfl⟩

/-- The member of a tag, or none, and whether there is one. -/
def memV (D : Ty) (tag : Int) : Ty × Bool := match memberV D tag with
  | none => (mkT 0 [] [] [], false)
  | some E => (E, true)

theorem mb_one {w w' : World} {n : Nat} {D : Ty} {tag : Int} {e : Ending} (h : MbPost w (n + 1) D tag e w') : Below w.heap.size w w' ∧ ∃ (k : Int) (nm : ByteArray) (na : Option Addr) (nl nc : Nat) (ka : Option Addr) (kl kc : Nat), e = .returned (.tuple #[.agg #[.int .i64 k, .string nm, .slice na nl nc, .slice ka kl kc], .bool (memV D tag).2]) ∧
    TyAt w' false (n + 1) (.agg #[.int .i64 k, .string nm, .slice na nl nc, .slice ka kl kc]) (memV D tag).1 := by
  obtain ⟨hb, h⟩ := h
  refine ⟨hb, ?_⟩
  unfold memV
  rcases h with ⟨hn, rfl⟩ | ⟨E, k, nm, na, nl, nc, ka, kl, kc, hn, rfl, hF⟩
  · rw [hn]
    exact ⟨0, ⟨#[]⟩, none, 0, 0, none, 0, 0, rfl, zTy_at w' n⟩
  · rw [hn]
    exact ⟨k, nm, na, nl, nc, ka, kl, kc, rfl, ty_forget (tyF_at hF)⟩

theorem rb_one {w w' : World} {n : Nat} {D : Ty} {tag : Int} {e : Ending} (h : RbPost w (n + 1) D tag e w') : Below w.heap.size w w' ∧ ∃ (k : Int) (nm : ByteArray) (na : Option Addr) (nl nc : Nat) (ka : Option Addr) (kl kc : Nat), e = .returned (.tuple #[.agg #[.int .i64 k, .string nm, .slice na nl nc, .slice ka kl kc], .bool (memV D tag).2]) ∧
    TyAt w' false (n + 1) (.agg #[.int .i64 k, .string nm, .slice na nl nc, .slice ka kl kc]) (memV D tag).1 := by
  obtain ⟨hb, h⟩ := h
  refine ⟨hb, ?_⟩
  unfold memV
  rcases h with ⟨hn, rfl⟩ | ⟨E, k, nm, na, nl, nc, ka, kl, kc, hn, rfl, hF⟩
  · rw [hn]
    exact ⟨0, ⟨#[]⟩, none, 0, 0, none, 0, 0, rfl, zTy_at w' n⟩
  · rw [hn]
    exact ⟨k, nm, na, nl, nc, ka, kl, kc, rfl, hF⟩

set_option maxHeartbeats 8000000 in
set_option maxRecDepth 100000 in
theorem typesTags_walk (N : Nat) (D : Ty) (k : Int) (nm : ByteArray) (na : Option Addr) (nl nc : Nat) (ka : Option Addr) (kl kc : Nat) (tag : Int) (w : World) (hw : Words w ∧ Plain w)
    (h : TyAt w false N (.agg #[.int .i64 k, .string nm, .slice na nl nc, .slice ka kl kc]) D) (_ : (Lit.int .i64 tag).wf = true) :
    Calls Tryd.prog 3 #[.agg #[.int .i64 k, .string nm, .slice na nl nc, .slice ka kl kc], .int .i64 tag] w fun e w' => e = .returned (.bool true) ∧ Below w.heap.size w w' := by
  have HT := hideP h
  obtain ⟨N, rfl⟩ : ∃ m, N = m + 1 := by
    cases N with
    | zero => exact h.elim
    | succ m => exact ⟨m, rfl⟩
  have hb0 := bl_alloc w (tyO k nm na nl nc ka kl kc)
  have HBX : Hid ((w.alloc (tyO k nm na nl nc ka kl kc)).heap[w.heap.size]? = some (tyO k nm na nl nc ka kl kc)) := heap_alloc_last w _
  have HC1 := hideP (awake_c _ (hw.1.below hb0) (hw.2.below hb0))
  have HB0 := hideP hb0
  clear h hw hb0
  go_enter Tryd.func3, Tryd.ntmps3
  go_wp2_with fail
  refine HC1.out.mono ?_
  rintro e w1 ⟨rfl, hb1⟩
  have HB1 := hideP (below_next HB0.out hb1)
  have HBX1 := hideP ((hb1.block _ (lt_of_block HBX.out)).trans HBX.out)
  obtain ⟨⟨x0, x1, x2, x3⟩, _, hltx⟩ := res_facts HBX1.out
  have HC2 := hideP (small_f (N + 1) _ D _ 2000 (ty_below HT.out HB1.out) (by decide) (by decide))
  clear hb1
  go_wp2_with fail
  refine HC2.out.mono ?_
  rintro e w2 ⟨⟨r, rfl, hr0, hr1, hr2⟩, hb2⟩
  have HB2 := hideP (below_next HB1.out hb2)
  have HBX2 := hideP ((hb2.block _ (lt_of_block HBX1.out)).trans HBX1.out)
  have HR := hideP hr2
  clear x0 x1 x2 x3 hltx hb2 hr2
  obtain ⟨⟨x0, x1, x2, x3⟩, _, hltx⟩ := res_facts HBX2.out
  by_cases hr : r = 0
  · subst hr
    go_wp2_with fail
    go_ret
    exact ⟨rfl, HB2.out⟩
  have hre : (r == 0) = false := by rw [beq_eq_false_iff_ne]; exact hr
  have HFW := hideP (HR.out (by omega))
  have HC3 := hideP (member_c (N + 1) _ D w2 tag (ty_below HT.out HB2.out) HFW.out)
  clear hr
  go_wp2_with fail
  refine HC3.out.mono ?_
  intro e w3 hpost
  obtain ⟨hb3, g1, g2, g3, g4, g5, g6, g7, g8, rfl, hM3⟩ := mb_one hpost
  have HB3 := hideP (below_next HB2.out hb3)
  have HBX3 := hideP ((hb3.block _ (lt_of_block HBX2.out)).trans HBX2.out)
  obtain ⟨E, hE⟩ : ∃ E, E = (memV D tag).1 := ⟨_, rfl⟩
  obtain ⟨f, hf⟩ : ∃ f, f = (memV D tag).2 := ⟨_, rfl⟩
  rw [← hE] at hM3
  rw [← hf]
  have HE := hideP hE
  have HF := hideP hf
  have HM3 := hideP hM3
  clear hb3 hpost hM3 hE hf x0 x1 x2 x3 hltx
  obtain ⟨⟨x0, x1, x2, x3⟩, _, hltx⟩ := res_facts HBX3.out
  have hb4 := bl_alloc w3 (tyO g1 g2 g3 g4 g5 g6 g7 g8)
  have HC4 := hideP (rmember_c (N + 1) _ D _ tag (ty_below HT.out (below_next HB3.out hb4)))
  have HB4 := hideP hb4
  have HMX : Hid ((w3.alloc (tyO g1 g2 g3 g4 g5 g6 g7 g8)).heap[w3.heap.size]? = some (tyO g1 g2 g3 g4 g5 g6 g7 g8)) := heap_alloc_last w3 _
  clear hb4
  go_wp2_with fail
  refine HC4.out.mono ?_
  intro e w5 hpost
  obtain ⟨hb5, d1, d2, d3, d4, d5, d6, d7, d8, rfl, hM5⟩ := rb_one hpost
  rw [← HE.out] at hM5
  rw [← HF.out]
  have HB5 := hideP (below_next HB4.out hb5)
  have HMX5 := hideP ((hb5.block _ (lt_of_block HMX.out)).trans HMX.out)
  have HBX5 := hideP ((HB5.out.block _ (lt_of_block HBX3.out)).trans HBX3.out)
  have hb6 := bl_alloc w5 (tyO d1 d2 d3 d4 d5 d6 d7 d8)
  have HC6 := hideP (rsame_c (N + 1) _ _ E E _ (ty_below HM3.out (below_next HB5.out hb6)) (ty_below hM5 hb6))
  have HBX6 := hideP ((hb6.block _ (lt_of_block HBX5.out)).trans HBX5.out)
  have HB6 := hideP (below_next HB5.out hb6)
  clear hb5 hpost hM5 hb6 x0 x1 x2 x3 hltx
  obtain ⟨⟨x0, x1, x2, x3⟩, _, hltx⟩ := res_facts HMX5.out
  go_wp2_with fail
  refine HC6.out.mono ?_
  rintro e w7 ⟨⟨rr, rfl, hrr⟩, hb7⟩
  obtain rfl : rr = true := hrr.2 rfl
  have HB7 := hideP (below_next HB6.out hb7)
  have HBX7 := hideP ((hb7.block _ (lt_of_block HBX6.out)).trans HBX6.out)
  have HBW := hideP (below_next HB3.out HB7.out)
  clear hb7 hrr x0 x1 x2 x3 hltx
  obtain ⟨⟨x0, x1, x2, x3⟩, _, hltx⟩ := res_facts HBX7.out
  go_wp2_with fail
  have HC8 : Hid (∀ wx, Below w7.heap.size w7 wx → Calls Tryd.prog 12 #[.agg #[.int .i64 k, .string nm, .slice na nl nc, .slice ka kl kc]] wx fun e w' => e = .returned (.int .i64 (tagV k)) ∧ Below w7.heap.size w7 w') := fun wx hwx => (tag_c k nm na nl nc ka kl kc wx).mono fun e w' ⟨e1, e2⟩ => ⟨e1, by rw [e2]; exact below_next hwx (bl_alloc _ _)⟩
  have HC9 : Hid (∀ wx, Below w7.heap.size w7 wx → Calls Tryd.prog 13 #[.agg #[.int .i64 k, .string nm, .slice na nl nc, .slice ka kl kc]] wx fun e w' => e = .returned (.int .i64 (tagV k)) ∧ Below w7.heap.size w7 w') := fun wx hwx => (rtag_c k nm na nl nc ka kl kc wx).mono fun e w' ⟨e1, e2⟩ => ⟨e1, by rw [e2]; exact below_next hwx (bl_alloc _ _)⟩
  have HCELL : Hid (∀ wx, Below w7.heap.size w7 wx → (wx.cell? ⟨w.heap.size, 0, none⟩ = some (.int .i64 k) ∧ wx.cell? ⟨w.heap.size, 1, none⟩ = some (.string nm) ∧ wx.cell? ⟨w.heap.size, 2, none⟩ = some (.slice na nl nc) ∧ wx.cell? ⟨w.heap.size, 3, none⟩ = some (.slice ka kl kc)) ∧ w.heap.size < wx.heap.size) := fun wx hwx => by
    have h := (hwx.block _ (lt_of_block HBX7.out)).trans HBX7.out
    exact ⟨(res_facts h).1, lt_of_block h⟩
  have et : (tagV k == tagV k) = true := by simp
  have ef : (f == f) = true := by simp
  have hS0 : w7.drew.cell? ⟨w.heap.size, 0, none⟩ = some (.int .i64 k) ∧ w7.drew.cell? ⟨w.heap.size, 1, none⟩ = some (.string nm) ∧ w7.drew.cell? ⟨w.heap.size, 2, none⟩ = some (.slice na nl nc) ∧ w7.drew.cell? ⟨w.heap.size, 3, none⟩ = some (.slice ka kl kc) := ⟨x0, x1, x2, x3⟩
  go_region_held (fun W => W.cell? ⟨w.heap.size, 0, none⟩ = some (.int .i64 k) ∧ W.cell? ⟨w.heap.size, 1, none⟩ = some (.string nm) ∧ W.cell? ⟨w.heap.size, 2, none⟩ = some (.slice na nl nc) ∧ W.cell? ⟨w.heap.size, 3, none⟩ = some (.slice ka kl kc)) (assumption) (first
      | (go_at_call 12; refine (HC8.out _ (by first | exact Below.refl _ _ | exact below_drewN (Below.refl _ _) _ | exact (Below.refl _ _).drew)).mono ?_; rintro e w8 ⟨rfl, hb8⟩; have t0 := (HCELL.out _ hb8).1; have HB8 := hideP hb8; clear hb8)
      | (go_at_call 13; refine (HC9.out _ (by first | exact HB8.out | exact below_drewN HB8.out _ | exact HB8.out.drew)).mono ?_; rintro e w9 ⟨rfl, hb9⟩; have t9 := (HCELL.out _ hb9).1; have HB9 := hideP hb9; clear hb9))
  all_goals go_wp2_with fail
  all_goals go_ret
  all_goals exact ⟨rfl, below_next HBW.out HB9.out⟩
end Go.Proofs.YtmpcjcjacpjilaaDoor
