/- types.Show by a contract. -/
import Derived.Test.YtmpcjcjacpjilaaDoorTySwA
namespace Go.Proofs.YtmpcjcjacpjilaaDoor
open Go.RowKit

def ShPost (w : World) (n : Nat) (D : Ty) (e : Ending) (w' : World) : Prop := Below w.heap.size w w' ∧ ∃ s : ByteArray, e = .returned (.string s) ∧ (sizeT n D ≤ 200 ∧ heightT n D ≤ 16 ∧ normT n D = some D → s.data.toList = showT n false D) ∧ (normT n D ≠ some D → s = ⟨#[]⟩)

set_option maxHeartbeats 4000000 in
set_option maxRecDepth 100000 in
theorem sh_c (n : Nat) (v : Value) (D : Ty) (w : World) (h : TyAt w true n v D) (hw : Words w) (hp : Plain w) (hl : (showT n false D).length ≤ 1000000) :
    Calls Tryd.prog 23 #[v] w (ShPost w n D) := by
  obtain ⟨k, nm, na, nl, nc, ka, kl, kc, rfl, hk⟩ := ty_form h
  have HT := hideP h
  have HW := hideP hw
  have HP := hideP hp
  have HL := hideP hl
  have hb := bl_alloc w (tyO k nm na nl nc ka kl kc)
  have HB := hideP hb
  have HBX : Hid ((w.alloc (tyO k nm na nl nc ka kl kc)).heap[w.heap.size]? = some (tyO k nm na nl nc ka kl kc)) := heap_alloc_last w _
  have HC1 := hideP (nm_c true n _ D _ (ty_below h hb) (hw.below hb))
  clear h hw hp hl hb hk
  go_enter Tryd.func23, Tryd.ntmps23
  go_wp2_with fail
  refine HC1.out.mono ?_
  rintro e w1 ⟨hb1, hways⟩
  have HB1 := hideP (below_next HB.out hb1)
  have hbx1 := (hb1.block _ (lt_of_block HBX.out)).trans HBX.out
  obtain ⟨⟨x0, x1, x2, x3⟩, _, hltx⟩ := res_facts hbx1
  have HBX1 := hideP hbx1
  clear hb1 hbx1
  rcases hways with ⟨rfl, hn⟩ | ⟨E1, g1, g2, g3, g4, g5, g6, g7, g8, hn, hs, rfl, hF1, hk1⟩
  · have HN := hideP (hn rfl)
    clear hn
    go_wp2_with fail
    go_ret
    exact ⟨HB1.out.alloc HB1.out.size _, _, rfl, fun h => absurd ⟨h.1, h.2.1, by rw [h.2.2]; rfl⟩ HN.out, fun _ => rfl⟩
  · have HN := hideP hn
    have HSZ := hideP hs
    have HF := hideP hF1
    clear hn hs hF1 hk1
    have hb2 := bl_alloc w1 (tyO g1 g2 g3 g4 g5 g6 g7 g8)
    have HB2 := hideP (below_next HB1.out hb2)
    have HC2 := hideP (tsame_c n _ _ _ _ _ (tyF_at (tyF_below HF.out hb2)) (ty_below HT.out HB2.out))
    have HBX2 := hideP ((hb2.block _ (lt_of_block HBX1.out)).trans HBX1.out)
    clear hb2
    go_wp2_with fail
    refine HC2.out.mono ?_
    rintro e w3 ⟨⟨r, rfl, hr⟩, hb3⟩
    have HB3 := hideP (below_next HB2.out hb3)
    have hbx3 := (hb3.block _ (lt_of_block HBX2.out)).trans HBX2.out
    clear x0 x1 x2 x3 hltx
    obtain ⟨⟨x0, x1, x2, x3⟩, _, hltx⟩ := res_facts hbx3
    have HR := hideP hr
    clear hb3 hbx3 hr
    cases r
    · have hne : E1 ≠ D := fun e => absurd (HR.out.2 e) (by decide)
      have HNE := hideP hne
      clear hne
      go_wp2_with fail
      go_ret
      exact ⟨HB3.out, _, rfl, fun h => absurd (by have := h.2.2; rw [HN.out] at this; injection this) HNE.out, fun _ => rfl⟩
    · have heq : E1 = D := HR.out.1 rfl
      have HND : Hid (normT n D = some D) := by
        have := HN.out
        rw [heq] at this
        exact this
      have HC3 := hideP (show_c n _ D w3 (ty_forget (ty_below HT.out HB3.out)) (norm_normal HND.out) (HP.out.below HB3.out) HL.out)
      clear heq
      go_wp2_with fail
      refine HC3.out.mono ?_
      rintro e w4 ⟨s, rfl, hs, hb4⟩
      have HB4 := hideP (below_next HB3.out hb4)
      have HS := hideP hs
      clear hs hb4
      go_wp2_with fail
      go_ret
      exact ⟨HB4.out, _, rfl, fun _ => HS.out, fun h => absurd HND.out h⟩
end Go.Proofs.YtmpcjcjacpjilaaDoor
