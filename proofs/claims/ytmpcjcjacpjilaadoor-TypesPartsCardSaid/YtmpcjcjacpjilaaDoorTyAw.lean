/- graduslaw03.awake by a contract. -/
import Derived.Test.YtmpcjcjacpjilaaDoorTyAwV
import Derived.Test.YtmpcjcjacpjilaaDoorTySwV
namespace Go.Proofs.YtmpcjcjacpjilaaDoor
open Go.RowKit

set_option maxHeartbeats 4000000 in
set_option maxRecDepth 100000 in
theorem awake_c (w : World) (hw : Words w) (hp : Plain w) :
    Calls Tryd.prog 7 #[] w fun e w' => e = .returned (.bool true) ∧ Below w.heap.size w w' := by
  have HW := hideP hw
  have HP := hideP hp
  obtain ⟨hb0, hi0, hu0, hr0, htu, htr⟩ := aw_world w
  have HC1 := hideP (nm_c true 3 _ awU (awW w) (tyF_at htu) (hw.below hb0))
  have HB0 := hideP hb0
  have HI0 := hideP hi0
  have HU0 := hideP hu0
  have HR0 := hideP hr0
  have HTU := hideP htu
  have HTR := hideP htr
  clear hw hp hb0 hi0 hu0 hr0 htu htr
  go_enter Tryd.func7, Tryd.ntmps7
  go_wp2_with fail
  refine HC1.out.mono ?_
  rintro e w1 ⟨hb1, hways⟩
  rcases hways with ⟨rfl, hn⟩ | ⟨E1, a1, a2, a3, a4, a5, a6, a7, a8, hn, hs, rfl, hF1, hk1⟩
  · exact absurd ⟨aw_sizes.1.1, aw_sizes.1.2, by rw [aw_u]; rfl⟩ (hn rfl)
  have hE : E1 = awA := by rw [aw_u] at hn; injection hn with h; exact h.symm
  subst hE
  have HFA := hideP hF1
  have HB1 := hideP (below_next HB0.out hb1)
  have HI1 := hideP ((hb1.block _ (lt_of_block HI0.out)).trans HI0.out)
  have HU1 := hideP ((hb1.block _ (lt_of_block HU0.out)).trans HU0.out)
  have hr1 := (hb1.block _ (lt_of_block HR0.out)).trans HR0.out
  have HR1 := hideP hr1
  have HTU1 := hideP (tyF_below HTU.out hb1)
  have HTR1 := hideP (tyF_below HTR.out hb1)
  obtain ⟨⟨x0, x1, x2, x3⟩, _, hltx⟩ := res_facts hr1
  have hbA := bl_alloc w1 (tyO a1 a2 a3 a4 a5 a6 a7 a8)
  have HC2 := hideP (nm_c true 3 _ awR _ (tyF_at (tyF_below HTR1.out hbA)) (HW.out.below (below_next HB1.out hbA)))
  have HBA := hideP hbA
  clear hb1 hn hs hF1 hk1 hr1 hbA
  go_wp2_with fail
  refine HC2.out.mono ?_
  rintro e w2 ⟨hb2, hways⟩
  rcases hways with ⟨rfl, hn⟩ | ⟨E2, b1, b2, b3, b4, b5, b6, b7, b8, hn, hs, rfl, hF2, hk2⟩
  · exact absurd ⟨aw_sizes.2.1.1, aw_sizes.2.1.2, by rw [aw_r]; rfl⟩ (hn rfl)
  have hE : E2 = awB := by rw [aw_r] at hn; injection hn with h; exact h.symm
  subst hE
  have HFB := hideP hF2
  have hb12 := below_next HBA.out hb2
  have HB2 := hideP (below_next HB1.out hb12)
  have HI2 := hideP ((hb12.block _ (lt_of_block HI1.out)).trans HI1.out)
  have HU2 := hideP ((hb12.block _ (lt_of_block HU1.out)).trans HU1.out)
  have HTU2 := hideP (tyF_below HTU1.out hb12)
  have HFA2 := hideP (tyF_below HFA.out hb12)
  have HA2 : Hid (w2.heap[w1.heap.size]? = some (tyO a1 a2 a3 a4 a5 a6 a7 a8)) := (hb2.block _ (by simp)).trans (heap_alloc_last w1 _)
  obtain ⟨⟨y0, y1, y2, y3⟩, _, hlty⟩ := res_facts HI2.out
  have hbB := bl_alloc w2 (tyO b1 b2 b3 b4 b5 b6 b7 b8)
  have hbR := bl_alloc (w2.alloc (tyO b1 b2 b3 b4 b5 b6 b7 b8)) (.cells #[.int .i64 0, .string ⟨#[]⟩, .slice none 0 0, .slice none 0 0, .int .i64 3, .string ⟨#[]⟩, .slice none 0 0, .slice none 0 0] 25)
  have HC3 := hideP (nm_c true 3 (.agg #[.int .i64 7, .string ⟨#[]⟩, .slice none 0 0, .slice (some ⟨w2.heap.size + 1, 0, none⟩) 2 2]) awN _ (tyF_at (lo := 0) (tyF_node (by decide) (kidsF2 (heap_at1 w2 _ _) (Nat.zero_le _) (tyF_base (by decide)) (tyF_base (by decide))))) (HW.out.below (below_next (below_next HB2.out hbB) hbR)))
  have HBB := hideP (below_next hbB hbR)
  clear hb2 hn hs hF2 hk2 hb12 hbB hbR
  go_wp2_with fail
  refine HC3.out.mono ?_
  rintro e w3 ⟨hb3, hways⟩
  rcases hways with ⟨rfl, hn⟩ | ⟨E3, c1, c2, c3, c4, c5, c6, c7, c8, hn, _⟩
  case inr => rw [aw_n] at hn; cases hn
  have hb23 := below_next HBB.out hb3
  have HB3 := hideP (below_next HB2.out hb23)
  have HU3 := hideP ((hb23.block _ (lt_of_block HU2.out)).trans HU2.out)
  have HTU3 := hideP (tyF_below HTU2.out hb23)
  have HFA3 := hideP (tyF_below HFA2.out hb23)
  have HFB3 := hideP (tyF_below HFB.out hb23)
  have HA3 := hideP ((hb23.block _ (lt_of_block HA2.out)).trans HA2.out)
  have HBX3 : Hid (w3.heap[w2.heap.size]? = some (tyO b1 b2 b3 b4 b5 b6 b7 b8)) := (hb3.block _ (by simp; omega)).trans ((Below.heap_alloc _ _ _ (by simp)).trans (heap_alloc_last w2 _))
  obtain ⟨⟨u0, u1, u2, u3⟩, _, hltu⟩ := res_facts HA3.out
  have hbZ := bl_alloc w3 zO
  have HBZ := hideP hbZ
  have HC4 := hideP (sh_c 3 _ awA _ (tyF_at (tyF_below HFA3.out hbZ)) (HW.out.below (below_next HB3.out hbZ)) (HP.out.below (below_next HB3.out hbZ)) (by rw [aw_sa]; decide))
  clear hb3 hn hb23 hbZ
  go_wp2_with fail
  refine HC4.out.mono ?_
  rintro e w4 ⟨hb4, s4, rfl, hs4, _⟩
  have hs4 := str_of ((hs4 ⟨aw_sizes.2.2.1.1, aw_sizes.2.2.1.2, aw_a⟩).trans aw_sa)
  subst hs4
  have hb34 := below_next HBZ.out hb4
  have HB4 := hideP (below_next HB3.out hb34)
  have HU4 := hideP ((hb34.block _ (lt_of_block HU3.out)).trans HU3.out)
  have HTU4 := hideP (tyF_below HTU3.out hb34)
  have HFB4 := hideP (tyF_below HFB3.out hb34)
  have HBX4 := hideP ((hb34.block _ (lt_of_block HBX3.out)).trans HBX3.out)
  obtain ⟨⟨v0, v1, v2, v3⟩, _, hltv⟩ := res_facts HBX4.out
  have HC5 := hideP (sh_c 3 _ awB _ (tyF_at HFB4.out) (HW.out.below HB4.out) (HP.out.below HB4.out) (by rw [aw_sb]; decide))
  clear hb4 hb34 u0 u1 u2 u3 hltu
  go_wp2_with fail
  refine HC5.out.mono ?_
  rintro e w5 ⟨hb5, s5, rfl, hs5, _⟩
  have hs5 := str_of ((hs5 ⟨aw_sizes.2.2.2.1, aw_sizes.2.2.2.2, aw_b⟩).trans aw_sb)
  subst hs5
  have HB5 := hideP (below_next HB4.out hb5)
  have HU5 := hideP ((hb5.block _ (lt_of_block HU4.out)).trans HU4.out)
  have HTU5 := hideP (tyF_below HTU4.out hb5)
  obtain ⟨⟨u0, u1, u2, u3⟩, _, hltu⟩ := res_facts HU5.out
  have HC6 := hideP (sh_c 3 _ awU _ (tyF_at HTU5.out) (HW.out.below HB5.out) (HP.out.below HB5.out) (by decide +kernel))
  clear hb5 v0 v1 v2 v3 hltv
  go_wp2_with fail
  refine HC6.out.mono ?_
  rintro e w6 ⟨hb6, s6, rfl, _, hs6⟩
  have hs6 := hs6 (by rw [aw_u]; exact fun h => aw_ne (by injection h))
  subst hs6
  have HB6 := hideP (below_next HB5.out hb6)
  clear hb6
  go_wp2_with fail
  go_ret
  exact ⟨rfl, HB6.out⟩
end Go.Proofs.YtmpcjcjacpjilaaDoor
