/- Part of the proof of ParseLeft: the texts that follow, in build order. -/
import Derived.Test.YthieoabbjekpkabGreatDoorPart23

/- ParseLeft: the walk. -/
namespace Go.Proofs.YthieoabbjekpkabGreatDoor
open Go.RowKit

set_option maxRecDepth 100000 in
set_option maxHeartbeats 16000000 in
theorem parseLeft_walk (a b : Int) (w : World) (hw : Base5 w) (_ : (Lit.int .i64 a).wf = true) (_ : (Lit.int .i64 b).wf = true) :
    Calls Tryz.prog 4 #[.int .i64 a, .int .i64 b] w fun e w' => e = .returned (.bool true) ∧ Below w.heap.size w w' := by
  have HW := hideP hw
  have HA := hideP (awake5_c w hw)
  clear hw
  go_enter Tryz.func4, Tryz.ntmps4
  go_wp2_with fail
  refine HA.out.mono ?_
  rintro e w1 ⟨rfl, hb1⟩
  have HB1 := hideP hb1
  clear hb1 HA
  go_wp2_with fail
  refine (refOps_c _).mono ?_
  rintro e w2 ⟨rfl, rfl⟩
  have HB3 := hideP (below_next (below_next HB1.out (bl_alloc w1 opsO)) (bl_alloc _ rnkO))
  have HO3 : Hid (((w1.alloc opsO).alloc rnkO).heap[w1.heap.size]? = some opsO) := (Below.heap_alloc _ _ _ (by simp)).trans (heap_alloc_last _ _)
  have HR3 : Hid (((w1.alloc opsO).alloc rnkO).heap[w1.heap.size + 1]? = some rnkO) := heap_at1 _ _ _
  have hlb : w1.heap.size < ((w1.alloc opsO).alloc rnkO).heap.size := lt_of_block HO3.out
  by_cases h1 : a < 0
  · go_wp2_with fail
    go_ret
    exact ⟨rfl, HB3.out⟩
  by_cases h2 : b < 0
  · go_wp2_with fail
    go_ret
    exact ⟨rfl, HB3.out⟩
  by_cases h3 : 15 ≤ a
  · go_wp2_with fail
    go_ret
    exact ⟨rfl, HB3.out⟩
  by_cases h4 : 15 ≤ b
  · go_wp2_with fail
    go_ret
    exact ⟨rfl, HB3.out⟩
  obtain ⟨i, rfl⟩ : ∃ i : Nat, a = i := ⟨a.toNat, by omega⟩
  obtain ⟨k, rfl⟩ : ∃ k : Nat, b = k := ⟨b.toNat, by omega⟩
  have hi : i < 15 := by omega
  have hk : k < 15 := by omega
  go_wp2_with fail
  generalize (w1.alloc opsO).alloc rnkO = W3 at HB3 HO3 HR3 hlb ⊢
  generalize w1.heap.size = lb at HO3 HR3 hlb ⊢
  obtain ⟨Si, hSi⟩ : ∃ Si : ByteArray, Si = ⟨(opL i).toArray⟩ := ⟨_, rfl⟩
  obtain ⟨Sk, hSk⟩ : ∃ Sk : ByteArray, Sk = ⟨(opL k).toArray⟩ := ⟨_, rfl⟩
  have hzi : Si.size ≤ 3 := by rw [hSi]; exact (opL_ok i hi).2
  have hzk : Sk.size ≤ 3 := by rw [hSk]; exact (opL_ok k hk).2
  have HS : Hid (∀ W, Below W3.heap.size W3 W → W.cell? ⟨lb, i, none⟩ = some (.string Si) ∧ W.cell? ⟨lb, k, none⟩ = some (.string Sk)) := fun W hW => by
    have ho := (hW.block lb hlb).trans HO3.out
    rw [hSi, hSk]
    exact ⟨ops_cell ho hi, ops_cell ho hk⟩
  have HC : Hid (∀ W, Below W3.heap.size W3 W → Calls Tryz.prog 6 #[.string (⟨#[120, 32]⟩ ++ Si ++ ⟨#[32, 121, 32]⟩ ++ Sk ++ ⟨#[32, 122]⟩)] W fun e w9 => ∃ (x : NV) (li co er : Int), e = .returned (.tuple #[x.val, .agg #[.int .i64 0, .int .i64 li, .int .i64 co, .int .i64 er]]) ∧ Below W.heap.size W w9 ∧ (w9.cell? ⟨lb, i, none⟩ = some (.string Si) ∧ w9.cell? ⟨lb, k, none⟩ = some (.string Sk)) ∧ W.heap.size ≤ w9.heap.size ∧ Hid (LeftM (leftR i k) er W.heap.size w9 x)) := fun W hW => by
    have hl : (⟨#[120, 32]⟩ ++ Si ++ ⟨#[32, 121, 32]⟩ ++ Sk ++ ⟨#[32, 122]⟩ : ByteArray).data.toList = leftText i k := by
      rw [hSi, hSk]
      simp [ByteArray.data_append, leftText]
    refine (parseExpr_c _ (by simp only [ByteArray.size_append]; show 2 + _ + 3 + _ + 2 ≤ _; omega) W ((HW.out.lx.below HB3.out).below hW)).mono ?_
    intro e w9 hpost
    rw [hl, left_eval hi hk] at hpost
    obtain ⟨hb, hm⟩ := hpost
    have hb9 := below_next hW hb
    cases hr : leftR i k with
    | inl D =>
      rw [hr] at hm
      obtain ⟨v, rfl, x, rfl, hv⟩ := hm
      exact ⟨x, 0, 0, 0, rfl, hb, HS.out _ hb9, hb.size, show LeftM (.inl D) 0 W.heap.size w9 x from And.intro rfl hv⟩
    | inr q =>
      rw [hr] at hm
      obtain ⟨er, li, co⟩ := q
      exact ⟨zNV, li, co, er, hm, hb, HS.out _ hb9, hb.size, show LeftM (.inr (er, li, co)) er W.heap.size w9 zNV from rfl⟩
  have HSi := hideP hSi
  have HSk := hideP hSk
  clear hSi hSk
  have hSS := HS.out W3.drew (Below.refl _ _).drew
  have v1 : ¬ 9223372036854775807 < 2 + Si.size := by omega
  have v2 : ¬ 9223372036854775807 < 2 + Si.size + 3 := by omega
  have v3 : ¬ 9223372036854775807 < 2 + Si.size + 3 + Sk.size := by omega
  have v4 : ¬ 9223372036854775807 < 2 + Si.size + 3 + Sk.size + 2 := by omega
  go_cut [8, 9] from 10 (fun s8 s9 wc => ∃ (nb db : Nat) (x : NV) (li co er : Int), s8 = .pointer (some ⟨nb, 0, none⟩) ∧ s9 = .pointer (some ⟨db, 0, none⟩) ∧ Hid (LeftC W3 wc (leftR i k) nb db x li co er))
  case first =>
    go_region_held (fun W => W.cell? ⟨lb, i, none⟩ = some (.string Si) ∧ W.cell? ⟨lb, k, none⟩ = some (.string Sk)) (first | with_reducible assumption | with_reducible exact HS.out _ (by (repeat' first | exact HB9.out | exact Below.refl _ _ | refine Below.drew ?_ | refine Below.alloc ?_ ?_ _ | refine Below.setCell ?_ ?_ _ | (simp only [World.size_alloc, size_set]; omega) | (show _ ≤ _; omega)))) (first
      | (go_at_call 6; refine (HC.out (W3.drew) ((Below.refl _ _).drew)).mono ?_; rintro e w9 ⟨x, li, co, er, rfl, hb, t5, hsz, HX⟩; have HB9 := hideP (below_next (show Below W3.heap.size W3 (W3.drew) from (Below.refl _ _).drew) hb); have hs9 : W3.heap.size ≤ w9.heap.size := HB9.out.size; clear hb)
      | (go_at_call 6; refine (HC.out ((W3.alloc zNV.obj).drew) ((bl_alloc _ _).drew)).mono ?_; rintro e w9 ⟨x, li, co, er, rfl, hb, t5, hsz, HX⟩; have HB9 := hideP (below_next (show Below W3.heap.size W3 ((W3.alloc zNV.obj).drew) from (bl_alloc _ _).drew) hb); have hs9 : W3.heap.size ≤ w9.heap.size := HB9.out.size; have HX0 : Hid (w9.heap[W3.heap.size]? = some zNV.obj) := ((hb.block (W3.heap.size) (by simp only [heap_drew, World.size_alloc]; omega)).trans (heap_alloc_last _ _)); obtain ⟨⟨n0, n1, n2, n3, n4, n5, n6, n7⟩, ⟨m0, m1, m2, m3, m4, m5, m6, m7⟩, hnl⟩ := box8 (x := zNV) HX0.out; clear hb)
      | (go_at_call 6; refine (HC.out ((W3.alloc (.cells #[.int .i64 0, .int .i64 0, .int .i64 0, .int .i64 0] 30)).drew) ((bl_alloc _ _).drew)).mono ?_; rintro e w9 ⟨x, li, co, er, rfl, hb, t5, hsz, HX⟩; have HB9 := hideP (below_next (show Below W3.heap.size W3 ((W3.alloc (.cells #[.int .i64 0, .int .i64 0, .int .i64 0, .int .i64 0] 30)).drew) from (bl_alloc _ _).drew) hb); have hs9 : W3.heap.size ≤ w9.heap.size := HB9.out.size; have HX0 : Hid (w9.heap[W3.heap.size]? = some (.cells #[.int .i64 0, .int .i64 0, .int .i64 0, .int .i64 0] 30)) := ((hb.block (W3.heap.size) (by simp only [heap_drew, World.size_alloc]; omega)).trans (heap_alloc_last _ _)); obtain ⟨⟨d0, d1, d2, d3⟩, ⟨g0, g1, g2, g3⟩, hdl⟩ := res_facts HX0.out; clear hb)
      | (go_at_call 6; refine (HC.out (((W3.alloc zNV.obj).alloc (.cells #[.int .i64 0, .int .i64 0, .int .i64 0, .int .i64 0] 30)).drew) ((below_next (bl_alloc _ _) (bl_alloc _ _)).drew)).mono ?_; rintro e w9 ⟨x, li, co, er, rfl, hb, t5, hsz, HX⟩; have HB9 := hideP (below_next (show Below W3.heap.size W3 (((W3.alloc zNV.obj).alloc (.cells #[.int .i64 0, .int .i64 0, .int .i64 0, .int .i64 0] 30)).drew) from (below_next (bl_alloc _ _) (bl_alloc _ _)).drew) hb); have hs9 : W3.heap.size ≤ w9.heap.size := HB9.out.size; have HX0 : Hid (w9.heap[W3.heap.size]? = some zNV.obj) := ((hb.block (W3.heap.size) (by simp only [heap_drew, World.size_alloc]; omega)).trans ((Below.heap_alloc _ _ _ (by simp)).trans (heap_alloc_last _ _))); obtain ⟨⟨n0, n1, n2, n3, n4, n5, n6, n7⟩, ⟨m0, m1, m2, m3, m4, m5, m6, m7⟩, hnl⟩ := box8 (x := zNV) HX0.out; have HX1 : Hid (w9.heap[W3.heap.size + 1]? = some (.cells #[.int .i64 0, .int .i64 0, .int .i64 0, .int .i64 0] 30)) := ((hb.block (W3.heap.size + 1) (by simp only [heap_drew, World.size_alloc]; omega)).trans (heap_at1 _ _ _)); obtain ⟨⟨d0, d1, d2, d3⟩, ⟨g0, g1, g2, g3⟩, hdl⟩ := res_facts HX1.out; clear hb)
      | (go_at_call 6; refine (HC.out (((W3.alloc (.cells #[.int .i64 0, .int .i64 0, .int .i64 0, .int .i64 0] 30)).alloc zNV.obj).drew) ((below_next (bl_alloc _ _) (bl_alloc _ _)).drew)).mono ?_; rintro e w9 ⟨x, li, co, er, rfl, hb, t5, hsz, HX⟩; have HB9 := hideP (below_next (show Below W3.heap.size W3 (((W3.alloc (.cells #[.int .i64 0, .int .i64 0, .int .i64 0, .int .i64 0] 30)).alloc zNV.obj).drew) from (below_next (bl_alloc _ _) (bl_alloc _ _)).drew) hb); have hs9 : W3.heap.size ≤ w9.heap.size := HB9.out.size; have HX0 : Hid (w9.heap[W3.heap.size]? = some (.cells #[.int .i64 0, .int .i64 0, .int .i64 0, .int .i64 0] 30)) := ((hb.block (W3.heap.size) (by simp only [heap_drew, World.size_alloc]; omega)).trans ((Below.heap_alloc _ _ _ (by simp)).trans (heap_alloc_last _ _))); obtain ⟨⟨d0, d1, d2, d3⟩, ⟨g0, g1, g2, g3⟩, hdl⟩ := res_facts HX0.out; have HX1 : Hid (w9.heap[W3.heap.size + 1]? = some zNV.obj) := ((hb.block (W3.heap.size + 1) (by simp only [heap_drew, World.size_alloc]; omega)).trans (heap_at1 _ _ _)); obtain ⟨⟨n0, n1, n2, n3, n4, n5, n6, n7⟩, ⟨m0, m1, m2, m3, m4, m5, m6, m7⟩, hnl⟩ := box8 (x := zNV) HX1.out; clear hb))
    · go_wp2_with fail
      go_meet
      exact ⟨_, _, x, li, co, er, rfl, rfl, leftC_1 HB9.out HX.out⟩
    · go_wp2_with fail
      go_meet
      exact ⟨_, _, x, li, co, er, rfl, rfl, leftC_2 HB9.out HX.out⟩
    · go_wp2_with fail
      go_meet
      exact ⟨_, _, x, li, co, er, rfl, rfl, leftC_3 HB9.out HX.out HX0.out (Nat.le_refl _) (by simp only [heap_drew, World.size_alloc]; omega)⟩
    · go_wp2_with fail
      go_meet
      exact ⟨_, _, x, li, co, er, rfl, rfl, leftC_4 HB9.out HX.out HX0.out HX1.out (Nat.le_refl _) (by simp only [heap_drew, World.size_alloc]; omega) (by omega) (by simp only [heap_drew, World.size_alloc]; omega) (by omega)⟩
    · go_wp2_with fail
      go_meet
      exact ⟨_, _, x, li, co, er, rfl, rfl, leftC_5 HB9.out HX.out HX0.out (Nat.le_refl _) (by simp only [heap_drew, World.size_alloc]; omega)⟩
    · go_wp2_with fail
      go_meet
      exact ⟨_, _, x, li, co, er, rfl, rfl, leftC_4 HB9.out HX.out HX1.out HX0.out (by omega) (by simp only [heap_drew, World.size_alloc]; omega) (Nat.le_refl _) (by simp only [heap_drew, World.size_alloc]; omega) (by omega)⟩
  case rest =>
    obtain ⟨nb, db, x, li, co, er, rfl, rfl, HL⟩ := hcut
    have HBc := hideP HL.out.1
    have HBw := hideP (below_next HB3.out HL.out.1)
    have hOc := (HL.out.1.block _ hlb).trans HO3.out
    have hRc := (HL.out.1.block _ (lt_of_block HR3.out)).trans HR3.out
    have r1 := rnk_cell hRc hi
    have r2 := rnk_cell hRc hk
    obtain ⟨⟨d0, d1, d2, d3⟩, _, hdl⟩ := res_facts HL.out.2.2.1
    clear hOc hRc
    clear HC v1 v2 v3 v4 hSS
    obtain ⟨ri, hri⟩ : ∃ ri, ri = rkL i := ⟨_, rfl⟩
    obtain ⟨rk, hrk⟩ : ∃ rk, rk = rkL k := ⟨_, rfl⟩
    rw [← hri] at r1
    rw [← hrk] at r2
    have HRI := hideP hri
    have HRK := hideP hrk
    clear hri hrk
    by_cases hboth : ri = 2 ∧ rk = 2
    · obtain ⟨rfl, rfl⟩ := hboth
      have he : er = 7 := by
        obtain ⟨_, _, _, lo, hm⟩ := HL.out
        rw [leftR, if_pos ⟨HRI.out.symm, HRK.out.symm⟩] at hm
        exact hm
      subst he
      go_wp2_with fail
      go_ret
      exact ⟨rfl, HBw.out⟩
    have HM : Hid (er = 0 ∧ ∃ lo, NdV lo wc x (if rkL k ≤ rkL i then leftD i k else rightD i k)) := by
      obtain ⟨_, _, _, lo, hm⟩ := HL.out
      rw [leftR, if_neg (by rw [← HRI.out, ← HRK.out]; exact hboth)] at hm
      exact ⟨hm.1, lo, hm.2⟩
    obtain rfl : er = 0 := HM.out.1
    have HNb := hideP HL.out.2.1
    obtain ⟨⟨n0, n1, n2, n3, n4, n5, n6, n7⟩, _, hnl⟩ := box8 HNb.out
    have HBool : Hid (∃ b1 b2 : Bool, ((ri : Int) == 2) = b1 ∧ ((rk : Int) == 2) = b2 ∧ (b1 && b2) = false) := by
      refine ⟨_, _, rfl, rfl, ?_⟩
      cases h1 : ((ri : Int) == 2) with
      | false => rfl
      | true =>
        cases h2 : ((rk : Int) == 2) with
        | false => rfl
        | true => exact absurd ⟨by simp at h1; omega, by simp at h2; omega⟩ hboth
    obtain ⟨b1, b2, hb1, hb2, hb12⟩ := HBool.out
    clear hboth HL
    have HSE : Hid (∀ W, Below wc.heap.size wc W → W.cell? ⟨lb, i, none⟩ = some (.string Si) ∧ W.cell? ⟨lb, k, none⟩ = some (.string Sk) ∧ W.cell? ⟨nb, 0, none⟩ = some (.int .i64 x.k) ∧ W.cell? ⟨nb, 1, none⟩ = some (.string x.tx) ∧ W.cell? ⟨nb, 2, none⟩ = some (.int .i64 x.N) ∧ W.cell? ⟨nb, 3, none⟩ = some (.int .i64 x.li) ∧ W.cell? ⟨nb, 4, none⟩ = some (.int .i64 x.co) ∧ W.cell? ⟨nb, 5, none⟩ = some (.slice x.ta x.tl x.tc) ∧ W.cell? ⟨nb, 6, none⟩ = some (.slice x.na x.nl x.nc) ∧ W.cell? ⟨nb, 7, none⟩ = some (.slice x.ka x.kl x.kc)) := fun W hW => by
      have h1 := HS.out W (below_next HBc.out hW)
      have h2 := (box8 ((hW.block nb (lt_of_block HNb.out)).trans HNb.out)).1
      exact ⟨h1.1, h1.2, h2⟩
    by_cases hle : rk ≤ ri
    · have hge : (rk : Int) ≤ (ri : Int) := by omega
      have HNd : Hid (∃ lo, NdV lo wc x (leftD i k)) := by
        have := HM.out.2
        rw [if_pos (by rw [← HRI.out, ← HRK.out]; exact hle)] at this
        exact this
      have HT : Hid (∀ W, Below wc.heap.size wc W → Calls Tryz.prog 10 #[x.val] W fun e w6 => e = .returned (.string (⟨#[40, 40, 120, 32]⟩ ++ Si ++ ⟨#[32, 121, 41, 32]⟩ ++ Sk ++ ⟨#[32, 122, 41]⟩)) ∧ Below wc.heap.size wc w6 ∧ w6.cell? ⟨lb, i, none⟩ = some (.string Si) ∧ w6.cell? ⟨lb, k, none⟩ = some (.string Sk) ∧ w6.cell? ⟨nb, 0, none⟩ = some (.int .i64 x.k) ∧ w6.cell? ⟨nb, 1, none⟩ = some (.string x.tx) ∧ w6.cell? ⟨nb, 2, none⟩ = some (.int .i64 x.N) ∧ w6.cell? ⟨nb, 3, none⟩ = some (.int .i64 x.li) ∧ w6.cell? ⟨nb, 4, none⟩ = some (.int .i64 x.co) ∧ w6.cell? ⟨nb, 5, none⟩ = some (.slice x.ta x.tl x.tc) ∧ w6.cell? ⟨nb, 6, none⟩ = some (.slice x.na x.nl x.nc) ∧ w6.cell? ⟨nb, 7, none⟩ = some (.slice x.ka x.kl x.kc)) := fun W hW => by
        obtain ⟨lo, hv⟩ := HNd.out
        refine (left_expr ((HW.out.tr.below HBw.out).below hW) hi hk (hv.below hW)).mono ?_
        rintro e w6 ⟨⟨s, rfl, hs⟩, hb6⟩
        refine ⟨?_, below_next hW hb6, HSE.out _ (below_next hW hb6)⟩
        have : s = (⟨#[40, 40, 120, 32]⟩ ++ Si ++ ⟨#[32, 121, 41, 32]⟩ ++ Sk ++ ⟨#[32, 122, 41]⟩) := by
          rw [strB_of hs, HSi.out, HSk.out]
          simp [leftT, ByteArray.ext_iff, ByteArray.data_append]
        rw [this]
      have v1 : ¬ 9223372036854775807 < 4 + Si.size := by omega
      have v2 : ¬ 9223372036854775807 < 4 + Si.size + 4 := by omega
      have v3 : ¬ 9223372036854775807 < 4 + Si.size + 4 + Sk.size := by omega
      have v4 : ¬ 9223372036854775807 < 4 + Si.size + 4 + Sk.size + 3 := by omega
      cases b1 with
      | false =>
        go_wp2_with fail
        go_quiet (fail)
        go_wp2_with fail
        have hSS := HSE.out (wc.drewN nq).drew (below_drewN (Below.refl _ _) nq).drew
        go_region_held (fun W => W.cell? ⟨lb, i, none⟩ = some (.string Si) ∧ W.cell? ⟨lb, k, none⟩ = some (.string Sk) ∧ W.cell? ⟨nb, 0, none⟩ = some (.int .i64 x.k) ∧ W.cell? ⟨nb, 1, none⟩ = some (.string x.tx) ∧ W.cell? ⟨nb, 2, none⟩ = some (.int .i64 x.N) ∧ W.cell? ⟨nb, 3, none⟩ = some (.int .i64 x.li) ∧ W.cell? ⟨nb, 4, none⟩ = some (.int .i64 x.co) ∧ W.cell? ⟨nb, 5, none⟩ = some (.slice x.ta x.tl x.tc) ∧ W.cell? ⟨nb, 6, none⟩ = some (.slice x.na x.nl x.nc) ∧ W.cell? ⟨nb, 7, none⟩ = some (.slice x.ka x.kl x.kc)) (with_reducible assumption) (first
          | (go_at_call 10; refine (HT.out _ (below_drewN (Below.refl _ _) nq).drew).mono ?_; rintro e w6 ⟨rfl, hb6, t6⟩; have HB6 := hideP hb6; clear hb6))
        go_wp2_with fail
        go_ret
        exact ⟨rfl, below_next HBw.out HB6.out⟩
      | true =>
        cases b2 with
        | true => cases hb12
        | false =>
          go_wp2_with fail
          go_quiet (fail)
          go_wp2_with fail
          have hSS := HSE.out (wc.drewN nq).drew (below_drewN (Below.refl _ _) nq).drew
          go_region_held (fun W => W.cell? ⟨lb, i, none⟩ = some (.string Si) ∧ W.cell? ⟨lb, k, none⟩ = some (.string Sk) ∧ W.cell? ⟨nb, 0, none⟩ = some (.int .i64 x.k) ∧ W.cell? ⟨nb, 1, none⟩ = some (.string x.tx) ∧ W.cell? ⟨nb, 2, none⟩ = some (.int .i64 x.N) ∧ W.cell? ⟨nb, 3, none⟩ = some (.int .i64 x.li) ∧ W.cell? ⟨nb, 4, none⟩ = some (.int .i64 x.co) ∧ W.cell? ⟨nb, 5, none⟩ = some (.slice x.ta x.tl x.tc) ∧ W.cell? ⟨nb, 6, none⟩ = some (.slice x.na x.nl x.nc) ∧ W.cell? ⟨nb, 7, none⟩ = some (.slice x.ka x.kl x.kc)) (with_reducible assumption) (first
            | (go_at_call 10; refine (HT.out _ (below_drewN (Below.refl _ _) nq).drew).mono ?_; rintro e w6 ⟨rfl, hb6, t6⟩; have HB6 := hideP hb6; clear hb6))
          go_wp2_with fail
          go_ret
          exact ⟨rfl, below_next HBw.out HB6.out⟩
    · have hge : ¬ (rk : Int) ≤ (ri : Int) := by omega
      have HNd : Hid (∃ lo, NdV lo wc x (rightD i k)) := by
        have := HM.out.2
        rw [if_neg (by rw [← HRI.out, ← HRK.out]; exact hle)] at this
        exact this
      have HT : Hid (∀ W, Below wc.heap.size wc W → Calls Tryz.prog 10 #[x.val] W fun e w6 => e = .returned (.string (⟨#[40, 120, 32]⟩ ++ Si ++ ⟨#[32, 40, 121, 32]⟩ ++ Sk ++ ⟨#[32, 122, 41, 41]⟩)) ∧ Below wc.heap.size wc w6 ∧ w6.cell? ⟨lb, i, none⟩ = some (.string Si) ∧ w6.cell? ⟨lb, k, none⟩ = some (.string Sk) ∧ w6.cell? ⟨nb, 0, none⟩ = some (.int .i64 x.k) ∧ w6.cell? ⟨nb, 1, none⟩ = some (.string x.tx) ∧ w6.cell? ⟨nb, 2, none⟩ = some (.int .i64 x.N) ∧ w6.cell? ⟨nb, 3, none⟩ = some (.int .i64 x.li) ∧ w6.cell? ⟨nb, 4, none⟩ = some (.int .i64 x.co) ∧ w6.cell? ⟨nb, 5, none⟩ = some (.slice x.ta x.tl x.tc) ∧ w6.cell? ⟨nb, 6, none⟩ = some (.slice x.na x.nl x.nc) ∧ w6.cell? ⟨nb, 7, none⟩ = some (.slice x.ka x.kl x.kc)) := fun W hW => by
        obtain ⟨lo, hv⟩ := HNd.out
        refine (right_expr ((HW.out.tr.below HBw.out).below hW) hi hk (hv.below hW)).mono ?_
        rintro e w6 ⟨⟨s, rfl, hs⟩, hb6⟩
        refine ⟨?_, below_next hW hb6, HSE.out _ (below_next hW hb6)⟩
        have : s = (⟨#[40, 120, 32]⟩ ++ Si ++ ⟨#[32, 40, 121, 32]⟩ ++ Sk ++ ⟨#[32, 122, 41, 41]⟩) := by
          rw [strB_of hs, HSi.out, HSk.out]
          simp [rightT, ByteArray.ext_iff, ByteArray.data_append]
        rw [this]
      have v1 : ¬ 9223372036854775807 < 3 + Si.size := by omega
      have v2 : ¬ 9223372036854775807 < 3 + Si.size + 4 := by omega
      have v3 : ¬ 9223372036854775807 < 3 + Si.size + 4 + Sk.size := by omega
      have v4 : ¬ 9223372036854775807 < 3 + Si.size + 4 + Sk.size + 4 := by omega
      cases b1 with
      | false =>
        go_wp2_with fail
        go_quiet (fail)
        go_wp2_with fail
        have hSS := HSE.out (wc.drewN nq).drew (below_drewN (Below.refl _ _) nq).drew
        go_region_held (fun W => W.cell? ⟨lb, i, none⟩ = some (.string Si) ∧ W.cell? ⟨lb, k, none⟩ = some (.string Sk) ∧ W.cell? ⟨nb, 0, none⟩ = some (.int .i64 x.k) ∧ W.cell? ⟨nb, 1, none⟩ = some (.string x.tx) ∧ W.cell? ⟨nb, 2, none⟩ = some (.int .i64 x.N) ∧ W.cell? ⟨nb, 3, none⟩ = some (.int .i64 x.li) ∧ W.cell? ⟨nb, 4, none⟩ = some (.int .i64 x.co) ∧ W.cell? ⟨nb, 5, none⟩ = some (.slice x.ta x.tl x.tc) ∧ W.cell? ⟨nb, 6, none⟩ = some (.slice x.na x.nl x.nc) ∧ W.cell? ⟨nb, 7, none⟩ = some (.slice x.ka x.kl x.kc)) (with_reducible assumption) (first
          | (go_at_call 10; refine (HT.out _ (below_drewN (Below.refl _ _) nq).drew).mono ?_; rintro e w6 ⟨rfl, hb6, t6⟩; have HB6 := hideP hb6; clear hb6))
        go_wp2_with fail
        go_ret
        exact ⟨rfl, below_next HBw.out HB6.out⟩
      | true =>
        cases b2 with
        | true => cases hb12
        | false =>
          go_wp2_with fail
          go_quiet (fail)
          go_wp2_with fail
          have hSS := HSE.out (wc.drewN nq).drew (below_drewN (Below.refl _ _) nq).drew
          go_region_held (fun W => W.cell? ⟨lb, i, none⟩ = some (.string Si) ∧ W.cell? ⟨lb, k, none⟩ = some (.string Sk) ∧ W.cell? ⟨nb, 0, none⟩ = some (.int .i64 x.k) ∧ W.cell? ⟨nb, 1, none⟩ = some (.string x.tx) ∧ W.cell? ⟨nb, 2, none⟩ = some (.int .i64 x.N) ∧ W.cell? ⟨nb, 3, none⟩ = some (.int .i64 x.li) ∧ W.cell? ⟨nb, 4, none⟩ = some (.int .i64 x.co) ∧ W.cell? ⟨nb, 5, none⟩ = some (.slice x.ta x.tl x.tc) ∧ W.cell? ⟨nb, 6, none⟩ = some (.slice x.na x.nl x.nc) ∧ W.cell? ⟨nb, 7, none⟩ = some (.slice x.ka x.kl x.kc)) (with_reducible assumption) (first
            | (go_at_call 10; refine (HT.out _ (below_drewN (Below.refl _ _) nq).drew).mono ?_; rintro e w6 ⟨rfl, hb6, t6⟩; have HB6 := hideP hb6; clear hb6))
          go_wp2_with fail
          go_ret
          exact ⟨rfl, below_next HBw.out HB6.out⟩
end Go.Proofs.YthieoabbjekpkabGreatDoor
