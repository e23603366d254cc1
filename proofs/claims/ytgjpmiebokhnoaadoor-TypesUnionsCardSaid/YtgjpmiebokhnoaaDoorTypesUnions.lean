/- A union of a normal type's members, in any order and twice, is that type: graduslaw03.TypesUnions returns true for every type and every turn. -/
import Derived.Test.YtgjpmiebokhnoaaDoorLaid3
import Derived.Test.YtgjpmiebokhnoaaDoorRefSz
import Derived.Test.YtgjpmiebokhnoaaDoorTySm
import Derived.Test.YtgjpmiebokhnoaaDoorTyUI
import Derived.BigQuiet
namespace Go.Proofs.YtgjpmiebokhnoaaDoor
open Go.ChangeShapes Go.WideShapes Go.ChangeAt Go.RowKit
open Go.ChangeMaps (open_string shut_string)

theorem few_members {n : Nat} {E : Ty} (h : NormT n E) : (membersT E).length ≤ 6 := by
  by_cases h0 : kindT E = 0
  · unfold membersT
    rw [if_neg (by omega)]
    simp
  · have hp2 : ((membersT E).map kindT).Pairwise (· < ·) := by rw [List.pairwise_map]; exact member_rise h
    have hnd : ((membersT E).map kindT).Nodup := hp2.imp fun h e => by omega
    have hsub : ((membersT E).map kindT) ⊆ [1, 2, 3, 4, 5, 6] := fun z hz => by
      obtain ⟨x, hx1, rfl⟩ := List.mem_map.1 hz
      have := member_kinds h h0 x hx1
      have : kindT x = 1 ∨ kindT x = 2 ∨ kindT x = 3 ∨ kindT x = 4 ∨ kindT x = 5 ∨ kindT x = 6 := by omega
      simp
      exact this
    have := List.Nodup.length_le_of_subset hnd hsub
    simpa using this

theorem int_wf {x : Int} (h : (Lit.int .i64 x).wf = true) : -9223372036854775808 ≤ x ∧ x ≤ 9223372036854775807 := by
  simp only [Lit.wf, Bool.and_eq_true, decide_eq_true_eq] at h
  exact h

theorem tmod7 (x : Int) : -6 ≤ x.tmod 7 ∧ x.tmod 7 ≤ 6 := by
  cases x with
  | ofNat n =>
    have : (Int.ofNat n).tmod 7 = ((n % 7 : Nat) : Int) := rfl
    rw [this]
    omega
  | negSucc n =>
    have : (Int.negSucc n).tmod 7 = -(((n + 1) % 7 : Nat) : Int) := rfl
    rw [this]
    omega

set_option maxHeartbeats 8000000 in
set_option maxRecDepth 100000 in
theorem typesUnions_run (N : Nat) (D : Ty) (k : Int) (nm : ByteArray) (na : Option Addr) (nl nc : Nat) (ka : Option Addr) (kl kc : Nat) (turn : Int) (w : World) (hw : Words w) (hp : Plain w)
    (h : TyAt w false N (.agg #[.int .i64 k, .string nm, .slice na nl nc, .slice ka kl kc]) D) (ht : -9223372036854775808 ≤ turn ∧ turn ≤ 9223372036854775807) :
    Calls Tryd.prog 8 #[.agg #[.int .i64 k, .string nm, .slice na nl nc, .slice ka kl kc], .int .i64 turn] w fun e w' => e = .returned (.bool true) ∧ Below w.heap.size w w' := by
  have HT := hideP h
  have HW := hideP hw
  have HP := hideP hp
  have hb0 := bl_alloc w (tyO k nm na nl nc ka kl kc)
  have HBX : Hid ((w.alloc (tyO k nm na nl nc ka kl kc)).heap[w.heap.size]? = some (tyO k nm na nl nc ka kl kc)) := heap_alloc_last w _
  have HC1 := hideP (awake_c _ (hw.below hb0) (hp.below hb0))
  have HB0 := hideP hb0
  obtain ⟨ht1, ht2⟩ := ht
  clear h hw hp hb0
  go_enter Tryd.func8, Tryd.ntmps8
  go_wp2_with fail
  refine HC1.out.mono ?_
  rintro e w1 ⟨rfl, hb1⟩
  have HB1 := hideP (below_next HB0.out hb1)
  have HBX1 := hideP ((hb1.block _ (lt_of_block HBX.out)).trans HBX.out)
  obtain ⟨⟨x0, x1, x2, x3⟩, _, hltx⟩ := res_facts HBX1.out
  have HC2 := hideP (small_c N _ D _ 100 (ty_below HT.out HB1.out) (by decide) (by decide))
  clear hb1
  go_wp2_with fail
  refine HC2.out.mono ?_
  rintro e w2 ⟨⟨r, rfl, hr0, hr1, hr2⟩, hb2⟩
  have HB2 := hideP (below_next HB1.out hb2)
  have HBX2 := hideP ((hb2.block _ (lt_of_block HBX1.out)).trans HBX1.out)
  have HR := hideP hr2
  clear x0 x1 x2 x3 hltx hb2 hr2
  obtain ⟨⟨x0, x1, x2, x3⟩, _, hltx⟩ := res_facts HBX2.out
  by_cases hr : r = 0
  · subst hr
    go_wp2_with fail
    go_ret
    exact ⟨rfl, HB2.out⟩
  have hre : (r == 0) = false := by rw [beq_eq_false_iff_ne]; exact hr
  have HC3 := hideP (nm_c false N _ D w2 (ty_below HT.out HB2.out) (HW.out.below HB2.out))
  clear hr
  go_wp2_with fail
  refine HC3.out.mono ?_
  rintro e w3 ⟨hb3, hways⟩
  have HB3 := hideP (below_next HB2.out hb3)
  rcases hways with ⟨rfl, _⟩ | ⟨E, g1, g2, g3, g4, g5, g6, g7, g8, hn, hs, rfl, hF, hk⟩
  · clear hb3
    go_wp2_with fail
    go_ret
    exact ⟨rfl, HB3.out.alloc HB3.out.size _⟩
  have HN := hideP hn
  have HF := hideP hF
  have HK := hideP hk
  have hb23 := hb3.size
  clear hb3 hn hs hF
  by_cases h0 : g1 = 0
  · subst h0
    go_wp2_with fail
    go_ret
    exact ⟨rfl, HB3.out.alloc HB3.out.size _⟩
  have h0e : (g1 == 0) = false := by rw [beq_eq_false_iff_ne]; exact h0
  clear hk
  obtain ⟨c0, hc0⟩ : ∃ c0, turn.tmod 7 = c0 := ⟨_, rfl⟩
  have hc1 : -6 ≤ c0 ∧ c0 ≤ 6 := by
    rw [← hc0]
    exact tmod7 turn
  obtain ⟨hc1, hc2⟩ := hc1
  obtain ⟨i0, hi, hz0, hz1, hz2⟩ := info_parts info_ty
  obtain ⟨wo, hwo⟩ : ∃ wo, wo = (w3.alloc (tyO g1 g2 g3 g4 g5 g6 g7 g8)).alloc (tyO g1 g2 g3 g4 g5 g6 g7 g8) := ⟨_, rfl⟩
  have hbo : Below w3.heap.size w3 wo := by rw [hwo]; exact below_next (bl_alloc _ _) (bl_alloc _ _)
  have hFo := tyF_below HF.out hbo
  have hs23 : w2.heap.size ≤ w3.heap.size := hb23
  by_cases h7 : g1 = 7
  · subst h7
    have hmem : membersT E = kidsT E := by unfold membersT; rw [if_pos HK.out]
    have hfew : (membersT E).length ≤ 6 := few_members (norm_normal HN.out)
    have hne : membersT E ≠ [] := by
      cases N with
      | zero => exact (norm_normal HN.out).elim
      | succ N => exact (members_show (norm_normal HN.out)).2.1
    obtain ⟨hg7, hKF⟩ : (kidsT E).length = g7 ∧ KidsF wo w2.heap.size N g6 (kidsT E) := by
      cases N with
      | zero => exact hFo.elim
      | succ N =>
        obtain ⟨k', nm', na', nc', ka', kc', ns', ks', e, rfl, _, _, _, _, _, _, hks⟩ := hFo
        injection e with e
        injection e with e
        injection e with _ e
        injection e with _ e
        injection e with _ e
        injection e with e _
        injection e with e1 e2 e3
        subst e1 e2 e3
        exact ⟨rfl, kidsF_mono hks (Nat.le_succ _)⟩
    rw [← hmem] at hg7 hKF
    obtain ⟨M, hM⟩ : ∃ M, M = membersT E := ⟨_, rfl⟩
    rw [← hM] at hg7 hKF hfew hne
    have HKF := hideP hKF
    have hml : M.length = g7 := hg7
    have hm1 : 1 ≤ M.length := by
      rcases M with _ | ⟨x, r⟩
      · exact absurd rfl hne
      · simp
    have hg76 : g7 ≤ 6 := by omega
    have HM := hideP hM
    have HWO := hideP hwo
    clear hmem hM hbo hFo hKF hwo hne hfew hg7
    have hml1 : 1 ≤ g7 := by omega
    have hsz3 : w2.heap.size ≤ w3.heap.size + 1 + 1 := by omega
    have HWS : Hid (wo.heap.size = w3.heap.size + 1 + 1) := by show _ = _; rw [HWO.out]; simp
    go_wp2_with fail
    go_loopw [10] (fun i wx => ∃ (j : Nat) (v : Value) (cl : List Cells), i = .int .i64 j ∧ j ≤ 2 * g7 ∧ Hid (cl.length = j) ∧ Hid (∀ i (h : i < cl.length) (h' : (i + (c0 + 7).toNat) % M.length < M.length), TyF wo w2.heap.size N cl[i].val M[(i + (c0 + 7).toNat) % M.length]) ∧ Hid (UI wo wx cl v)) (fun i _ => 2 * g7 - (intOf i).toNat)
    case atStart =>
      refine ⟨0, .slice none 0 0, [], rfl, Nat.zero_le _, rfl, fun i h => absurd h (Nat.not_lt_zero _), ?_⟩
      show UI _ _ _ _
      rw [HWO.out]
      exact ⟨bl_alloc _ _, heap_alloc_last _ _, World.ownsRow_nil ..⟩
    case round =>
      obtain ⟨j, v, cl, rfl, hj, hcl, hct, hU⟩ := hrel
      have hlx : wo.heap.size < wr.heap.size := hU.out.lt
      have hsz4 : wo.heap.size = w3.heap.size + 1 + 1 := HWS.out
      obtain ⟨⟨u0, u1, u2, u3⟩, ⟨uf0, uf1, uf2, uf3⟩, _⟩ := res_facts hU.out.hx
      rw [hsz4] at u0 u1 u2 u3 uf0 uf1 uf2 uf3
      have hlx' : w3.heap.size + 1 + 1 < wr.heap.size := by omega
      by_cases hlt : j < 2 * g7
      · have hjl : (j : Int) < 2 * (g7 : Int) := by omega
        have hix := turn_index (j := j) (K := g7) (c0 := c0) hc1
        have hkl : (j + (c0 + 7).toNat) % g7 < g7 := Nat.mod_lt _ (by omega)
        obtain ⟨p, hp⟩ : ∃ p, p = (j + (c0 + 7).toNat) % g7 := ⟨_, rfl⟩
        rw [← hp] at hix hkl
        have hpM : p < M.length := by omega
        have hpi : (p : Int) < (g7 : Int) := by omega
        obtain ⟨b, o, y1, y2, y3, y4, y5, y6, y7, y8, hla, hbl, q0, q1, q2, q3, htk⟩ := kidF_at HKF.out hpM
        subst hla
        have r0 := (hU.out.bl.cell (p := ⟨b, o + p * 4, none⟩) hbl).trans q0
        have r1 := (hU.out.bl.cell (p := ⟨b, o + p * 4 + 1, none⟩) hbl).trans q1
        have r2 := (hU.out.bl.cell (p := ⟨b, o + p * 4 + 2, none⟩) hbl).trans q2
        have r3 := (hU.out.bl.cell (p := ⟨b, o + p * 4 + 3, none⟩) hbl).trans q3
        have hg0 : ((g7 : Int) == 0) = false := by rw [beq_eq_false_iff_ne]; omega
        have hbr : b < wr.heap.size := Nat.lt_trans hbl hlx
        have HTK := hideP htk
        have HPP := hideP hp
        have hclj : cl.length = j := hcl.out
        clear q0 q1 q2 q3 htk hp
        go_wp2_with fail
        have HV : Hid (UI wo (wr.alloc (.cells #[.int .i64 y1, .string y2, .slice y3 y4 y5, .slice y6 y7 y8] 25)).drew cl v) := hU.out.grow (bl_alloc wr _).drew
        go_region_law (refine step_append_own rfl (.tmp 60) (.tmp 65) 23 rfl (wo.heap.size + 1) 25 i0 _ 4 72 Tryd.underlying23 hi hz0 hz1 hz2 rfl (by decide) v _ _ (by first | rfl | simp [Act.eval, Act.put]) HV.out.ow ⟨wr.heap.size, 0, none⟩ 1 1 [.int .i64 y1, .string y2, .slice y3 y4 y5, .slice y6 y7 y8] (by first | rfl | simp [Act.eval, Act.put]) rfl (cells_newN wr rfl _ _ _ _ _) (cells_one (y1, y2, y3, y4, y5, y6, y7, y8)) (by unfold maxLen; omega) (by omega) HV.out.lt ?_; intro v' w4 hown' hgrow; have HNEW := hideP (UI.put (c := (y1, y2, y3, y4, y5, y6, y7, y8)) HV.out hgrow hown'); have k1 := UI.kept HV.out hgrow; obtain ⟨gN, capN, rfl⟩ := own_form hown'; rw [hsz4] at k1; obtain ⟨⟨_, _, _, d3⟩, ⟨_, _, _, e3⟩, hl4⟩ := res_facts k1; clear k1 hown' hgrow)
        all_goals
          go_wp2_with fail
          refine ⟨⟨j + 1, .slice (some ⟨gN, 0, none⟩) (j + 1) capN, cl ++ [(y1, y2, y3, y4, y5, y6, y7, y8)], by go_num, by omega, ?_, ?_, ?_⟩, by simp [intOf]; omega⟩
          · show _ = _
            rw [List.length_append, hclj]
            rfl
          · intro i h h'
            by_cases hic : i < cl.length
            · rw [List.getElem_append_left hic]
              exact hct.out i hic h'
            · have hie : i = cl.length := by simp at h; omega
              subst hie
              rw [List.getElem_append_right (Nat.le_refl _)]
              simp only [Nat.sub_self, List.getElem_cons_zero]
              have hq : ∀ q (hq : q < M.length), q = p → TyF wo w2.heap.size N (.agg #[.int .i64 y1, .string y2, .slice y3 y4 y5, .slice y6 y7 y8]) M[q] := fun q hq e => by
                subst e
                exact HTK.out
              exact hq _ h' (by rw [hclj, hml]; exact HPP.out.symm)
          · have h2 := HNEW.out
            rw [hsz4, hclj] at h2
            exact h2
      · have hjl : ¬ (j : Int) < 2 * (g7 : Int) := by omega
        have hje : j = 2 * g7 := by omega
        subst hje
        have hclj : cl.length = 2 * g7 := hcl.out
        obtain ⟨us, hus⟩ : ∃ us, us = turnL M (c0 + 7).toNat (2 * g7) := ⟨_, rfl⟩
        have hul : us.length = 2 * g7 := by rw [hus]; exact turn_len _ _ _
        have hnu : normT (N + 1) (mkT 7 [] [] us) = some E := by
          refine union_turn (norm_normal HN.out) (by rw [HK.out]; exact h0) (fun x hx => ?_) fun x hx => ?_
          · rw [← HM.out]
            rw [hus] at hx
            exact turn_in (by omega) x hx
          · rw [← HM.out] at hx
            rw [hus]
            exact turn_all (by omega) x hx
        have hkeep : ∀ i (h1 : i < cl.length) (h2 : i < us.length), TyF wr w2.heap.size N cl[i].val us[i] := fun i h1 h2 => by
          have hq := Nat.mod_lt (i + (c0 + 7).toNat) (show 0 < M.length by omega)
          have h3 := hct.out i h1 hq
          have h4 := turn_at M (c0 + 7).toNat (2 * g7) i (by rw [turn_len]; omega) hq
          subst hus
          rw [h4]
          exact tyF_below h3 hU.out.bl
        obtain ⟨ka', kc', rfl, hkc, hkf⟩ := kidsF_of_owns (lo := w2.heap.size) (ks := us) hU.out.ow (by omega) (by omega) hkeep
        have hFu : TyF wr w2.heap.size (N + 1) (.agg #[.int .i64 7, .string ⟨#[]⟩, .slice none 0 0, .slice ka' us.length kc']) (mkT 7 [] [] us) := by
          refine ⟨7, ⟨#[]⟩, none, 0, ka', kc', [], us, ?_, rfl, by decide, by decide, by simp, ⟨Nat.le_refl _, by simp [reachBytes]⟩, ⟨hkc, by unfold reachBytes; omega⟩, .inl rfl, hkf⟩
          rfl
        have HUL := hideP hul
        clear hul
        have HFU := hideP hFu
        have HNU := hideP hnu
        have HBR : Hid (Below w3.heap.size w3 wr) := by
          have := hU.out.bl
          rw [HWO.out] at this
          exact below_next (below_next (bl_alloc _ _) (bl_alloc _ _)) this
        have HNX : Hid (wr.heap[w3.heap.size]? = some (tyO 7 g2 g3 g4 g5 g6 g7 g8)) := by
          have := hU.out.bl.block w3.heap.size (by omega)
          refine this.trans ?_
          rw [HWO.out]
          exact (Below.heap_alloc _ _ _ (by simp)).trans (heap_alloc_last w3 _)
        have HUX := hideP hU.out.hx
        have HC5 := hideP (rsize_c (N + 1) _ _ wr (ty_forget (tyF_at hFu)))
        clear hFu hnu hkeep hkf hct hU uf0 uf1 uf2 uf3 hus
        obtain ⟨S, hS⟩ : ∃ S, S = sizeT (N + 1) (mkT 7 [] [] us) := ⟨_, rfl⟩
        rw [← hS] at HC5
        have HS := hideP hS
        clear hS
        by_cases hs200 : 200 < S
        · have e1 : (200 : Int) < ((min S 201 : Nat) : Int) := by omega
          go_wp2_with fail
          refine HC5.out.mono ?_
          rintro e w5 ⟨rfl, hb5⟩
          have HB5 := hideP (below_next HB3.out (below_next HBR.out hb5))
          clear hb5
          go_wp2_with fail
          go_ret
          exact ⟨rfl, HB5.out⟩
        have e1 : ¬ (200 : Int) < ((min S 201 : Nat) : Int) := by omega
        go_wp2_with fail
        refine HC5.out.mono ?_
        rintro e w5 ⟨rfl, hb5⟩
        have HBR5 := hideP (below_next HBR.out hb5)
        have HNX5 := hideP ((hb5.block _ (lt_of_block HNX.out)).trans HNX.out)
        have HUX5 := hideP ((hb5.block _ (lt_of_block HUX.out)).trans HUX.out)
        have HFU5 := hideP (tyF_below HFU.out hb5)
        have HC6 := hideP (rheight_c (N + 1) _ _ w5 (ty_forget (tyF_at HFU5.out)))
        clear u0 u1 u2 u3 hb5
        obtain ⟨u0, u1, u2, u3⟩ := (res_facts HUX5.out).1
        rw [hsz4] at u0 u1 u2 u3
        have hl5 : w3.heap.size + 1 + 1 < w5.heap.size := by have := lt_of_block HUX5.out; omega
        obtain ⟨T, hT⟩ : ∃ T, T = heightT (N + 1) (mkT 7 [] [] us) := ⟨_, rfl⟩
        rw [← hT] at HC6
        have HTT := hideP hT
        clear hT
        by_cases ht16 : 16 < T
        · have e2 : (16 : Int) < ((min T 17 : Nat) : Int) := by omega
          go_wp2_with fail
          refine HC6.out.mono ?_
          rintro e w6 ⟨rfl, hb6⟩
          have HB6 := hideP (below_next HB3.out (below_next HBR5.out hb6))
          clear hb6
          go_wp2_with fail
          go_ret
          exact ⟨rfl, HB6.out⟩
        have e2 : ¬ (16 : Int) < ((min T 17 : Nat) : Int) := by omega
        go_wp2_with fail
        refine HC6.out.mono ?_
        rintro e w6 ⟨rfl, hb6⟩
        have HBR6 := hideP (below_next HBR5.out hb6)
        have HNX6 := hideP ((hb6.block _ (lt_of_block HNX5.out)).trans HNX5.out)
        have HUX6 := hideP ((hb6.block _ (lt_of_block HUX5.out)).trans HUX5.out)
        have HFU6 := hideP (tyF_below HFU5.out hb6)
        have HC7 := hideP (nm_c true (N + 1) _ _ w6 (tyF_at HFU6.out) (HW.out.below (below_next HB3.out HBR6.out)))
        clear u0 u1 u2 u3 hb6
        obtain ⟨u0, u1, u2, u3⟩ := (res_facts HUX6.out).1
        rw [hsz4] at u0 u1 u2 u3
        have hl6 : w3.heap.size + 1 + 1 < w6.heap.size := by have := lt_of_block HUX6.out; omega
        go_wp2_with fail
        refine HC7.out.mono ?_
        rintro e w7 ⟨hb7, hways⟩
        rcases hways with ⟨rfl, hn⟩ | ⟨E2, m1, m2, m3, m4, m5, m6, m7, m8, hn, _, rfl, hF7, _⟩
        · exact absurd ⟨by rw [← HS.out]; omega, by rw [← HTT.out]; omega, by rw [HNU.out]; rfl⟩ (hn rfl)
        have hE : E2 = E := by rw [HNU.out] at hn; injection hn with h; exact h.symm
        subst hE
        have hbm := bl_alloc w7 (tyO m1 m2 m3 m4 m5 m6 m7 m8)
        have HBR7 := hideP (below_next HBR6.out (below_next hb7 hbm))
        have HC8 := hideP (tsame_c (N + 1) _ _ _ _ _ (tyF_at (tyF_below hF7 hbm)) (ty_mono (tyF_at (tyF_below HF.out HBR7.out)) (Nat.le_succ N)))
        have hnx7 := (hb7.block _ (lt_of_block HNX6.out)).trans HNX6.out
        clear u0 u1 u2 u3
        obtain ⟨u0, u1, u2, u3⟩ := (res_facts hnx7).1
        have hl7 := lt_of_block hnx7
        clear hb7 hn hF7 hbm hnx7
        go_wp2_with fail
        refine HC8.out.mono ?_
        rintro e w8 ⟨⟨rr, rfl, hrr⟩, hb8⟩
        obtain rfl : rr = true := by simpa using hrr
        have HB8 := hideP (below_next HB3.out (below_next HBR7.out hb8))
        clear hb8 hrr
        go_wp2_with fail
        go_ret
        exact ⟨rfl, HB8.out⟩
  · have h7e : (g1 == 7) = false := by rw [beq_eq_false_iff_ne]; exact h7
    have hmem : membersT E = [E] := by unfold membersT; rw [if_neg (by rw [HK.out]; exact h7)]
    obtain ⟨M, hM⟩ : ∃ M, M = membersT E := ⟨_, rfl⟩
    rw [← hM] at hmem
    have hKF : KidsF wo w2.heap.size N (some ⟨w3.heap.size + 1, 0, none⟩) M := by
      rw [hmem]
      refine .inr ⟨_, 0, rfl, by omega, ⟨_, _, by rw [hwo]; exact heap_at1 w3 _ _⟩, fun i hi => ?_⟩
      have : i = 0 := by simp at hi; omega
      subst this
      refine ⟨_, _, _, _, ?_, ?_, ?_, ?_, hFo⟩ <;> (rw [hwo, cell_of_row _ (w3.heap.size + 1) _ _ _ _ (heap_at1 w3 _ _)]; rfl)
    have HKF := hideP hKF
    have hml : M.length = 1 := by rw [hmem]; rfl
    have HM := hideP hM
    have HWO := hideP hwo
    clear hmem hM hbo hFo hKF hwo
    have hml1 : 1 ≤ 1 := by omega
    have hsz3 : w2.heap.size ≤ w3.heap.size + 1 + 1 := by omega
    have HWS : Hid (wo.heap.size = w3.heap.size + 1 + 1) := by show _ = _; rw [HWO.out]; simp
    go_wp2_with fail
    go_loopw [10] (fun i wx => ∃ (j : Nat) (v : Value) (cl : List Cells), i = .int .i64 j ∧ j ≤ 2 * 1 ∧ Hid (cl.length = j) ∧ Hid (∀ i (h : i < cl.length) (h' : (i + (c0 + 7).toNat) % M.length < M.length), TyF wo w2.heap.size N cl[i].val M[(i + (c0 + 7).toNat) % M.length]) ∧ Hid (UI wo wx cl v)) (fun i _ => 2 * 1 - (intOf i).toNat)
    case atStart =>
      refine ⟨0, .slice none 0 0, [], rfl, Nat.zero_le _, rfl, fun i h => absurd h (Nat.not_lt_zero _), ?_⟩
      show UI _ _ _ _
      rw [HWO.out]
      exact ⟨bl_alloc _ _, heap_alloc_last _ _, World.ownsRow_nil ..⟩
    case round =>
      obtain ⟨j, v, cl, rfl, hj, hcl, hct, hU⟩ := hrel
      have hlx : wo.heap.size < wr.heap.size := hU.out.lt
      have hsz4 : wo.heap.size = w3.heap.size + 1 + 1 := HWS.out
      obtain ⟨⟨u0, u1, u2, u3⟩, ⟨uf0, uf1, uf2, uf3⟩, _⟩ := res_facts hU.out.hx
      rw [hsz4] at u0 u1 u2 u3 uf0 uf1 uf2 uf3
      have hlx' : w3.heap.size + 1 + 1 < wr.heap.size := by omega
      by_cases hlt : j < 2 * 1
      · have hjl : (j : Int) < 2 * ((1 : Nat) : Int) := by omega
        have hix := turn_index (j := j) (K := 1) (c0 := c0) hc1
        have hkl : (j + (c0 + 7).toNat) % 1 < 1 := Nat.mod_lt _ (by omega)
        obtain ⟨p, hp⟩ : ∃ p, p = (j + (c0 + 7).toNat) % 1 := ⟨_, rfl⟩
        rw [← hp] at hix hkl
        have hpM : p < M.length := by omega
        have hpi : (p : Int) < ((1 : Nat) : Int) := by omega
        obtain ⟨b, o, y1, y2, y3, y4, y5, y6, y7, y8, hla, hbl, q0, q1, q2, q3, htk⟩ := kidF_at HKF.out hpM
        injection hla with hla
        injection hla with hla1 hla2 _
        subst hla1 hla2
        have r0 := (hU.out.bl.cell (p := ⟨w3.heap.size + 1, 0 + p * 4, none⟩) hbl).trans q0
        have r1 := (hU.out.bl.cell (p := ⟨w3.heap.size + 1, 0 + p * 4 + 1, none⟩) hbl).trans q1
        have r2 := (hU.out.bl.cell (p := ⟨w3.heap.size + 1, 0 + p * 4 + 2, none⟩) hbl).trans q2
        have r3 := (hU.out.bl.cell (p := ⟨w3.heap.size + 1, 0 + p * 4 + 3, none⟩) hbl).trans q3
        simp only [Nat.zero_add] at r0 r1 r2 r3
        obtain rfl : p = 0 := by omega
        simp only [Nat.zero_mul, Nat.zero_add] at r0 r1 r2 r3
        have hbr : w3.heap.size + 1 < wr.heap.size := Nat.lt_trans hbl hlx
        have HTK := hideP htk
        have HPP := hideP hp
        have hclj : cl.length = j := hcl.out
        clear q0 q1 q2 q3 htk hp
        go_wp2_with fail
        have HV : Hid (UI wo (wr.alloc (.cells #[.int .i64 y1, .string y2, .slice y3 y4 y5, .slice y6 y7 y8] 25)).drew cl v) := hU.out.grow (bl_alloc wr _).drew
        go_region_law (refine step_append_own rfl (.tmp 60) (.tmp 65) 23 rfl (wo.heap.size + 1) 25 i0 _ 4 72 Tryd.underlying23 hi hz0 hz1 hz2 rfl (by decide) v _ _ (by first | rfl | simp [Act.eval, Act.put]) HV.out.ow ⟨wr.heap.size, 0, none⟩ 1 1 [.int .i64 y1, .string y2, .slice y3 y4 y5, .slice y6 y7 y8] (by first | rfl | simp [Act.eval, Act.put]) rfl (cells_newN wr rfl _ _ _ _ _) (cells_one (y1, y2, y3, y4, y5, y6, y7, y8)) (by unfold maxLen; omega) (by omega) HV.out.lt ?_; intro v' w4 hown' hgrow; have HNEW := hideP (UI.put (c := (y1, y2, y3, y4, y5, y6, y7, y8)) HV.out hgrow hown'); have k1 := UI.kept HV.out hgrow; obtain ⟨gN, capN, rfl⟩ := own_form hown'; rw [hsz4] at k1; obtain ⟨⟨_, _, _, d3⟩, ⟨_, _, _, e3⟩, hl4⟩ := res_facts k1; clear k1 hown' hgrow)
        all_goals
          go_wp2_with fail
          refine ⟨⟨j + 1, .slice (some ⟨gN, 0, none⟩) (j + 1) capN, cl ++ [(y1, y2, y3, y4, y5, y6, y7, y8)], by go_num, by omega, ?_, ?_, ?_⟩, by simp [intOf]; omega⟩
          · show _ = _
            rw [List.length_append, hclj]
            rfl
          · intro i h h'
            by_cases hic : i < cl.length
            · rw [List.getElem_append_left hic]
              exact hct.out i hic h'
            · have hie : i = cl.length := by simp at h; omega
              subst hie
              rw [List.getElem_append_right (Nat.le_refl _)]
              simp only [Nat.sub_self, List.getElem_cons_zero]
              have hq : ∀ q (hq : q < M.length), q = 0 → TyF wo w2.heap.size N (.agg #[.int .i64 y1, .string y2, .slice y3 y4 y5, .slice y6 y7 y8]) M[q] := fun q hq e => by
                subst e
                exact HTK.out
              exact hq _ h' (by rw [hclj, hml]; exact HPP.out.symm)
          · have h2 := HNEW.out
            rw [hsz4, hclj] at h2
            exact h2
      · have hjl : ¬ (j : Int) < 2 * ((1 : Nat) : Int) := by omega
        have hje : j = 2 * 1 := by omega
        subst hje
        have hclj : cl.length = 2 * 1 := hcl.out
        obtain ⟨us, hus⟩ : ∃ us, us = turnL M (c0 + 7).toNat (2 * 1) := ⟨_, rfl⟩
        have hul : us.length = 2 * 1 := by rw [hus]; exact turn_len _ _ _
        have hnu : normT (N + 1) (mkT 7 [] [] us) = some E := by
          refine union_turn (norm_normal HN.out) (by rw [HK.out]; exact h0) (fun x hx => ?_) fun x hx => ?_
          · rw [← HM.out]
            rw [hus] at hx
            exact turn_in (by omega) x hx
          · rw [← HM.out] at hx
            rw [hus]
            exact turn_all (by omega) x hx
        have hkeep : ∀ i (h1 : i < cl.length) (h2 : i < us.length), TyF wr w2.heap.size N cl[i].val us[i] := fun i h1 h2 => by
          have hq := Nat.mod_lt (i + (c0 + 7).toNat) (show 0 < M.length by omega)
          have h3 := hct.out i h1 hq
          have h4 := turn_at M (c0 + 7).toNat (2 * 1) i (by rw [turn_len]; omega) hq
          subst hus
          rw [h4]
          exact tyF_below h3 hU.out.bl
        obtain ⟨ka', kc', rfl, hkc, hkf⟩ := kidsF_of_owns (lo := w2.heap.size) (ks := us) hU.out.ow (by omega) (by omega) hkeep
        have hFu : TyF wr w2.heap.size (N + 1) (.agg #[.int .i64 7, .string ⟨#[]⟩, .slice none 0 0, .slice ka' us.length kc']) (mkT 7 [] [] us) := by
          refine ⟨7, ⟨#[]⟩, none, 0, ka', kc', [], us, ?_, rfl, by decide, by decide, by simp, ⟨Nat.le_refl _, by simp [reachBytes]⟩, ⟨hkc, by unfold reachBytes; omega⟩, .inl rfl, hkf⟩
          rfl
        have HUL := hideP hul
        clear hul
        have HFU := hideP hFu
        have HNU := hideP hnu
        have HBR : Hid (Below w3.heap.size w3 wr) := by
          have := hU.out.bl
          rw [HWO.out] at this
          exact below_next (below_next (bl_alloc _ _) (bl_alloc _ _)) this
        have HNX : Hid (wr.heap[w3.heap.size]? = some (tyO g1 g2 g3 g4 g5 g6 g7 g8)) := by
          have := hU.out.bl.block w3.heap.size (by omega)
          refine this.trans ?_
          rw [HWO.out]
          exact (Below.heap_alloc _ _ _ (by simp)).trans (heap_alloc_last w3 _)
        have HUX := hideP hU.out.hx
        have HC5 := hideP (rsize_c (N + 1) _ _ wr (ty_forget (tyF_at hFu)))
        clear hFu hnu hkeep hkf hct hU uf0 uf1 uf2 uf3 hus
        obtain ⟨S, hS⟩ : ∃ S, S = sizeT (N + 1) (mkT 7 [] [] us) := ⟨_, rfl⟩
        rw [← hS] at HC5
        have HS := hideP hS
        clear hS
        by_cases hs200 : 200 < S
        · have e1 : (200 : Int) < ((min S 201 : Nat) : Int) := by omega
          go_wp2_with fail
          refine HC5.out.mono ?_
          rintro e w5 ⟨rfl, hb5⟩
          have HB5 := hideP (below_next HB3.out (below_next HBR.out hb5))
          clear hb5
          go_wp2_with fail
          go_ret
          exact ⟨rfl, HB5.out⟩
        have e1 : ¬ (200 : Int) < ((min S 201 : Nat) : Int) := by omega
        go_wp2_with fail
        refine HC5.out.mono ?_
        rintro e w5 ⟨rfl, hb5⟩
        have HBR5 := hideP (below_next HBR.out hb5)
        have HNX5 := hideP ((hb5.block _ (lt_of_block HNX.out)).trans HNX.out)
        have HUX5 := hideP ((hb5.block _ (lt_of_block HUX.out)).trans HUX.out)
        have HFU5 := hideP (tyF_below HFU.out hb5)
        have HC6 := hideP (rheight_c (N + 1) _ _ w5 (ty_forget (tyF_at HFU5.out)))
        clear u0 u1 u2 u3 hb5
        obtain ⟨u0, u1, u2, u3⟩ := (res_facts HUX5.out).1
        rw [hsz4] at u0 u1 u2 u3
        have hl5 : w3.heap.size + 1 + 1 < w5.heap.size := by have := lt_of_block HUX5.out; omega
        obtain ⟨T, hT⟩ : ∃ T, T = heightT (N + 1) (mkT 7 [] [] us) := ⟨_, rfl⟩
        rw [← hT] at HC6
        have HTT := hideP hT
        clear hT
        by_cases ht16 : 16 < T
        · have e2 : (16 : Int) < ((min T 17 : Nat) : Int) := by omega
          go_wp2_with fail
          refine HC6.out.mono ?_
          rintro e w6 ⟨rfl, hb6⟩
          have HB6 := hideP (below_next HB3.out (below_next HBR5.out hb6))
          clear hb6
          go_wp2_with fail
          go_ret
          exact ⟨rfl, HB6.out⟩
        have e2 : ¬ (16 : Int) < ((min T 17 : Nat) : Int) := by omega
        go_wp2_with fail
        refine HC6.out.mono ?_
        rintro e w6 ⟨rfl, hb6⟩
        have HBR6 := hideP (below_next HBR5.out hb6)
        have HNX6 := hideP ((hb6.block _ (lt_of_block HNX5.out)).trans HNX5.out)
        have HUX6 := hideP ((hb6.block _ (lt_of_block HUX5.out)).trans HUX5.out)
        have HFU6 := hideP (tyF_below HFU5.out hb6)
        have HC7 := hideP (nm_c true (N + 1) _ _ w6 (tyF_at HFU6.out) (HW.out.below (below_next HB3.out HBR6.out)))
        clear u0 u1 u2 u3 hb6
        obtain ⟨u0, u1, u2, u3⟩ := (res_facts HUX6.out).1
        rw [hsz4] at u0 u1 u2 u3
        have hl6 : w3.heap.size + 1 + 1 < w6.heap.size := by have := lt_of_block HUX6.out; omega
        go_wp2_with fail
        refine HC7.out.mono ?_
        rintro e w7 ⟨hb7, hways⟩
        rcases hways with ⟨rfl, hn⟩ | ⟨E2, m1, m2, m3, m4, m5, m6, m7, m8, hn, _, rfl, hF7, _⟩
        · exact absurd ⟨by rw [← HS.out]; omega, by rw [← HTT.out]; omega, by rw [HNU.out]; rfl⟩ (hn rfl)
        have hE : E2 = E := by rw [HNU.out] at hn; injection hn with h; exact h.symm
        subst hE
        have hbm := bl_alloc w7 (tyO m1 m2 m3 m4 m5 m6 m7 m8)
        have HBR7 := hideP (below_next HBR6.out (below_next hb7 hbm))
        have HC8 := hideP (tsame_c (N + 1) _ _ _ _ _ (tyF_at (tyF_below hF7 hbm)) (ty_mono (tyF_at (tyF_below HF.out HBR7.out)) (Nat.le_succ N)))
        have hnx7 := (hb7.block _ (lt_of_block HNX6.out)).trans HNX6.out
        clear u0 u1 u2 u3
        obtain ⟨u0, u1, u2, u3⟩ := (res_facts hnx7).1
        have hl7 := lt_of_block hnx7
        clear hb7 hn hF7 hbm hnx7
        go_wp2_with fail
        refine HC8.out.mono ?_
        rintro e w8 ⟨⟨rr, rfl, hrr⟩, hb8⟩
        obtain rfl : rr = true := by simpa using hrr
        have HB8 := hideP (below_next HB3.out (below_next HBR7.out hb8))
        clear hb8 hrr
        go_wp2_with fail
        go_ret
        exact ⟨rfl, HB8.out⟩

theorem typesUnions_walk (N : Nat) (D : Ty) (k : Int) (nm : ByteArray) (na : Option Addr) (nl nc : Nat) (ka : Option Addr) (kl kc : Nat) (turn : Int) (w : World) (hw : Words w ∧ Plain w)
    (h : TyAt w false N (.agg #[.int .i64 k, .string nm, .slice na nl nc, .slice ka kl kc]) D) (ht : (Lit.int .i64 turn).wf = true) :
    Calls Tryd.prog 8 #[.agg #[.int .i64 k, .string nm, .slice na nl nc, .slice ka kl kc], .int .i64 turn] w fun e w' => e = .returned (.bool true) ∧ Below w.heap.size w w' :=
  typesUnions_run N D k nm na nl nc ka kl kc turn w hw.1 hw.2 h (int_wf ht)

set_option maxRecDepth 100000 in
theorem typesUnions_lifted (os : Os) (started : os.Started) (H : Type) (enc : TypeId × Value → H) :
    ReturnsInHanded {} Tryd.checked os 8 .any (fun w args => (Rows.typesUnionsSpec.pre enc Tryd.prog Tryd.f8 [] false w args ∧ laidMetH Tryd.prog laidL w) ∧ sizedMet enc Tryd.prog Tryd.f8 (OpenSpec.ofChange Rows.typesUnionsSpec) false w args)
      (Rows.typesUnionsSpec.post enc Tryd.prog Tryd.f8 false true false false) := by
  refine returnsInHanded_of_change_and (C := Tryd.checked) (X := fun w _ => laidMetH Tryd.prog laidL w) (fun _ _ _ hh h => h.of_heap hh) own started (by kernel_rfl) Tryd.func8
    (ChangeSpec.witness_shaped (enc := enc) (C := Tryd.checked) (os := os) (X := fun w _ => laidMetH Tryd.prog laidL w) false (World.doorLaid Tryd.prog 24 os) #[.agg #[.int .i64 0, .string ByteArray.empty, .slice none 0 0, .slice none 0 0], .int .i64 0] 8 rfl (World.shaped_of_RefB (by kernel_rfl) (by kernel_rfl)) (by kernel_rfl) (by kernel_rfl) (by kernel_rfl) (door_met os _)) ?_
  intro W base args ds gs before hval0 hW _ hsz0 hL _
  have htab := tab_of_laid hL
  have hval : ∀ (j : Nat) t v, Tryd.f8.params[j]? = some t → args[j]? = some v → Value.okWide Tryd.prog W .any base t v := hval0
  have hW' := hW
  obtain ⟨p, q, hA0, hV, rfl, hfz, hnd⟩ := hW
  have hA : DataW.TrodAll enc Tryd.prog W 0 (fun _ => true) true Tryd.f8.params.toList args.toList ds p := hA0
  have hsz : (DataW.weightsEach Tryd.prog (Tryd.f8.params.toList ++ Rows.typesUnionsSpec.plain.varTypes Tryd.prog) (ds ++ gs)).all (· ≤ reachBytes) = true := hsz0
  rw [Tryd.params8] at hA hval hsz
  obtain ⟨v0, vs0, d0, ds0, p0, q0, hargs, rfl, rfl, h0, r0⟩ := trodAll_cons hA
  obtain ⟨v1, vs1, d1, ds1, p1, q1, rfl, rfl, rfl, h1, r1⟩ := trodAll_cons r0
  obtain ⟨rfl, rfl, rfl⟩ := trodAll_nil r1
  obtain rfl : args = #[v0, v1] := by cases args; simp_all
  obtain ⟨rfl, rfl⟩ := trodVars_none hV
  obtain ⟨cs0, rfl, _⟩ := okWide_struct Tryd.underlying25 (hval 0 25 v0 rfl rfl)
  have k0 := h0
  have lt0 : ∀ x ∈ p0, x.block < W.heap.size := by obtain ⟨m, hm⟩ := k0; exact DataW.trod_lt m _ _ _ hm
  obtain ⟨N0, D0, T0⟩ : ∃ N D, TyAt W false N (.agg cs0) D := by
    obtain ⟨m, hm⟩ := k0
    obtain ⟨D, hD⟩ := ty_of_trod tyRow m hm (fun x hx => of_decide_eq_true (List.all_eq_true.1 hsz x (DataW.weights_mem_each (j := 0) (t := 25) rfl rfl x hx))) (fun b off hm => hfz b off (by simp [hm]))
    exact ⟨m, D, by simpa [Value.cells] using hD⟩
  obtain ⟨a0k, a0n, a0na, a0nl, a0nc, a0ka, a0kl, a0kc, e0, _⟩ := ty_form T0
  injection e0 with e0
  subst e0
  obtain ⟨a1, rfl, rfl, rfl, w1⟩ := open_int Tryd.underlying3 (hval 1 3 v1 rfl rfl) h1
  clear hA0 hval0
  refine (typesUnions_walk N0 D0 a0k a0n a0na a0nl a0nc a0ka a0kl a0kc a1 W htab T0 w1).mono fun e W' ⟨he, bel⟩ => ?_
  subst he
  exact ⟨_, rfl, _, _, _, [], _, [], hW', trodAll_mk1 (shut_bool Tryd.underlying4 _), (trodAll_cons_mk (Below.trod laidOut (by kernel_rfl) (of_decide_eq_true (by kernel_rfl)) k0 bel lt0) (trodAll_cons_mk (shut_int Tryd.underlying3 w1) trodAll_mk0)), rfl, bel.frame _, fun h => by cases h⟩

theorem typesUnions_over : Rows.TypesUnionsSaid :=
  OpenClaim.holds_of_wide 8 Tryd.f8 rfl rfl rfl rfl rfl rfl rfl ⟨rfl, rfl, rfl, rfl, rfl⟩ rfl rfl rfl rfl rfl (by kernel_rfl) Tryd.func8 (by kernel_rfl)
    (of_decide_eq_true (by kernel_rfl)) (by unfold Func.isWrapper; rw [if_neg (of_decide_eq_false (by kernel_rfl))]; exact ⟨rfl, rfl⟩)
    (fun os started H enc _ => typesUnions_lifted os started H enc)

theorem typesUnions_card : Rows.TypesUnionsCardSaid :=
  Claim7.holds_tied_plain_at .later [] [.data, .data] true Rows.typesUnionsCard.stood.harness false
    typesUnions_over (fun _ h => by cases h) (by kernel_rfl) (fun _ h => by cases h) typesUnions_row_tie rfl ⟨rfl, rfl⟩ (by kernel_rfl) (by kernel_rfl)
    (fun f fn hf hfn => by
      obtain rfl : f = 8 := Option.some.inj ((show Tryd.prog.funcNamed Rows.typesUnionsRow.func = some 8 by kernel_rfl).symm.trans hf) |>.symm
      obtain rfl : fn = Tryd.f8 := (Option.some.inj (Tryd.func8.symm.trans hfn)).symm
      exact ⟨by kernel_rfl, fun j t ht => by
        rw [Tryd.params8] at ht
        have hm : t ∈ [25, 3] := by simpa using Array.mem_of_getElem? ht
        have hall : ([25, 3].all fun u => !Tryd.prog.wantsStandIn u) = true := by kernel_rfl
        exact (show Tryd.prog.wantsStandIn t = false by simpa using List.all_eq_true.1 hall t hm)⟩)
    (by kernel_rfl)
end Go.Proofs.YtgjpmiebokhnoaaDoor
