/- Part. -/
import Derived.Test.YtgblonhfidoleaaDoorPart46
set_option maxRecDepth 100000
set_option maxHeartbeats 4000000
/- link.Link: the walk. -/
namespace Go.Proofs.YtgblonhfidoleaaDoor
open Go.Proofs.Tryd
open Go.RowKit Go.Maps
theorem link_c (a : Option Addr) (cap : Nat) (l : List Src) (w : World) (hw : Lx.Words w) (hs : SrcAt w.heap.size w a l) (hl : l.length <= 1000) (hz : ∀ p ∈ l, p.1.size <= 140737488351232 /\ p.2.size <= 140737488351232) :
    Calls prog 9 #[.slice a l.length cap] w (LinkP w (linkV (srcs l))) := by
  have hmm := @run_makeMap prog
  have hmf : ∀ (fn : Fn) (first cap : Array Value) (w : World), (Instr.makeFunc fn first cap).run prog w = .ok (.func fn first cap) w := fun _ _ _ _ => rfl
  have HW := hideP hw
  have HS := hideP hs
  have HZ := hideP hz
  obtain ⟨R, hR⟩ : ∃ R, R = linkV (srcs l) := ⟨_, rfl⟩
  rw [<- hR]
  have HR := hideP hR
  clear hw hs hz hR
  go_enter func9, ntmps9
  go_wp2_with fail
  simp only [Nat.add_assoc, Nat.reduceAdd]
  obtain ⟨q, hq⟩ : ∃ q, q = w.heap.size := ⟨_, rfl⟩
  rw [<- hq]
  obtain ⟨W0, hW0⟩ : ∃ W0, W0 = (((((w.alloc (.cells #[.slice a l.length cap] 22)).alloc z6).alloc (.map #[] 0)).alloc (p1O (q + 2) (.slice none 0 0) (.slice none 0 0) (.slice none 0 0) (.slice none 0 0))).alloc (.cells #[.pointer (some ⟨q + 3, 0, none⟩)] 54)).alloc (turnsO q) := ⟨_, rfl⟩
  rw [<- hW0]
  have e1 : (w.alloc (.cells #[.slice a l.length cap] 22)).heap.size = q + 1 := by rw [World.size_alloc, hq]
  have e2 : ((w.alloc (.cells #[.slice a l.length cap] 22)).alloc z6).heap.size = q + 2 := by rw [World.size_alloc, e1]
  have e3 : (((w.alloc (.cells #[.slice a l.length cap] 22)).alloc z6).alloc (.map #[] 0)).heap.size = q + 3 := by rw [World.size_alloc, e2]
  have e4 : ((((w.alloc (.cells #[.slice a l.length cap] 22)).alloc z6).alloc (.map #[] 0)).alloc (p1O (q + 2) (.slice none 0 0) (.slice none 0 0) (.slice none 0 0) (.slice none 0 0))).heap.size = q + 4 := by rw [World.size_alloc, e3]
  have e5 : (((((w.alloc (.cells #[.slice a l.length cap] 22)).alloc z6).alloc (.map #[] 0)).alloc (p1O (q + 2) (.slice none 0 0) (.slice none 0 0) (.slice none 0 0) (.slice none 0 0))).alloc (.cells #[.pointer (some ⟨q + 3, 0, none⟩)] 54)).heap.size = q + 5 := by rw [World.size_alloc, e4]
  have HA0 : Hid (Aux q a l.length cap w W0) := by
    have k1 := Below.heap_alloc w (.cells #[.slice a l.length cap] 22)
    have k2 := Below.heap_alloc (w.alloc (.cells #[.slice a l.length cap] 22)) z6
    have k3 := Below.heap_alloc ((w.alloc (.cells #[.slice a l.length cap] 22)).alloc z6) (.map #[] 0)
    have k4 := Below.heap_alloc (((w.alloc (.cells #[.slice a l.length cap] 22)).alloc z6).alloc (.map #[] 0)) (p1O (q + 2) (.slice none 0 0) (.slice none 0 0) (.slice none 0 0) (.slice none 0 0))
    have k5 := Below.heap_alloc ((((w.alloc (.cells #[.slice a l.length cap] 22)).alloc z6).alloc (.map #[] 0)).alloc (p1O (q + 2) (.slice none 0 0) (.slice none 0 0) (.slice none 0 0) (.slice none 0 0))) (.cells #[.pointer (some ⟨q + 3, 0, none⟩)] 54)
    have k6 := Below.heap_alloc (((((w.alloc (.cells #[.slice a l.length cap] 22)).alloc z6).alloc (.map #[] 0)).alloc (p1O (q + 2) (.slice none 0 0) (.slice none 0 0) (.slice none 0 0) (.slice none 0 0))).alloc (.cells #[.pointer (some ⟨q + 3, 0, none⟩)] 54)) (turnsO q)
    rw [hW0]
    refine ⟨?_, ?_, ?_, ?_, ?_⟩
    · rw [hq]
      exact below_next (below_next (below_next (below_next (below_next (bl_alloc _ _) (bl_alloc _ _)) (bl_alloc _ _)) (bl_alloc _ _)) (bl_alloc _ _)) (bl_alloc _ _)
    · rw [k6 _ (by omega), k5 _ (by omega), k4 _ (by omega), k3 _ (by omega), k2 _ (by omega), hq]
      exact heap_alloc_last _ _
    · rw [k6 _ (by omega), k5 _ (by omega), k4 _ (by omega), k3 _ (by omega), <- e1]
      exact heap_alloc_last _ _
    · rw [k6 _ (by omega), <- e4]
      exact heap_alloc_last _ _
    · rw [<- e5]
      exact heap_alloc_last _ _
  have HT0 : Hid (Turn q l 0 W0) := by
    refine .inl ⟨rfl, ?_⟩
    rw [hW0]
    refine ⟨?_, ?_, World.ownsRow_nil _ _ _ _, World.ownsRow_nil _ _ _ _, World.ownsRow_nil _ _ _ _, World.ownsRow_nil _ _ _ _, rfl, (fun _ h => nomatch h), (fun _ h => nomatch h), (fun _ h => nomatch h), (fun _ => rfl), by omega, by omega, ?_⟩
    · rw [Below.heap_alloc _ _ _ (by rw [e5]; omega), Below.heap_alloc _ _ _ (by rw [e4]; omega), <- e3]
      exact heap_alloc_last _ _
    · have h0 := num_made ((w.alloc (.cells #[.slice a l.length cap] 22)).alloc z6)
      rw [e2] at h0
      exact h0.block (by rw [Below.heap_alloc _ _ _ (by rw [e5]; omega), Below.heap_alloc _ _ _ (by rw [e4]; omega), Below.heap_alloc _ _ _ (by rw [e3]; omega)])
    · rw [World.size_alloc, e5]
      exact Nat.le_refl _
  have HQq := hideP hq
  clear e1 e2 e3 e4 e5 hW0 hq
  go_loopw [21] (fun i wr => ∃ k : Nat, i = .int .i64 k /\ k <= 4 /\ Hid (Turn q l k wr) /\ Hid (Aux q a l.length cap w wr)) (fun i _ => 4 - (intOf i).toNat)
  case atStart => exact ⟨0, rfl, by omega, HT0.out, HA0.out⟩
  case round =>
    obtain ⟨k, rfl, hk, HT, HA⟩ := hrel
    have HTT := HT.out
    have hq5 := HA.out.o5
    have g4 : wr.cell? ⟨q + 4, 0, none⟩ = some (.pointer (some ⟨q + 3, 0, none⟩)) := by have := HA.out.o4; simp [World.cell?, this]
    have g0 : wr.cell? ⟨q, 0, none⟩ = some (.slice a l.length cap) := by have := HA.out.o0; simp [World.cell?, this]
    have HWw : Hid (Lx.Words wr) := HW.out.below (HQq.out ▸ HA.out.bl)
    have HSw : Hid (SrcAt (q + 2) wr a l) := (HS.out.below (HQq.out ▸ HA.out.bl)).mono (by have := HQq.out; omega)
    rcases HTT with ⟨rfl, hp⟩ | ⟨r, hV, hds, ⟨rfl, hbx⟩ | ⟨vS, vs, hsc, hcd, ⟨rfl, hbx⟩ | ⟨hcy, ⟨rfl, hbx⟩ | ⟨m, i, rfl, hmn, hbx⟩⟩⟩⟩
    · have t0 : wr.cell? ⟨q + 5, 0, none⟩ = some (fn1 q) := by simp [World.cell?, hq5]
      have HP := hideP hp
      clear hp hq5 HT
      go_wp2_with fail
      refine (turn1_c (q + 6) (q + 3) (q + 2) (q + 4) q a cap l _ _ _ _ wr HP.out HWw.out (by omega) HSw.out hl HZ.out g4 g0).mono ?_
      rintro e w2 ⟨rfl, ⟨vN, vM, vF, vD, xs, fb, hp2, hf2⟩, hkp⟩
      have HA2 := hideP (HA.out.kp hkp)
      by_cases hds : (readAllV (srcs l)).ds = []
      · obtain ⟨hnm, h16, hnv⟩ := readAll_num hds
        obtain ⟨r, hV, hbx⟩ := vw_of hp2 hf2 hds (fun p hp => by rw [hnm]; exact hnv p hp) (by rw [hnm]; exact h16)
        have HTn : Hid (Turn q l 1 w2) := .inr ⟨r, hV, hds, .inl ⟨rfl, hbx⟩⟩
        obtain ⟨⟨_, _, _, _, _, _, _, _, f8⟩, _, hkw⟩ := box9 hbx
        have g4' : w2.cell? ⟨q + 4, 0, none⟩ = some (.pointer (some ⟨q + 3, 0, none⟩)) := by have := HA2.out.o4; simp [World.cell?, this]
        clear hp2 hf2 hkp hds hnm h16 hnv hV hbx g4 g0 t0
        go_wp2_with fail
        go_roundw
        case rel => exact ⟨1, by go_num, by omega, HTn.out, HA2.out⟩
        case measure => simp [intOf]
      · obtain ⟨aD, cD, rfl⟩ := row_shape hp2.rD
        have hn0 : 0 < (readAllV (srcs l)).ds.length := List.length_pos_iff.2 hds
        have HBX := hideP hp2.box
        have HROW := hideP (row_base hp2.rD (show q <= q + 6 by omega))
        have HRR : Hid (R = .inr (readAllV (srcs l)).ds) := by
          rw [HR.out]
          show linkV (srcs l) = _
          unfold linkV
          simp only
          rw [if_pos (by omega)]
        clear hp2 hf2 hkp hds g4 g0 t0
        obtain ⟨⟨_, _, _, _, _, _, _, _, f8⟩, _, hkw⟩ := box9 HBX.out
        have f8d : w2.drew.cell? ⟨q + 3, 8, none⟩ = some (.slice aD (readAllV (srcs l)).ds.length cD) := f8
        have g4 : w2.cell? ⟨q + 4, 0, none⟩ = some (.pointer (some ⟨q + 3, 0, none⟩)) := by have := HA2.out.o4; simp [World.cell?, this]
        have g4d : w2.drew.cell? ⟨q + 4, 0, none⟩ = some (.pointer (some ⟨q + 3, 0, none⟩)) := g4
        obtain ⟨⟨z0, z1, z2, z3, z4, z5⟩, hzf, hzl⟩ := box6l HA2.out.o1
        have z0d : w2.drew.cell? ⟨q + 1, 0, none⟩ = some (.slice none 0 0) := z0
        have zf0d : w2.drew.frozen? ⟨q + 1, 0, none⟩ = false := hzf 0
        have zf0 := hzf 0
        have zf1 := hzf 1
        have zf2 := hzf 2
        have zf3 := hzf 3
        have zf4 := hzf 4
        have zf5 := hzf 5
        have hnz : (0 : Int) < ((readAllV (srcs l)).ds.length : Int) := by omega
        clear hzf
        go_wp2_with fail
        obtain ⟨Wf, hWf⟩ : ∃ W, W = put6l w2 (q + 1) (.slice none 0 0) (.slice none 0 0) (.slice none 0 0) (.string ⟨#[]⟩) (.int .i64 0) (.int .i64 0) := ⟨_, rfl⟩
        have HO : Hid (Wf.heap[q + 1]? = some z6) := by rw [hWf]; exact put6_obj HA2.out.o1 _ _ _ _ _ _
        have HC : Hid (Chg (q + 1) (fun b => b = q + 1) w2 Wf) := by rw [hWf]; exact put6_chg _ _ _ _ _ _ _ _
        have HWf := hideP hWf
        clear hWf
        apply onceQ0 Wf.drew
        · go_region
          all_goals
            refine ⟨rfl, ?_⟩
            rw [HWf.out]
        · simp only [Exit.then]
          clear HWf z0 z1 z2 z3 z4 z5 zf0 zf1 zf2 zf3 zf4 zf5 z0d zf0d
          go_wp2_with fail
          refine bodyPost_ret (results_ct6 rfl _ rfl (show Wf.drew.heap[q + 1]? = some z6 from HO.out) underlying31 (by kernel_rfl) rfl) rfl ?_
          rw [HRR.out]
          refine ⟨?_, _, rfl, ?_⟩
          · rw [<- HQq.out]
            exact (HA2.out.bl.trans (HC.out.below.mono (by omega))).drew
          · rw [<- HQq.out]
            exact HC.out.drew.row HROW.out fun b hb e => by
              obtain ⟨c, hc⟩ := row_obj HROW.out hb
              rw [e, HA2.out.o1] at hc
              injection hc with hc
              injection hc with _ hc
              cases hc
    · have t1 : wr.cell? ⟨q + 5, 1, none⟩ = some (fnK 13 q) := by simp [World.cell?, hq5]
      have HVv := hideP hV
      have HB3 := hideP hbx
      have HDs := hideP hds
      have hlo := hV.lt3
      clear hq5 HT hV hbx hds g0 HWw HSw
      go_wp2_with fail
      refine (scopeAll_c (q + 6) (q + 3) (q + 2) _ r wr HVv.out HB3.out).mono ?_
      rintro e w2 ⟨rfl, vS, vD, vs, hQ3⟩
      have HA2 := hideP (HA.out.stay hQ3.st)
      obtain ⟨c, hc⟩ : ∃ c, c = scopesV (readAllV (srcs l)).num (readAllV (srcs l)).mods 0 (readAllV (srcs l)).mods [] [] := ⟨_, rfl⟩
      rw [<- hc] at hQ3
      have HCc := hideP hc
      clear hc
      by_cases hcd : c.2 = []
      · have hnl := hQ3.nil hcd
        subst hnl
        have HTn : Hid (Turn q l 2 w2) := by
          refine .inr ⟨r, HVv.out.stay hQ3.st, HDs.out, .inr ⟨vS, vs, ?_⟩⟩
          rw [<- HCc.out]
          exact ⟨scs_of hQ3 hlo, hcd, .inl ⟨rfl, hQ3.box⟩⟩
        obtain ⟨⟨_, _, _, _, _, _, _, _, f8⟩, _, hkw⟩ := box9 hQ3.box
        have g4' : w2.cell? ⟨q + 4, 0, none⟩ = some (.pointer (some ⟨q + 3, 0, none⟩)) := by have := HA2.out.o4; simp [World.cell?, this]
        clear hQ3 hcd g4 t1
        go_wp2_with fail
        go_roundw
        case rel => exact ⟨2, by go_num, by omega, HTn.out, HA2.out⟩
        case measure => simp [intOf]
      · obtain ⟨aD, cD, rfl⟩ := row_shape hQ3.rD
        have hn0 : 0 < c.2.length := List.length_pos_iff.2 hcd
        have HBX := hideP hQ3.box
        have HROW := hideP (row_base hQ3.rD (show q <= wr.heap.size by omega))
        have HRR : Hid (R = .inr c.2) := by
          rw [HR.out]
          show linkV (srcs l) = _
          unfold linkV
          simp only
          rw [if_neg (by rw [HDs.out]; simp), <- HCc.out, if_pos (by omega)]
        clear hQ3 hcd g4 t1
        obtain ⟨⟨_, _, _, _, _, _, _, _, f8⟩, _, hkw⟩ := box9 HBX.out
        have f8d : w2.drew.cell? ⟨q + 3, 8, none⟩ = some (.slice aD c.2.length cD) := f8
        have g4 : w2.cell? ⟨q + 4, 0, none⟩ = some (.pointer (some ⟨q + 3, 0, none⟩)) := by have := HA2.out.o4; simp [World.cell?, this]
        have g4d : w2.drew.cell? ⟨q + 4, 0, none⟩ = some (.pointer (some ⟨q + 3, 0, none⟩)) := g4
        obtain ⟨⟨z0, z1, z2, z3, z4, z5⟩, hzf, hzl⟩ := box6l HA2.out.o1
        have z0d : w2.drew.cell? ⟨q + 1, 0, none⟩ = some (.slice none 0 0) := z0
        have zf0d : w2.drew.frozen? ⟨q + 1, 0, none⟩ = false := hzf 0
        have zf0 := hzf 0
        have zf1 := hzf 1
        have zf2 := hzf 2
        have zf3 := hzf 3
        have zf4 := hzf 4
        have zf5 := hzf 5
        have hnz : (0 : Int) < (c.2.length : Int) := by omega
        clear hzf
        go_wp2_with fail
        obtain ⟨Wf, hWf⟩ : ∃ W, W = put6l w2 (q + 1) (.slice none 0 0) (.slice none 0 0) (.slice none 0 0) (.string ⟨#[]⟩) (.int .i64 0) (.int .i64 0) := ⟨_, rfl⟩
        have HO : Hid (Wf.heap[q + 1]? = some z6) := by rw [hWf]; exact put6_obj HA2.out.o1 _ _ _ _ _ _
        have HC : Hid (Chg (q + 1) (fun b => b = q + 1) w2 Wf) := by rw [hWf]; exact put6_chg _ _ _ _ _ _ _ _
        have HWf := hideP hWf
        clear hWf
        apply onceQ0 Wf.drew
        · go_region
          all_goals
            refine ⟨rfl, ?_⟩
            rw [HWf.out]
        · simp only [Exit.then]
          clear HWf z0 z1 z2 z3 z4 z5 zf0 zf1 zf2 zf3 zf4 zf5 z0d zf0d
          go_wp2_with fail
          refine bodyPost_ret (results_ct6 rfl _ rfl (show Wf.drew.heap[q + 1]? = some z6 from HO.out) underlying31 (by kernel_rfl) rfl) rfl ?_
          rw [HRR.out]
          refine ⟨?_, _, rfl, ?_⟩
          · rw [<- HQq.out]
            exact (HA2.out.bl.trans (HC.out.below.mono (by omega))).drew
          · rw [<- HQq.out]
            exact HC.out.drew.row HROW.out fun b hb e => by
              obtain ⟨c, hc⟩ := row_obj HROW.out hb
              rw [e, HA2.out.o1] at hc
              injection hc with hc
              injection hc with _ hc
              cases hc
    · have t2 : wr.cell? ⟨q + 5, 2, none⟩ = some (fnK 14 q) := by simp [World.cell?, hq5]
      have HVv := hideP hV
      have HB3 := hideP hbx
      have HDs := hideP hds
      have HSc := hideP hsc
      have HCd := hideP hcd
      have hlo := hV.lt3
      clear hq5 HT hV hbx hds hsc hcd g0 HWw HSw
      go_wp2_with fail
      refine (cycles_c (q + 6) (q + 3) (q + 2) _ r wr vS _ _ _ HVv.out HB3.out).mono ?_
      rintro e w2 ⟨rfl, vD, hQ4⟩
      have HA2 := hideP (HA.out.stay hQ4.st)
      obtain ⟨c, hc⟩ : ∃ c, c = cyclesV (readAllV (srcs l)).num (reachV (directsV (readAllV (srcs l)).num (readAllV (srcs l)).mods)) 0 (readAllV (srcs l)).mods [] := ⟨_, rfl⟩
      rw [<- hc] at hQ4
      have HCc := hideP hc
      clear hc
      by_cases hcd : c = []
      · have hnl := hQ4.nil hcd
        subst hnl
        have HTn : Hid (Turn q l 3 w2) := by
          refine .inr ⟨r, HVv.out.stay hQ4.st, HDs.out, .inr ⟨vS, vs, HSc.out.stay hQ4.st (by omega), HCd.out, .inr ⟨?_, .inl ⟨rfl, hQ4.box⟩⟩⟩⟩
          rw [<- HCc.out]
          exact hcd
        obtain ⟨⟨_, _, _, _, _, _, _, _, f8⟩, _, hkw⟩ := box9 hQ4.box
        have g4' : w2.cell? ⟨q + 4, 0, none⟩ = some (.pointer (some ⟨q + 3, 0, none⟩)) := by have := HA2.out.o4; simp [World.cell?, this]
        clear hQ4 hcd g4 t2
        go_wp2_with fail
        go_roundw
        case rel => exact ⟨3, by go_num, by omega, HTn.out, HA2.out⟩
        case measure => simp [intOf]
      · obtain ⟨aD, cD, rfl⟩ := row_shape hQ4.rD
        have hn0 : 0 < c.length := List.length_pos_iff.2 hcd
        have HBX := hideP hQ4.box
        have HROW := hideP (row_base hQ4.rD (show q <= wr.heap.size by omega))
        have HRR : Hid (R = .inr c) := by
          rw [HR.out]
          show linkV (srcs l) = _
          unfold linkV
          simp only
          rw [if_neg (by rw [HDs.out]; simp), if_neg (by rw [HCd.out]; simp), <- HCc.out, if_pos (by omega)]
        clear hQ4 hcd g4 t2
        obtain ⟨⟨_, _, _, _, _, _, _, _, f8⟩, _, hkw⟩ := box9 HBX.out
        have f8d : w2.drew.cell? ⟨q + 3, 8, none⟩ = some (.slice aD c.length cD) := f8
        have g4 : w2.cell? ⟨q + 4, 0, none⟩ = some (.pointer (some ⟨q + 3, 0, none⟩)) := by have := HA2.out.o4; simp [World.cell?, this]
        have g4d : w2.drew.cell? ⟨q + 4, 0, none⟩ = some (.pointer (some ⟨q + 3, 0, none⟩)) := g4
        obtain ⟨⟨z0, z1, z2, z3, z4, z5⟩, hzf, hzl⟩ := box6l HA2.out.o1
        have z0d : w2.drew.cell? ⟨q + 1, 0, none⟩ = some (.slice none 0 0) := z0
        have zf0d : w2.drew.frozen? ⟨q + 1, 0, none⟩ = false := hzf 0
        have zf0 := hzf 0
        have zf1 := hzf 1
        have zf2 := hzf 2
        have zf3 := hzf 3
        have zf4 := hzf 4
        have zf5 := hzf 5
        have hnz : (0 : Int) < (c.length : Int) := by omega
        clear hzf
        go_wp2_with fail
        obtain ⟨Wf, hWf⟩ : ∃ W, W = put6l w2 (q + 1) (.slice none 0 0) (.slice none 0 0) (.slice none 0 0) (.string ⟨#[]⟩) (.int .i64 0) (.int .i64 0) := ⟨_, rfl⟩
        have HO : Hid (Wf.heap[q + 1]? = some z6) := by rw [hWf]; exact put6_obj HA2.out.o1 _ _ _ _ _ _
        have HC : Hid (Chg (q + 1) (fun b => b = q + 1) w2 Wf) := by rw [hWf]; exact put6_chg _ _ _ _ _ _ _ _
        have HWf := hideP hWf
        clear hWf
        apply onceQ0 Wf.drew
        · go_region
          all_goals
            refine ⟨rfl, ?_⟩
            rw [HWf.out]
        · simp only [Exit.then]
          clear HWf z0 z1 z2 z3 z4 z5 zf0 zf1 zf2 zf3 zf4 zf5 z0d zf0d
          go_wp2_with fail
          refine bodyPost_ret (results_ct6 rfl _ rfl (show Wf.drew.heap[q + 1]? = some z6 from HO.out) underlying31 (by kernel_rfl) rfl) rfl ?_
          rw [HRR.out]
          refine ⟨?_, _, rfl, ?_⟩
          · rw [<- HQq.out]
            exact (HA2.out.bl.trans (HC.out.below.mono (by omega))).drew
          · rw [<- HQq.out]
            exact HC.out.drew.row HROW.out fun b hb e => by
              obtain ⟨c, hc⟩ := row_obj HROW.out hb
              rw [e, HA2.out.o1] at hc
              injection hc with hc
              injection hc with _ hc
              cases hc
    · have t3 : wr.cell? ⟨q + 5, 3, none⟩ = some (fnK 15 q) := by simp [World.cell?, hq5]
      have HVv := hideP hV
      have HB3 := hideP hbx
      have HDs := hideP hds
      have HSc := hideP hsc
      have HCd := hideP hcd
      have HCy := hideP hcy
      have hlo := hV.lt3
      clear hq5 HT hV hbx hds hsc hcd hcy g0 HWw HSw
      go_wp2_with fail
      refine (main_c (q + 6) (q + 3) (q + 2) _ r wr vS HVv.out HB3.out).mono ?_
      rintro e w2 ⟨rfl, hM⟩
      cases hmn : mainV (readAllV (srcs l)).num (readAllV (srcs l)).mods with
      | inl p =>
        obtain ⟨m, i⟩ := p
        rw [hmn] at hM
        obtain ⟨hbx, hst⟩ := hM
        have HA2 := hideP (HA.out.stay hst)
        have HTn : Hid (Turn q l 4 w2) := .inr ⟨r, HVv.out.stay hst, HDs.out, .inr ⟨vS, vs, HSc.out.stay hst (by omega), HCd.out, .inr ⟨HCy.out, .inr ⟨m, i, rfl, hmn, hbx⟩⟩⟩⟩
        obtain ⟨⟨_, _, _, _, _, _, _, _, f8⟩, _, hkw⟩ := box9 hbx
        have g4' : w2.cell? ⟨q + 4, 0, none⟩ = some (.pointer (some ⟨q + 3, 0, none⟩)) := by have := HA2.out.o4; simp [World.cell?, this]
        clear hbx hst hmn g4 t3
        go_wp2_with fail
        go_roundw
        case rel => exact ⟨4, by go_num, by omega, HTn.out, HA2.out⟩
        case measure => simp [intOf]
      | inr d =>
        rw [hmn] at hM
        obtain ⟨vD, hQ4⟩ := hM
        have HA2 := hideP (HA.out.stay hQ4.st)
        obtain ⟨c, hc⟩ : ∃ c, c = [d] := ⟨_, rfl⟩
        have hn0 : 0 < c.length := by rw [hc]; simp
        rw [<- hc] at hQ4
        obtain ⟨aD, cD, rfl⟩ := row_shape hQ4.rD
        have HBX := hideP hQ4.box
        have HROW := hideP (row_base hQ4.rD (show q <= wr.heap.size by omega))
        have HRR : Hid (R = .inr c) := by
          rw [HR.out]
          show linkV (srcs l) = _
          unfold linkV
          simp only
          rw [if_neg (by rw [HDs.out]; simp), if_neg (by rw [HCd.out]; simp), if_neg (by rw [HCy.out]; simp), hmn, hc]
        clear hQ4 hmn hc g4 t3
        obtain ⟨⟨_, _, _, _, _, _, _, _, f8⟩, _, hkw⟩ := box9 HBX.out
        have f8d : w2.drew.cell? ⟨q + 3, 8, none⟩ = some (.slice aD c.length cD) := f8
        have g4 : w2.cell? ⟨q + 4, 0, none⟩ = some (.pointer (some ⟨q + 3, 0, none⟩)) := by have := HA2.out.o4; simp [World.cell?, this]
        have g4d : w2.drew.cell? ⟨q + 4, 0, none⟩ = some (.pointer (some ⟨q + 3, 0, none⟩)) := g4
        obtain ⟨⟨z0, z1, z2, z3, z4, z5⟩, hzf, hzl⟩ := box6l HA2.out.o1
        have z0d : w2.drew.cell? ⟨q + 1, 0, none⟩ = some (.slice none 0 0) := z0
        have zf0d : w2.drew.frozen? ⟨q + 1, 0, none⟩ = false := hzf 0
        have zf0 := hzf 0
        have zf1 := hzf 1
        have zf2 := hzf 2
        have zf3 := hzf 3
        have zf4 := hzf 4
        have zf5 := hzf 5
        have hnz : (0 : Int) < (c.length : Int) := by omega
        clear hzf
        go_wp2_with fail
        obtain ⟨Wf, hWf⟩ : ∃ W, W = put6l w2 (q + 1) (.slice none 0 0) (.slice none 0 0) (.slice none 0 0) (.string ⟨#[]⟩) (.int .i64 0) (.int .i64 0) := ⟨_, rfl⟩
        have HO : Hid (Wf.heap[q + 1]? = some z6) := by rw [hWf]; exact put6_obj HA2.out.o1 _ _ _ _ _ _
        have HC : Hid (Chg (q + 1) (fun b => b = q + 1) w2 Wf) := by rw [hWf]; exact put6_chg _ _ _ _ _ _ _ _
        have HWf := hideP hWf
        clear hWf
        apply onceQ0 Wf.drew
        · go_region
          all_goals
            refine ⟨rfl, ?_⟩
            rw [HWf.out]
        · simp only [Exit.then]
          clear HWf z0 z1 z2 z3 z4 z5 zf0 zf1 zf2 zf3 zf4 zf5 z0d zf0d
          go_wp2_with fail
          refine bodyPost_ret (results_ct6 rfl _ rfl (show Wf.drew.heap[q + 1]? = some z6 from HO.out) underlying31 (by kernel_rfl) rfl) rfl ?_
          rw [HRR.out]
          refine ⟨?_, _, rfl, ?_⟩
          · rw [<- HQq.out]
            exact (HA2.out.bl.trans (HC.out.below.mono (by omega))).drew
          · rw [<- HQq.out]
            exact HC.out.drew.row HROW.out fun b hb e => by
              obtain ⟨c, hc⟩ := row_obj HROW.out hb
              rw [e, HA2.out.o1] at hc
              injection hc with hc
              injection hc with _ hc
              cases hc
    · have HVv := hideP hV
      obtain ⟨aS, cS, rfl⟩ := row_shape hsc.rS
      have HB3 := hideP hbx
      have HSc := hideP hsc
      obtain ⟨⟨x0, x1, x2, x3, x4, x5, _⟩, _, hkw⟩ := box9 hbx
      obtain ⟨⟨z0, z1, z2, z3, z4, z5⟩, hzf, hzl⟩ := box6l HA.out.o1
      have zf0 := hzf 0
      have zf1 := hzf 1
      have zf2 := hzf 2
      have zf3 := hzf 3
      have zf4 := hzf 4
      have zf5 := hzf 5
      obtain ⟨c, hc⟩ : ∃ c, c = (scopesV (readAllV (srcs l)).num (readAllV (srcs l)).mods 0 (readAllV (srcs l)).mods [] []).1 := ⟨_, rfl⟩
      have HRR : Hid (R = .inl ⟨(readAllV (srcs l)).names, (readAllV (srcs l)).mods, c, (m, i)⟩) := by
        rw [HR.out]
        show linkV (srcs l) = _
        unfold linkV
        simp only
        rw [if_neg (by rw [hds]; simp), if_neg (by rw [hcd]; simp), if_neg (by rw [hcy]; simp), hmn, hc]
      rw [<- hc] at HSc HB3 x2
      obtain ⟨Wf, hWf⟩ : ∃ W, W = put6l wr (q + 1) (.slice r.aN (readAllV (srcs l)).names.length r.cN) (.slice r.aM (readAllV (srcs l)).mods.length r.cM) (.slice aS c.length cS) (.string mainS) (.int .i64 m) (.int .i64 i) := ⟨_, rfl⟩
      have HO : Hid (Wf.heap[q + 1]? = some (obj6 (.slice r.aN (readAllV (srcs l)).names.length r.cN) (.slice r.aM (readAllV (srcs l)).mods.length r.cM) (.slice aS c.length cS) (.string mainS) (.int .i64 m) (.int .i64 i))) := by rw [hWf]; exact put6_obj HA.out.o1 _ _ _ _ _ _
      have HC : Hid (Chg (q + 1) (fun b => b = q + 1) wr Wf) := by rw [hWf]; exact put6_chg _ _ _ _ _ _ _ _
      have HWf := hideP hWf
      clear hq5 HT hV hbx hds hsc hcd hcy hmn hc hWf g0 HWw HSw hzf
      go_wp2_with fail
      have hw' := HWf.out
      unfold put6l at hw'
      rw [<- hw']
      clear hw'
      refine bodyPost_ret (results_ct6 rfl _ rfl HO.out underlying31 (by kernel_rfl) rfl) rfl ?_
      rw [HRR.out]
      have hk : ∀ b, q + 6 <= b -> b < wr.heap.size -> Wf.heap[b]? = wr.heap[b]? := fun b hb hl => HC.out.keep b hl (by omega)
      refine ⟨?_, r, aS, cS, vs, rfl, ?_⟩
      · rw [<- HQq.out]
        exact HA.out.bl.trans (HC.out.below.mono (by omega))
      · rw [<- HQq.out]
        refine ⟨rowQ_lower strS_k (rowQ_keep strS_k HVv.out.rN HC.out.size hk) (by omega), rowQ_lower modS_k (rowQ_keep modS_k HVv.out.rM HC.out.size hk) (by omega), row_base (HC.out.row HSc.out.rS fun b hb e => ?_) (by omega), fun j h1 h2 => row_base (HC.out.row (HSc.out.rE j h1 h2) fun b hb e => ?_) (by omega), HVv.out.good, HVv.out.ml⟩
        · have := (HSc.out.rS.lt b hb).1
          omega
        · have := ((HSc.out.rE j h1 h2).lt b hb).1
          omega
end Go.Proofs.YtgblonhfidoleaaDoor
