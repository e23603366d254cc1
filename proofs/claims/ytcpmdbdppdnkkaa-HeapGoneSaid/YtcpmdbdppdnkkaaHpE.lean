/- The reference's Collect: the walk. -/
import Derived.Test.YtcpmdbdppdnkkaaHpD
namespace Go.Proofs.Ytcpmdbdppdnkkaa
open Go.RowKit

theorem info_bool : (Try.prog.info? 4).map (fun i => (i.zero, i.size, i.bytes)) = some (some (.bool false), 1, 1) := by kernel_rfl
theorem mark_still {l : List SlotV} {m : List Bool} {i : Nat} (h : m.getD i false = true) (k : Nat) : (markV (l.take k) m).getD i false = true := (mark_SB (l.take k) m i).2 (.inl h)
set_option maxRecDepth 100000 in
set_option maxHeartbeats 8000000 in
theorem rcollect_c (B r : Nat) (F FA : Nat → Prop) (cells : Int) (L : Wd) (v : Value) (roots : List Int) (w : World) (h : WorldT B F w r cells L) (hcl : ClosedL L) (hv : IntV FA w v roots) (hFA : ∀ b, FA b → ¬ F b) (hok : ∀ q ∈ roots, -9223372036854775808 ≤ q ∧ q ≤ 9223372036854775807) (hL : L.length ≤ 1000000) (ht : usedL L ≤ 1000000000000) (hrl : (roots.length : Int) ≤ 9223372036854775807) (hll : ∀ o ∈ L, (o.1.length : Int) ≤ 1000000000000) :
    Calls Try.prog 13 #[.pointer (some ⟨r, 0, none⟩), v] w fun e w' => e = .returned (.int .i64 (freedTo L (endV L roots) L.length)) ∧ TrW (fun F w L => WorldT B F w r cells L) F w (sweepTo L (endV L roots) L.length) w' := by
  obtain ⟨ME, hME⟩ : ∃ M, M = endV L roots := ⟨_, rfl⟩
  have hMEl : ME.length = L.length := by rw [hME, end_len]
  rw [← hME]
  obtain ⟨R, hR⟩ : ∃ R, R = freedTo L ME L.length := ⟨_, rfl⟩
  rw [← hR]
  have HR := hideP hR
  have HMEe := hideP hME
  clear hR hME
  have H := hideP h
  have HV := hideP hv
  have HFA := hideP hFA
  have HOK := hideP hok
  have HCL := hideP hcl
  obtain ⟨ao, c, rfl, _⟩ := hv.form
  obtain ⟨a0, cap, ⟨_, x1⟩, hk0⟩ := h.look
  have HK0 := hideP hk0
  have HX1 := hideP x1
  obtain ⟨i0, hi, hz0, hz1, hz2⟩ := info_parts info_bool
  have hmz : ((L.length : Int) ≤ 9223372036854775807) := by omega
  have HWx : Hid (∀ S W, Ch S w W → (∀ b, F b → ¬ S b) → WorldT B F W r cells L) := fun S W hc hs => H.out.ch hc hs
  have HVx : Hid (∀ S W, Ch S w W → (∀ b, b < w.heap.size → ¬ S b) → IntV FA W (.slice ao roots.length c) roots) := fun S W hc hs => HV.out.ch hc fun b _ hb => hs b hb
  clear h hv hFA hok hcl hk0
  go_enter Try.func13, Try.ntmps13
  go_wp2_with (at_make; refine wpList_make_full _ rfl (.tmp 17) (.tmp 17) 62 rfl w.heap.size 4 i0 (.bool false) 1 Try.underlying62 hi hz0 hz1 .i64 .i64 _ _ L.length rfl rfl rfl rfl (by rw [hz2]; omega) (by unfold maxLen; omega) (Nat.le_refl _) ?_)
  intro w1 hown hgrow
  obtain ⟨mb, hmb⟩ : ∃ mb, mb = w.heap.size := ⟨_, rfl⟩
  have HC1 : Hid (Ch noB w w1) := (Ch.refl _ w).grown hgrow fun q hq => by cases hq
  have HM1 : Hid (BitV w1 mb (List.replicate L.length false)) := by
    rw [toList_madeCells_one] at hown
    rcases hown.2 with ⟨e, _⟩ | ⟨g, cap', cur, e, hg, hh, _⟩
    · injection e with e; cases e
    · injection e with e1 e2 e3
      injection e1 with e1
      injection e1 with e1 _ _
      subst e1
      refine ⟨cur, by rw [hmb]; exact hh, fun k hk => ?_⟩
      have hk' : k < L.length := by simpa using hk
      have hc := hown.cellAt k (by omega)
      rw [cell_of_row _ _ k _ _ _ hh, List.getElem?_replicate, if_pos (by omega)] at hc
      rw [List.getElem_replicate]
      exact hc
  rw [← hmb]
  have HMB := hideP hmb
  clear hown hgrow hmb x1
  have HUp : Hid (∀ W, Ch (fun b => b = mb) w W → ∀ a u, w.cell? a = some u → W.cell? a = some u) := fun W hW a u hu => hW.cell hu fun e => by have := World.block_lt_of_cell? w a hu; have := HMB.out; omega
  have HFm : Hid (∀ b, F b → ¬ (b = mb)) := fun b hb e => by have := (H.out.lt b hb).2; have := HMB.out; omega
  obtain ⟨M0, hM0⟩ : ∃ M, M = List.replicate L.length false := ⟨_, rfl⟩
  rw [← hM0] at HM1
  have HM0 := hideP hM0
  have hM0l : M0.length = L.length := by rw [hM0, List.length_replicate]
  clear hM0
  -- the roots
  go_wp2_with fail
  go_loopw [6] (fun i wx => ∃ j : Nat, i = .int .i64 j ∧ j ≤ roots.length ∧ Hid (Ch (fun b => b = mb) w wx ∧ BitV wx mb (rootsV L (roots.take j) M0))) (fun i _ => roots.length - (intOf i).toNat)
  case atStart => exact ⟨0, rfl, Nat.zero_le _, HC1.out.mono fun _ _ h => h.elim, HM1.out⟩
  case round =>
    clear HC1 HM1
    obtain ⟨j, rfl, hj, HI⟩ := hrel
    by_cases hlt : j < roots.length
    · have hjl : (j : Int) < (roots.length : Int) := by omega
      have hj0 : (0 : Int) ≤ (j : Int) := by omega
      obtain ⟨ao', c', e, hk⟩ := (HVx.out _ wr HI.out.1 fun b hb e => by have := HMB.out; omega).form
      injection e with e1 _ e2
      subst e1 e2
      obtain ⟨b, o, rfl, _, _, hcell⟩ := hk j hlt
      obtain ⟨q, hq⟩ : ∃ q, q = roots[j] := ⟨_, rfl⟩
      have hqb := HOK.out _ (List.getElem_mem hlt)
      have hts : rootsV L (roots.take (j + 1)) M0 = if isB L q = true then (rootsV L (roots.take j) M0).set q.toNat true else rootsV L (roots.take j) M0 := by rw [List.take_succ_eq_append_getElem hlt, roots_snoc, hq]
      rw [← hq] at hcell hqb
      have HC := hideP (is_c B r F cells L q wr (HWx.out _ wr HI.out.1 HFm.out) hqb.2)
      cases hib : isB L q with
      | true =>
        rw [hib] at HC hts
        rw [if_pos rfl] at hts
        have hql := isL_lt (isB_iff.1 hib)
        obtain ⟨qn, rfl⟩ := Int.eq_ofNat_of_zero_le hql.1
        rw [Int.toNat_natCast] at hts
        have hqn0 : (0 : Int) ≤ (qn : Int) := by omega
        have hqn : (qn : Int) < (L.length : Int) := hql.2
        have hqm : qn < (rootsV L (roots.take j) M0).length := by rw [roots_len]; omega
        obtain ⟨d0, d1⟩ := HI.out.2.at hqm
        have hml := HI.out.2.lt
        have HT := hideP hts
        clear hts hib hq hk hql
        go_wp2_with fail
        refine HC.out.mono ?_
        rintro e w4 ⟨rfl, rfl⟩
        go_wp2_with fail
        exact ⟨⟨j + 1, by go_num, by omega, HI.out.1.set (fun _ => rfl) _ _, by rw [HT.out]; exact HI.out.2.put hqm⟩, by simp [intOf]; omega⟩
      | false =>
        rw [hib] at HC hts
        rw [if_neg (by decide)] at hts
        have HT := hideP hts
        clear hts hib hq hk
        go_wp2_with fail
        refine HC.out.mono ?_
        rintro e w4 ⟨rfl, rfl⟩
        go_wp2_with fail
        exact ⟨⟨j + 1, by go_num, by omega, HI.out.1, by rw [HT.out]; exact HI.out.2⟩, by simp [intOf]; omega⟩
    · have hjl : ¬ (j : Int) < (roots.length : Int) := by omega
      obtain ⟨w2, hw2⟩ : ∃ w2, w2 = wr := ⟨_, rfl⟩
      rw [← hw2] at HI ⊢
      clear hw2
      obtain ⟨M1, hM1⟩ : ∃ M, M = rootsV L roots M0 := ⟨_, rfl⟩
      have HI2 : Hid (Ch (fun b => b = mb) w w2 ∧ BitV w2 mb M1) := by
        have := HI.out
        rw [List.take_of_length_le (by omega), ← hM1] at this
        exact this
      have hM1l : M1.length = L.length := by rw [hM1, roots_len, hM0l]
      have HMl : Hid (∀ p k, SB (passN L M1 p) k → isL L (k : Int)) := by rw [hM1, HM0.out]; exact fun p k h => passN_in (closed_live HCL.out) roots_live p k h
      have HE : Hid (ME = passN L M1 L.length) := by rw [HMEe.out, hM1, HM0.out]; exact rfl
      clear HI hM1
      go_wp2_with fail
      -- the passes
      go_loopw [8] (fun i wx => ∃ p : Nat, i = .int .i64 p ∧ p ≤ L.length ∧ Hid (Ch (fun b => b = mb) w wx ∧ BitV wx mb (passN L M1 p))) (fun i _ => L.length - (intOf i).toNat)
      case atStart => exact ⟨0, rfl, Nat.zero_le _, HI2.out⟩
      case round =>
        clear HI2
        obtain ⟨p, rfl, hp, HP⟩ := hrel
        have r1 := HUp.out wr HP.out.1 _ _ HX1.out
        by_cases hpl : p < L.length
        · have hpl' : (p : Int) < (L.length : Int) := by omega
          obtain ⟨w3, hw3⟩ : ∃ w3, w3 = wr := ⟨_, rfl⟩
          rw [← hw3] at HP r1 ⊢
          clear hw3
          obtain ⟨M2, hM2⟩ : ∃ M, M = passN L M1 p := ⟨_, rfl⟩
          rw [← hM2] at HP
          have hM2l : M2.length = L.length := by rw [hM2, passN_len, hM1l]
          have HM2 : Hid (passN L M1 (p + 1) = passTo L M2 L.length) := by rw [hM2]; exact rfl
          have HM2l : Hid (∀ j k, SB (passTo L M2 j) k → isL L (k : Int)) := by
            rw [hM2]
            exact fun j k h => pass_in (closed_live HCL.out) (fun k h => HMl.out p k h) j k h
          clear hM2
          go_wp2_with fail
          go_loopw [9] (fun i wx => ∃ j : Nat, i = .int .i64 j ∧ j ≤ L.length ∧ Hid (Ch (fun b => b = mb) w wx ∧ BitV wx mb (passTo L M2 j))) (fun i _ => L.length - (intOf i).toNat)
          case atStart => exact ⟨0, rfl, Nat.zero_le _, HP.out⟩
          case round =>
            clear HP r1
            obtain ⟨j, rfl, hj, HJ⟩ := hrel
            have r2 := HUp.out wr HJ.out.1 _ _ HX1.out
            by_cases hjl : j < L.length
            · have hjl' : (j : Int) < (L.length : Int) := by omega
              have hj0 : (0 : Int) ≤ (j : Int) := by omega
              obtain ⟨w4, hw4⟩ : ∃ w4, w4 = wr := ⟨_, rfl⟩
              rw [← hw4] at HJ r2 ⊢
              clear hw4
              obtain ⟨M3, hM3⟩ : ∃ M, M = passTo L M2 j := ⟨_, rfl⟩
              rw [← hM3] at HJ
              have hM3l : M3.length = L.length := by rw [hM3, pass_len, hM2l]
              have hobj : passTo L M2 (j + 1) = objV L M3 j := by rw [pass_snoc, ← hM3]
              have hM3v : ∀ k, SB M3 k → isL L (k : Int) := by rw [hM3]; exact HM2l.out j
              obtain ⟨q, ao2, c2, rfl, _, k0, _, _, _, ks⟩ := HK0.out j hjl
              have hsl : (L.getD j ([], true)).1 = (L[j]).1 := by rw [getD_at hjl]
              have hssl := hll _ (List.getElem_mem hjl)
              have hrng : SB M3 j → ∀ s ∈ (L[j]).1, s.ref = true → isL L s.n := fun hs s hm hr => by
                obtain ⟨_, o, e1, e2⟩ := hM3v j hs
                rw [Int.toNat_natCast, List.getElem?_eq_getElem hjl] at e1
                injection e1 with e1
                exact HCL.out j (L[j]).1 (by rw [List.getElem?_eq_getElem hjl, e1]; exact congrArg some (Prod.ext rfl e2)) s hm hr
              obtain ⟨ss, hss⟩ : ∃ ss, ss = (L[j]).1 := ⟨_, rfl⟩
              have KS : Hid (∀ i (_ : i < ss.length), ∃ b o, ao2 = some ⟨b, o, none⟩ ∧ w.cell? ⟨b, o + i * 2, none⟩ = some (.bool ss[i].ref) ∧ w.cell? ⟨b, o + i * 2 + 1, none⟩ = some (.int .i64 ss[i].n)) := by rw [hss]; exact ks
              have HRng : Hid (SB M3 j → ∀ s ∈ ss, s.ref = true → isL L s.n) := by rw [hss]; exact hrng
              have HO : Hid (passTo L M2 (j + 1) = if M3.getD j false = true then markV ss M3 else M3) := by
                rw [hobj]
                unfold objV
                rw [hsl, hss]
                exact rfl
              have K0 : Hid (w.cell? ⟨q, j * 2, none⟩ = some (.slice ao2 ss.length c2)) := by rw [hss]; exact k0
              rw [← hss] at hssl
              clear hM3 hss k0 ks hsl hrng hobj hM3v
              cases hmk : M3.getD j false with
              | false =>
                rw [hmk, if_neg (by decide)] at HO
                have t2 := HUp.out w4 HJ.out.1 _ _ K0.out
                obtain ⟨d0, d1⟩ := HJ.out.2.at (k := j) (by omega)
                rw [hmk] at d0
                have hml := HJ.out.2.lt
                clear hmk
                go_wp2_with fail
                go_loopw [10] (fun i wx => i = .int .i64 0 ∧ Hid (wx = w4)) (fun _ _ => 0)
                case atStart => exact ⟨rfl, rfl⟩
                case round =>
                  obtain ⟨rfl, HW⟩ := hrel
                  have hw := HW.out
                  subst hw
                  by_cases h0 : 0 < ss.length
                  · have h0' : (0 : Int) < (ss.length : Int) := by omega
                    go_wp2_with fail
                    exact ⟨⟨j + 1, by go_num, by omega, HJ.out.1, by rw [HO.out]; exact HJ.out.2⟩, by simp [intOf]; omega⟩
                  · have h0' : ¬ (0 : Int) < (ss.length : Int) := by omega
                    go_wp2_with fail
                    exact ⟨⟨j + 1, by go_num, by omega, HJ.out.1, by rw [HO.out]; exact HJ.out.2⟩, by simp [intOf]; omega⟩
              | true =>
                rw [hmk, if_pos rfl] at HO
                have HMk := hideP hmk
                clear hmk
                go_wp2_with fail
                go_loopw [10] (fun i wx => ∃ k : Nat, i = .int .i64 k ∧ k ≤ ss.length ∧ Hid (Ch (fun b => b = mb) w wx ∧ BitV wx mb (markV (ss.take k) M3))) (fun i _ => ss.length - (intOf i).toNat)
                case atStart => exact ⟨0, rfl, Nat.zero_le _, HJ.out⟩
                case round =>
                  clear HJ
                  obtain ⟨k, rfl, hk, HI⟩ := hrel
                  have r3 := HUp.out wr HI.out.1 _ _ HX1.out
                  have t3 := HUp.out wr HI.out.1 _ _ K0.out
                  have hkm : (markV (ss.take k) M3).length = L.length := by rw [mark_len, hM3l]
                  obtain ⟨d0, d1⟩ := HI.out.2.at (k := j) (by omega)
                  rw [mark_still HMk.out k] at d0
                  have hml := HI.out.2.lt
                  by_cases hks : k < ss.length
                  · have hks' : (k : Int) < (ss.length : Int) := by omega
                    have hk0 : (0 : Int) ≤ (k : Int) := by omega
                    obtain ⟨b, o, rfl, c0, c1⟩ := KS.out k hks
                    have e0 := HUp.out wr HI.out.1 _ _ c0
                    have e1 := HUp.out wr HI.out.1 _ _ c1
                    have hms : markV (ss.take (k + 1)) M3 = if ss[k].ref = true then (markV (ss.take k) M3).set ss[k].n.toNat true else markV (ss.take k) M3 := by rw [List.take_succ_eq_append_getElem hks, mark_snoc]
                    have hrg := HRng.out HMk.out ss[k] (List.getElem_mem hks)
                    obtain ⟨⟨sr, sn⟩, hs⟩ : ∃ s, s = ss[k] := ⟨_, rfl⟩
                    rw [← hs] at e0 e1 hms hrg
                    simp only at e0 e1 hms hrg
                    clear hs c0 c1
                    cases sr with
                    | false =>
                      rw [if_neg (by decide)] at hms
                      have HMs := hideP hms
                      clear hms hrg
                      go_wp2_with fail
                      exact ⟨⟨k + 1, by go_num, by omega, HI.out.1, by rw [HMs.out]; exact HI.out.2⟩, by simp [intOf]; omega⟩
                    | true =>
                      rw [if_pos rfl] at hms
                      have hq := isL_lt (hrg rfl)
                      obtain ⟨qn, rfl⟩ := Int.eq_ofNat_of_zero_le hq.1
                      rw [Int.toNat_natCast] at hms
                      have hqn0 : (0 : Int) ≤ (qn : Int) := by omega
                      have hqn : (qn : Int) < (L.length : Int) := hq.2
                      have hqm : qn < (markV (ss.take k) M3).length := by omega
                      obtain ⟨g0, g1⟩ := HI.out.2.at hqm
                      have HMs := hideP hms
                      clear hms hrg hq
                      go_wp2_with fail
                      exact ⟨⟨k + 1, by go_num, by omega, HI.out.1.set (fun _ => rfl) _ _, by rw [HMs.out]; exact HI.out.2.put hqm⟩, by simp [intOf]; omega⟩
                  · have hks' : ¬ (k : Int) < (ss.length : Int) := by omega
                    have hkk : k = ss.length := by omega
                    have HI2 : Hid (Ch (fun b => b = mb) w wr ∧ BitV wr mb (passTo L M2 (j + 1))) := by
                      have := HI.out
                      rw [hkk, List.take_of_length_le (Nat.le_refl _), ← HO.out] at this
                      exact this
                    clear hkk
                    go_wp2_with fail
                    exact ⟨⟨j + 1, by go_num, by omega, HI2.out⟩, by simp [intOf]; omega⟩
            · have hjl' : ¬ (j : Int) < (L.length : Int) := by omega
              have hje : j = L.length := by omega
              have HJ2 : Hid (Ch (fun b => b = mb) w wr ∧ BitV wr mb (passN L M1 (p + 1))) := by
                have := HJ.out
                rw [hje, ← HM2.out] at this
                exact this
              clear hje
              go_wp2_with fail
              exact ⟨⟨p + 1, by go_num, by omega, HJ2.out⟩, by simp [intOf]; omega⟩
        · have hpl' : ¬ (p : Int) < (L.length : Int) := by omega
          have hpe : p = L.length := by omega
          have HP2 : Hid (Ch (fun b => b = mb) w wr ∧ BitV wr mb ME) := by
            have := HP.out
            rw [hpe, ← HE.out] at this
            exact this
          clear hpe HE
          have HS0 : Hid (Ch (fun b => F b ∨ b = mb) w wr ∧ BitV wr mb ME ∧ WorldT B F wr r cells (sweepTo L ME 0)) := ⟨HP2.out.1.mono fun _ _ h => .inr h, HP2.out.2, HWx.out _ wr HP2.out.1 HFm.out⟩
          clear HP2 HP
          go_wp2_with fail
          go_loopw [11, 12] (fun n i wx => ∃ j m : Nat, i = .int .i64 j ∧ j ≤ L.length ∧ n = .int .i64 m ∧ Hid (m = freedTo L ME j) ∧ Hid (Ch (fun b => F b ∨ b = mb) w wx ∧ BitV wx mb ME ∧ WorldT B F wx r cells (sweepTo L ME j))) (fun _ i _ => L.length - (intOf i).toNat)
          case atStart => exact ⟨0, 0, rfl, Nat.zero_le _, rfl, rfl, HS0.out⟩
          case round =>
            clear HS0
            obtain ⟨j, m, rfl, hj, rfl, HM, HS⟩ := hrel
            obtain ⟨a1, cap1, ⟨_, s1⟩, hk⟩ := HS.out.2.2.look
            rw [sweep_len] at s1
            have hmb := freed_le (L := L) (m := ME) j hj
            have hmu := (used_take L j).1
            have hm : m ≤ 1000000000000 := by have := HM.out; omega
            by_cases hjl : j < L.length
            · have hjl' : (j : Int) < (L.length : Int) := by omega
              have hj0 : (0 : Int) ≤ (j : Int) := by omega
              have hsj : j < (sweepTo L ME j).length := by rw [sweep_len]; exact hjl
              have hsame : (sweepTo L ME j)[j] = L[j] := by
                have := sweep_get (L := L) (m := ME) j j
                rw [List.getElem?_eq_getElem hsj, List.getElem?_eq_getElem hjl, Option.map_some, if_neg (Nat.lt_irrefl j)] at this
                injection this
              obtain ⟨q, ao2, c2, rfl, hFq, q0, q1, qf, _, _⟩ := hk j hsj
              obtain ⟨q', cap', s2, _, hqr, hgone⟩ := world_gone HS.out.2.2 hsj
              rw [sweep_len, s1] at s2
              injection s2 with s2
              injection s2 with s2 _ _
              injection s2 with s2
              injection s2 with s2 _ _
              subst s2
              rw [hsame] at q0 q1 hgone
              have hf1 := qf (j * 2 + 1)
              obtain ⟨d0, d1⟩ := HS.out.2.1.at (k := j) (by omega)
              have hmlt := HS.out.2.1.lt
              have hqm : q ≠ mb := fun e => HFm.out q hFq e
              have hstep : sweepTo L ME (j + 1) = if (!ME.getD j false && !(L[j]).2) = true then (sweepTo L ME j).set j ((L[j]).1, true) else sweepTo L ME j := by
                have : (L.getD j ([], true)) = L[j] := getD_at hjl _
                conv => lhs; unfold sweepTo
                rw [this]
              have hfree : freedTo L ME (j + 1) = if (!ME.getD j false && !(L[j]).2) = true then freedTo L ME j + (L[j]).1.length + 1 else freedTo L ME j := by
                have : (L.getD j ([], true)) = L[j] := getD_at hjl _
                conv => lhs; unfold freedTo
                rw [this]
              obtain ⟨mk, hmk⟩ : ∃ mk, mk = ME.getD j false := ⟨_, rfl⟩
              obtain ⟨⟨ol, og⟩, hol⟩ : ∃ o, o = L[j] := ⟨_, rfl⟩
              have holl := hll _ (List.getElem_mem hjl)
              rw [← hmk, ← hol] at hstep hfree
              rw [← hmk] at d0
              rw [← hol] at q0 q1 hgone holl
              simp only at q0 q1 hgone holl hstep hfree
              have hrlt := (HS.out.2.2.lt r HS.out.2.2.self).2
              have hqlt := (HS.out.2.2.lt q hFq).2
              have hrq : r ≠ q := fun e => hqr e.symm
              have HG := hideP hgone
              have HST := hideP hstep
              have HFR := hideP hfree
              have HFq := hideP hFq
              clear hk qf hsame hgone hmk hol hstep hfree hFq hmb hmu
              cases mk with
              | true =>
                have HN1 : Hid (m = freedTo L ME (j + 1)) := by rw [HFR.out]; exact HM.out
                have HN2 : Hid (sweepTo L ME (j + 1) = sweepTo L ME j) := by rw [HST.out]; exact rfl
                go_wp2_with fail
                exact ⟨⟨j + 1, m, by go_num, by omega, rfl, HN1.out, by rw [HN2.out]; exact HS.out⟩, by simp [intOf]; omega⟩
              | false =>
                cases og with
                | true =>
                  have HN1 : Hid (m = freedTo L ME (j + 1)) := by rw [HFR.out]; exact HM.out
                  have HN2 : Hid (sweepTo L ME (j + 1) = sweepTo L ME j) := by rw [HST.out]; exact rfl
                  go_wp2_with fail
                  exact ⟨⟨j + 1, m, by go_num, by omega, rfl, HN1.out, by rw [HN2.out]; exact HS.out⟩, by simp [intOf]; omega⟩
                | false =>
                  have HN1 : Hid (m + ol.length + 1 = freedTo L ME (j + 1)) := by rw [HFR.out, if_pos (by decide), ← HM.out]; exact rfl
                  have HN2 : Hid (sweepTo L ME (j + 1) = (sweepTo L ME j).set j (ol, true)) := by rw [HST.out]; exact rfl
                  go_wp2_with fail
                  exact ⟨⟨j + 1, m + ol.length + 1, by go_num, by omega, by go_num, HN1.out, HS.out.1.set (fun _ => .inl HFq.out) _ _, HS.out.2.1.ch ((Ch.refl (fun b => b = q) _).set (fun _ => rfl) _ _) (fun e => hqm e.symm), by rw [HN2.out]; exact HG.out⟩, by simp [intOf]; omega⟩
            · have hjl' : ¬ (j : Int) < (L.length : Int) := by omega
              have hje : j = L.length := by omega
              have HS2 : Hid (Ch (fun b => F b ∨ b = mb) w wr ∧ WorldT B F wr r cells (sweepTo L ME L.length)) := by
                have := HS.out
                rw [hje] at this
                exact ⟨this.1, this.2.2⟩
              have hm2 : R = m := by rw [HR.out, HM.out, hje]
              subst hm2
              clear hje hk
              go_wp2_with fail
              go_ret
              exact ⟨rfl, F, HS2.out.2, fun _ h => .inl h, HS2.out.1.mono fun b hb h => by
                rcases h with h | h
                · exact h
                · have := HMB.out
                  omega⟩
end Go.Proofs.Ytcpmdbdppdnkkaa
