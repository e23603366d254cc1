/- Part. -/
import Derived.Test.YtgblonhfidoleaaDoorPart44
set_option maxRecDepth 100000
set_option maxHeartbeats 4000000
/- The second turn. -/
namespace Go.Proofs.YtgblonhfidoleaaDoor
open Go.Proofs.Tryd
open Go.RowKit Go.Maps
abbrev modO' (ia : Option Addr) (il ic : Nat) (da : Option Addr) (dl dc : Nat) : Obj := .cells #[.slice ia il ic, .slice da dl dc] 45
abbrev scopeO (mb : Nat) : Obj := .cells #[.slice none 0 0, .map (some mb)] 66
theorem scopeAll_c (lo kb nb : Nat) (L : L1) (r : Rw) (w : World) (hV : Vw lo kb nb w L r) (hb : w.heap[kb]? = some (vwO nb L r (.slice none 0 0) (.string ⟨#[]⟩) (.int .i64 0) (.int .i64 0) (.slice none 0 0))) :
    Calls prog 13 #[.pointer (some ⟨kb, 0, none⟩)] w fun e w' => e = .returned (.tuple #[]) /\ ∃ vS vD vs, Q3 kb nb L r w w' vS vD vs (scopesV L.num L.mods 0 L.mods [] []).1 (scopesV L.num L.mods 0 L.mods [] []).2 := by
  have hmm := @run_makeMap prog
  have HV := hideP hV
  have HQ0 : Hid (Q3 kb nb L r w w (.slice none 0 0) (.slice none 0 0) [] [] []) := ⟨Stay.refl _ _, hb, World.ownsRow_nil _ _ _ _, World.ownsRow_nil _ _ _ _, (fun _ h => nomatch h), lt_of_block hb, fun _ => rfl⟩
  obtain ⟨⟨_, p1, _⟩, _, hkl⟩ := box9 hb
  have hml := hV.ml
  have hlt2 := hV.lt2
  have hzm : ((L.mods.length : Int) <= 9223372036854775807) := by omega
  obtain ⟨aM, haM0⟩ : ∃ aM, aM = r.aM := ⟨_, rfl⟩
  rw [<- haM0] at p1
  have HaM := hideP haM0
  clear haM0 hV hb
  obtain ⟨i0, hi0, ha0, ha1, ha2⟩ := info_parts info_es
  go_enter func13, ntmps13
  go_wp2_with fail
  clear p1
  go_loopw [15] (fun i wr => ∃ (k : Nat) (vS vD : Value) (vs : List Value), k <= L.mods.length /\ i = .int .i64 k /\ Hid (Q3 kb nb L r w wr vS vD vs (scopesV L.num L.mods 0 (L.mods.take k) [] []).1 (scopesV L.num L.mods 0 (L.mods.take k) [] []).2) /\ Hid ((scopesV L.num L.mods 0 (L.mods.take k) [] []).1.length = k /\ (scopesV L.num L.mods 0 (L.mods.take k) [] []).2.length <= k * 80000000)) (fun i _ => L.mods.length - (intOf i).toNat)
  case atStart => exact ⟨0, _, _, _, by omega, rfl, HQ0.out, ⟨rfl, Nat.le_refl _⟩⟩
  case round =>
    obtain ⟨k, vS, vD, vs, hk, rfl, HQ, HLn⟩ := hrel
    by_cases hkl : k < L.mods.length
    · have hkl' : (k : Int) < (L.mods.length : Int) := by omega
      obtain ⟨gM, x, haM, hgM1, hgM2, hcM0, hcM1, hMo⟩ := HV.out.mod hkl
      have haM' : aM = some ⟨gM, 0, none⟩ := HaM.out.trans haM
      subst haM'
      obtain ⟨ia, il, ic, da, dl, dc⟩ := x
      obtain ⟨hil, hdl, hb1, hb2, hri, hrd⟩ := hMo
      simp only at hil hdl hri hrd hcM0 hcM1
      have HGd := hideP (HV.out.good _ (List.getElem_mem hkl))
      have hst := scopesV_snoc L.num L.mods L.mods[k] (L.mods.take k) 0 [] []
      rw [List.take_append_getElem hkl, List.length_take, Nat.min_eq_left (by omega), Nat.zero_add] at hst
      have q0 : wr.cell? ⟨gM, k * 2, none⟩ = some (.slice ia il ic) := (stay_cell HQ.out.st (by omega) hgM2).trans hcM0
      have q1 : wr.cell? ⟨gM, k * 2 + 1, none⟩ = some (.slice da dl dc) := (stay_cell HQ.out.st (by omega) hgM2).trans hcM1
      obtain ⟨o, ho⟩ : ∃ o, o = L.mods[k] := ⟨_, rfl⟩
      rw [<- ho] at hil hdl hb1 hb2 hri hrd HGd hst
      subst hil hdl
      have HSt := hideP hst
      have HRi := hideP hri
      have HRd := hideP hrd
      obtain ⟨ess, hess⟩ : ∃ x, x = (scopesV L.num L.mods 0 (L.mods.take k) [] []).1 := ⟨_, rfl⟩
      obtain ⟨ds, hds⟩ : ∃ x, x = (scopesV L.num L.mods 0 (L.mods.take k) [] []).2 := ⟨_, rfl⟩
      rw [<- hess, <- hds] at HQ HLn HSt
      have HO := hideP (HQ.out.open (modO' ia o.is.length ic da o.ds.length dc))
      have hyl : wr.heap.size < (((wr.alloc (modO' ia o.is.length ic da o.ds.length dc)).alloc (.map #[] 0)).alloc (scopeO (wr.heap.size + 1))).heap.size := by rw [World.size_alloc, World.size_alloc, World.size_alloc]; omega
      have HBA : Hid (Below wr.heap.size wr (((wr.alloc (modO' ia o.is.length ic da o.ds.length dc)).alloc (.map #[] 0)).alloc (scopeO (wr.heap.size + 1)))) := below_next (below_next (bl_alloc wr _) (bl_alloc _ _)) (bl_alloc _ _)
      have HY : Hid ((((wr.alloc (modO' ia o.is.length ic da o.ds.length dc)).alloc (.map #[] 0)).alloc (scopeO (wr.heap.size + 1))).heap[wr.heap.size]? = some (modO' ia o.is.length ic da o.ds.length dc)) := (Below.heap_alloc _ _ _ (by rw [World.size_alloc, World.size_alloc]; omega)).trans ((Below.heap_alloc _ _ _ (by rw [World.size_alloc]; omega)).trans (heap_alloc_last _ _))
      have HNY : Hid (¬ S2 kb (wr.heap.size + 2) (wr.heap.size + 1) vD (.slice none 0 0) wr.heap.size) := fun e => by
        have h1 := lt_of_block HQ.out.box
        rcases e with e | e | e | e | e
        · omega
        · have := (HQ.out.rD.lt _ e).2
          omega
        · omega
        · omega
        · cases e
      have hzi : ((o.is.length : Int) <= 9223372036854775807) := by omega
      have hzd : ((o.ds.length : Int) <= 9223372036854775807) := by omega
      clear hst hess hds hri hrd hcM0 hcM1 ho
      obtain ⟨⟨y0, y1⟩, _, _⟩ := box2 HY.out
      go_wp2_with fail
      clear q0 q1 y0 y1
      obtain ⟨WA, hWA⟩ : ∃ W, W = (((wr.alloc (modO' ia o.is.length ic da o.ds.length dc)).alloc (.map #[] 0)).alloc (scopeO (wr.heap.size + 1))) := ⟨_, rfl⟩
      rw [<- hWA] at HO hyl HBA HY ⊢
      clear hWA
      have HOv : Hid (∀ w1 vD' vE' s, Q2 kb nb L r vS (wr.heap.size + 2) (wr.heap.size + 1) (wr.heap.size + 3) w w1 vD' vE' s -> R2 kb (wr.heap.size + 2) (wr.heap.size + 1) WA vD (.slice none 0 0) w1 vD' vE' -> Q3 kb nb L r w w1 vS vD' vs ess s.2) := fun w1 vD' vE' s h1 h2 => HQ.out.over HBA.out (by omega) (by omega) h1 h2
      have hyw : w.heap.size <= wr.heap.size := HQ.out.st.size
      obtain ⟨yb, hyb⟩ : ∃ yb, yb = wr.heap.size := ⟨_, rfl⟩
      rw [<- hyb] at HO hyl HY HNY HOv hyw ⊢
      clear hyb HBA HQ
      go_loopw [26] (fun i w2 => ∃ (k2 : Nat) (vD' vE' : Value), k2 <= o.is.length /\ i = .int .i64 k2 /\ Hid (Q2 kb nb L r vS (yb + 2) (yb + 1) (yb + 3) w w2 vD' vE' (impsV L.num L.mods k (o.is.take k2) ([], ds))) /\ Hid (R2 kb (yb + 2) (yb + 1) WA vD (.slice none 0 0) w2 vD' vE') /\ Hid ((impsV L.num L.mods k (o.is.take k2) ([], ds)).1.length <= k2 * 8193 /\ (impsV L.num L.mods k (o.is.take k2) ([], ds)).2.length <= ds.length + k2 * 8193)) (fun i _ => o.is.length - (intOf i).toNat)
      case atStart => exact ⟨0, _, _, by omega, rfl, HO.out, R2.refl _ _ _ _ _ _, ⟨Nat.le_refl _, Nat.le_refl _⟩⟩
      case round =>
        obtain ⟨k2, vD', vE', hk2, rfl, HQi, HRr, HLi⟩ := hrel
        by_cases hk2l : k2 < o.is.length
        · have hk2l' : (k2 : Int) < (o.is.length : Int) := by omega
          obtain ⟨gi, hia, hgi1, hgi2, c, _, hci, na, nc, rfl, hnl, hnf⟩ := rowQ_at HRi.out hk2l
          subst hia
          have HIG := hideP (HGd.out.1 _ (List.getElem_mem hk2l))
          have hsi := impsV_snoc L.num L.mods k o.is[k2] (o.is.take k2) ([], ds)
          rw [List.take_append_getElem hk2l] at hsi
          obtain ⟨I, hI⟩ : ∃ I, I = o.is[k2] := ⟨_, rfl⟩
          rw [<- hI] at hci hnl hnf HIG hsi
          have t0 : wr.cell? ⟨gi, k2 * 4, none⟩ = some (.string ⟨I.fr.toArray⟩) := (stay_cell HQi.out.st (by omega) hgi2).trans (hci 0 (by omega))
          have t1 : wr.cell? ⟨gi, k2 * 4 + 1, none⟩ = some (.slice na I.ns.length nc) := (stay_cell HQi.out.st (by omega) hgi2).trans (hci 1 (by omega))
          have t2 : wr.cell? ⟨gi, k2 * 4 + 2, none⟩ = some (.int .i64 I.li) := (stay_cell HQi.out.st (by omega) hgi2).trans (hci 2 (by omega))
          have t3 : wr.cell? ⟨gi, k2 * 4 + 3, none⟩ = some (.int .i64 I.co) := (stay_cell HQi.out.st (by omega) hgi2).trans (hci 3 (by omega))
          have HNf := hideP hnf
          have HSi := hideP hsi
          obtain ⟨s', hs'⟩ : ∃ s', s' = impsV L.num L.mods k (o.is.take k2) ([], ds) := ⟨_, rfl⟩
          rw [<- hs'] at HQi HLi HSi
          have HIl := hideP (impV_len L.num L.mods k I s' hnl)
          clear hci hnf hsi hI hs'
          go_wp2_with fail
          refine (scopeImport_c lo kb nb k L r vS _ _ _ w _ vD' vE' s' I na nc lo HV.out (HQi.out.alloc _) HIG.out hnl HNf.out hlt2 (by have := HLi.out.1; omega) (by have := HLi.out.2; have := HLn.out.2; omega)).mono ?_
          rintro e w3 ⟨rfl, vD2, vE2, h2, h3⟩
          have H2 := hideP h2
          have H3 := hideP h3
          clear h2 h3
          go_wp2_with fail
          go_roundw
          case rel =>
            refine ⟨k2 + 1, vD2, vE2, by omega, by go_num, ?_, ?_, ?_⟩
            · show Q2 _ _ _ _ _ _ _ _ _ _ _ _ _
              rw [HSi.out]
              exact H2.out
            · exact (HRr.out.trans (R2.below (by have := (q2_cells HQi.out).2; omega) (bl_alloc _ _))).trans H3.out
            · show _ /\ _
              rw [HSi.out]
              have h1 := HIl.out
              have h2 := HLi.out
              omega
          case measure => simp [intOf]; omega
        · have hk2l' : ¬ (k2 : Int) < (o.is.length : Int) := by omega
          have e : o.is.take k2 = o.is := List.take_of_length_le (by omega)
          rw [e] at HQi HLi
          have hk2e : k2 <= 8193 := by omega
          obtain ⟨s1, hs1⟩ : ∃ s1, s1 = impsV L.num L.mods k o.is ([], ds) := ⟨_, rfl⟩
          rw [<- hs1] at HQi HLi
          have HS1 := hideP hs1
          have hyk := HRr.out.chg.obj HY.out HNY.out
          obtain ⟨⟨y0, y1⟩, _, _⟩ := box2 hyk
          clear hs1 e hyk
          go_wp2_with fail
          clear y0 y1
          go_loopw [39] (fun i w3 => ∃ (k3 : Nat) (vD2 vE2 : Value), k3 <= o.ds.length /\ i = .int .i64 k3 /\ Hid (Q2 kb nb L r vS (yb + 2) (yb + 1) (yb + 3) w w3 vD2 vE2 (declsV k 0 (o.ds.take k3) s1)) /\ Hid (R2 kb (yb + 2) (yb + 1) WA vD (.slice none 0 0) w3 vD2 vE2) /\ Hid ((declsV k 0 (o.ds.take k3) s1).1.length <= s1.1.length + k3 /\ (declsV k 0 (o.ds.take k3) s1).2.length <= s1.2.length + k3)) (fun i _ => o.ds.length - (intOf i).toNat)
          case atStart => exact ⟨0, vD', vE', by omega, rfl, HQi.out, HRr.out, ⟨Nat.le_refl _, Nat.le_refl _⟩⟩
          case round =>
            obtain ⟨k3, vD2, vE2, hk3, rfl, HQd, HRe, HLd⟩ := hrel
            by_cases hk3l : k3 < o.ds.length
            · have hk3l' : (k3 : Int) < (o.ds.length : Int) := by omega
              obtain ⟨gd, hda, hgd1, hgd2, c, _, hcd, x, hxd, _⟩ := rowQ_at HRd.out hk3l
              subst hda hxd
              have HCG := hideP (HGd.out.2 _ (List.getElem_mem hk3l))
              have hsd := declsV_snoc k o.ds[k3] (o.ds.take k3) 0 s1
              rw [List.take_append_getElem hk3l, List.length_take, Nat.min_eq_left (by omega), Nat.zero_add] at hsd
              obtain ⟨d, hd⟩ : ∃ d, d = o.ds[k3] := ⟨_, rfl⟩
              rw [<- hd] at hcd HCG hsd
              have t0 : wr.cell? ⟨gd, k3 * 15, none⟩ = some (.string ⟨d.nm.toArray⟩) := (stay_cell HQd.out.st (by omega) hgd2).trans (hcd 0 (by omega))
              have t1 : wr.cell? ⟨gd, k3 * 15 + 1, none⟩ = some (.bool d.ex) := (stay_cell HQd.out.st (by omega) hgd2).trans (hcd 1 (by omega))
              have t2 : wr.cell? ⟨gd, k3 * 15 + 2, none⟩ = some (.slice x.va d.vs x.vc) := (stay_cell HQd.out.st (by omega) hgd2).trans (hcd 2 (by omega))
              have t3 : wr.cell? ⟨gd, k3 * 15 + 3, none⟩ = some (.string x.pm) := (stay_cell HQd.out.st (by omega) hgd2).trans (hcd 3 (by omega))
              have t4 : wr.cell? ⟨gd, k3 * 15 + 4, none⟩ = some (.slice x.ta 2 x.tc) := (stay_cell HQd.out.st (by omega) hgd2).trans (hcd 4 (by omega))
              have t5 : wr.cell? ⟨gd, k3 * 15 + 5, none⟩ = some (.int .i64 x.k) := (stay_cell HQd.out.st (by omega) hgd2).trans (hcd 5 (by omega))
              have t6 : wr.cell? ⟨gd, k3 * 15 + 6, none⟩ = some (.string x.tx) := (stay_cell HQd.out.st (by omega) hgd2).trans (hcd 6 (by omega))
              have t7 : wr.cell? ⟨gd, k3 * 15 + 7, none⟩ = some (.int .i64 x.n) := (stay_cell HQd.out.st (by omega) hgd2).trans (hcd 7 (by omega))
              have t8 : wr.cell? ⟨gd, k3 * 15 + 8, none⟩ = some (.int .i64 x.a) := (stay_cell HQd.out.st (by omega) hgd2).trans (hcd 8 (by omega))
              have t9 : wr.cell? ⟨gd, k3 * 15 + 9, none⟩ = some (.int .i64 x.b) := (stay_cell HQd.out.st (by omega) hgd2).trans (hcd 9 (by omega))
              have t10 : wr.cell? ⟨gd, k3 * 15 + 10, none⟩ = some (.slice x.xa x.xl x.xc) := (stay_cell HQd.out.st (by omega) hgd2).trans (hcd 10 (by omega))
              have t11 : wr.cell? ⟨gd, k3 * 15 + 11, none⟩ = some (.slice x.ya x.yl x.yc) := (stay_cell HQd.out.st (by omega) hgd2).trans (hcd 11 (by omega))
              have t12 : wr.cell? ⟨gd, k3 * 15 + 12, none⟩ = some (.slice x.za x.zl x.zc) := (stay_cell HQd.out.st (by omega) hgd2).trans (hcd 12 (by omega))
              have t13 : wr.cell? ⟨gd, k3 * 15 + 13, none⟩ = some (.int .i64 d.li) := (stay_cell HQd.out.st (by omega) hgd2).trans (hcd 13 (by omega))
              have t14 : wr.cell? ⟨gd, k3 * 15 + 14, none⟩ = some (.int .i64 d.co) := (stay_cell HQd.out.st (by omega) hgd2).trans (hcd 14 (by omega))
              have HSd := hideP hsd
              obtain ⟨s', hs'⟩ : ∃ s', s' = declsV k 0 (o.ds.take k3) s1 := ⟨_, rfl⟩
              rw [<- hs'] at HQd HLd HSd
              have HDl := hideP (declStep_len k k3 d s')
              have hnd := HCG.out.1
              have hbn := q2_new HQd.out (Nat.le_refl _)
              have HBN := hideP hbn
              clear hcd hsd hd hs' hbn
              go_wp2_with fail
              refine (add2 (HQd.out.alloc (decO x d)) ⟨d.nm, k, k3⟩ (by show d.nm.length <= _; omega) (by have := HLd.out.1; have := HLi.out.1; omega)).mono ?_
              rintro e w5 ⟨rfl, vE5, h2, h3⟩
              have H3 := hideP ((HRe.out.trans (R2.below (by have := (q2_cells HQd.out).2; omega) (bl_alloc _ (decO x d)))).trans h3)
              cases hin : inE s'.1 d.nm with
              | true =>
                have HSt2 : Hid (declsV k 0 (o.ds.take (k3 + 1)) s1 = (s'.1, s'.2 ++ [⟨k, d.li, d.co, 8⟩])) := by show _ = _; rw [HSd.out]; unfold declStep; rw [hin]; rfl
                have H2 : Hid (Q2 kb nb L r vS (yb + 2) (yb + 1) (yb + 3) w w5 vD2 vE5 s') := by have h := h2; simp only [hin, if_true] at h; exact h
                have hdb := h3.chg.obj (heap_alloc_last wr (decO x d)) HBN.out
                have d13 : w5.cell? ⟨wr.heap.size, 13, none⟩ = some (.int .i64 d.li) := by simp [World.cell?, hdb]
                have d14 : w5.cell? ⟨wr.heap.size, 14, none⟩ = some (.int .i64 d.co) := by simp [World.cell?, hdb]
                clear h2 h3 hin hdb
                go_wp2_with fail
                refine (tell2 H2.out ⟨k, d.li, d.co, 8⟩ (by have := HLd.out.2; have := HLi.out.2; have := HLn.out.2; omega)).mono ?_
                rintro e w6 ⟨rfl, vD6, h4, h5⟩
                have H4 := hideP h4
                have H5 := hideP h5
                clear h4 h5
                go_wp2_with fail
                go_roundw
                case rel =>
                  refine ⟨k3 + 1, vD6, vE5, by omega, by go_num, ?_, H3.out.trans H5.out, ?_⟩
                  · show Q2 _ _ _ _ _ _ _ _ _ _ _ _ _
                    rw [HSt2.out]
                    exact H4.out
                  · show _ /\ _
                    have h1 := HDl.out
                    have h2 := HLd.out
                    rw [HSd.out]
                    omega
                case measure => simp [intOf]; omega
              | false =>
                have HSt2 : Hid (declsV k 0 (o.ds.take (k3 + 1)) s1 = (s'.1 ++ [⟨d.nm, k, k3⟩], s'.2)) := by show _ = _; rw [HSd.out]; unfold declStep; rw [hin]; rfl
                have H2 : Hid (Q2 kb nb L r vS (yb + 2) (yb + 1) (yb + 3) w w5 vD2 vE5 (s'.1 ++ [⟨d.nm, k, k3⟩], s'.2)) := by have h := h2; simp only [hin] at h; exact h
                clear h2 h3 hin
                go_wp2_with fail
                go_roundw
                case rel =>
                  refine ⟨k3 + 1, vD2, vE5, by omega, by go_num, ?_, H3.out, ?_⟩
                  · show Q2 _ _ _ _ _ _ _ _ _ _ _ _ _
                    rw [HSt2.out]
                    exact H2.out
                  · show _ /\ _
                    have h1 := HDl.out
                    have h2 := HLd.out
                    rw [HSd.out]
                    omega
                case measure => simp [intOf]; omega
            · have hk3l' : ¬ (k3 : Int) < (o.ds.length : Int) := by omega
              have e : o.ds.take k3 = o.ds := List.take_of_length_le (by omega)
              rw [e] at HQd HLd
              have HSc : Hid (declsV k 0 o.ds s1 = scopeV L.num L.mods k o ds) := by show _ = _; rw [HS1.out]; rfl
              rw [HSc.out] at HQd HLd
              obtain ⟨s2, hs2⟩ : ∃ s2, s2 = scopeV L.num L.mods k o ds := ⟨_, rfl⟩
              rw [<- hs2] at HQd HLd HSt
              have HQ3 := hideP (HOv.out wr vD2 vE2 s2 HQd.out HRe.out)
              have HE := hideP (row_base HQd.out.sc.row (show w.heap.size <= yb + 3 by omega))
              obtain ⟨aS, cS, rfl⟩ := row_shape HQ3.out.rS
              obtain ⟨aE, cE, rfl⟩ := row_shape HE.out
              have hb9 := box9 HQd.out.box
              obtain ⟨⟨_, _, c2, _⟩, hfr, hkw⟩ := hb9
              have c2d : wr.drew.cell? ⟨kb, 2, none⟩ = some (.slice aS ess.length cS) := c2
              obtain ⟨⟨e0, _⟩, _, hsw⟩ := box2 HQd.out.sc.box
              have e0d : wr.drew.cell? ⟨yb + 2, 0, none⟩ = some (.slice aE s2.1.length cE) := e0
              have hwl : w.heap.size <= wr.heap.size := HQd.out.st.size
              have hel : ess.length <= 16 := by have := HLn.out.1; omega
              clear e hs2
              go_wp2_with fail
              apply onceQ3 (fun p n z => Hid (z.ownsRow w.heap.size 41 1 (.slice p (ess.length + 1) n) (ess.length + 1) (vs ++ [.slice aE s2.1.length cE])) /\ Hid ((wr.drew.alloc (.cells #[.slice aE s2.1.length cE] 41)).grownBy z (Value.slice aS ess.length cS).ownBlock)) (fun p n z => z.setCell ⟨kb, 2, none⟩ (.slice p (ess.length + 1) n))
              · go_region_law (refine step_append_at rfl (.tmp 65) (.tmp 70) 27 rfl w.heap.size 41 i0 _ 1 24 underlying27 hi0 ha0 ha1 ha2 rfl (by decide) _ _ _ (by first | rfl | simp [Act.eval, Act.put]) ((show wr.drew.ownsRow w.heap.size 41 1 (.slice aS ess.length cS) ess.length vs from HQ3.out.rS).alloc _) ⟨wr.heap.size, 0, none⟩ 1 1 [.slice aE s2.1.length cE] (by first | rfl | simp [Act.eval, Act.put]) rfl (cells_newK _ _ _) (by simp [Value.oneCell']) (by unfold maxLen; omega) (by omega) (by show w.heap.size <= (wr.alloc _).heap.size; rw [World.size_alloc]; omega) ?_; intro v' w6 hown' hgrow hloc; obtain ⟨aN', cN', rfl⟩ := row_shape hown'; have HO6 := hideP hown'; have HG6 := hideP hgrow; have HK6 := hideP (grown_box (W := wr.drew) HQ3.out.box HQ3.out.rS HQ3.out.lt1 hgrow); obtain ⟨⟨_, _, b2, _⟩, g2, hk6⟩ := box9 HK6.out; clear hown' hgrow hloc)
                all_goals exact ⟨aN', cN', w6, ⟨HO6.out, HG6.out⟩, rfl, rfl⟩
              · rintro aN' cN' w6 ⟨HO6, HG6⟩
                have HQ4 := hideP ((HQ3.out.below (Below.refl _ wr).drew).push (show wr.drew.ownsRow w.heap.size 29 3 (.slice aE s2.1.length cE) s2.1.length (s2.1.flatMap enC) from HE.out) HO6.out HG6.out)
                clear c2 c2d e0 e0d hfr
                simp only [Exit.inBlock, Exit.then]
                go_wp2_with fail
                go_roundw
                case rel =>
                  refine ⟨k + 1, .slice aN' (ess.length + 1) cN', vD2, vs ++ [.slice aE s2.1.length cE], by omega, by go_num, ?_, ?_⟩
                  · show Q3 _ _ _ _ _ _ _ _ _ _ _
                    rw [HSt.out]
                    exact HQ4.out
                  · show _ /\ _
                    rw [HSt.out]
                    have h1 := HLd.out
                    have h2 := HLi.out
                    have h3 := HLn.out
                    refine ⟨by simp; omega, ?_⟩
                    show s2.2.length <= _
                    omega
                case measure => simp [intOf]; omega
    · have hkl' : ¬ (k : Int) < (L.mods.length : Int) := by omega
      have e : L.mods.take k = L.mods := List.take_of_length_le (by omega)
      rw [e] at HQ
      go_wp2_with fail
      exact bodyPost_end (results_none rfl _ _ _) rfl ⟨rfl, vS, vD, vs, HQ.out⟩
end Go.Proofs.YtgblonhfidoleaaDoor
/- The third turn: modules that import one another. -/
namespace Go.Proofs.YtgblonhfidoleaaDoor
open Go.Proofs.Tryd
open Go.RowKit Go.Maps
/-- The later turns: what was told since w0. -/
structure Q4 (kb nb : Nat) (L : L1) (r : Rw) (vS c3 c4 c5 : Value) (w0 w : World) (vD : Value) (ds : List Dg) : Prop where
  st : Stay kb w0 w
  box : w.heap[kb]? = some (vwO nb L r vS c3 c4 c5 vD)
  rD : w.ownsRow w0.heap.size 37 4 vD ds.length (ds.flatMap dgC)
  lt1 : kb < w0.heap.size
  nil : ds = [] -> vD = .slice none 0 0
section
variable {kb nb : Nat} {L : L1} {r : Rw} {vS c3 c4 c5 vD : Value} {w0 w w1 : World} {ds : List Dg}
theorem Q4.below (h : Q4 kb nb L r vS c3 c4 c5 w0 w vD ds) (hb : Below w.heap.size w w1) : Q4 kb nb L r vS c3 c4 c5 w0 w1 vD ds := by
  have hc : Chg 0 (fun _ => False) w w1 := Chg.of hb (Nat.zero_le _)
  exact ⟨h.st.trans (Stay.of (by have := h.lt1; have := h.st.size; omega) hb), hc.obj h.box id, hc.row h.rD fun _ _ => id, h.lt1, h.nil⟩
theorem tell4 (h : Q4 kb nb L r vS c3 c4 c5 w0 w vD ds) (d : Dg) (hn : ds.length <= 1000000000000) :
    Calls prog 16 #[.pointer (some ⟨kb, 0, none⟩), .int .i64 d.m, .int .i64 d.li, .int .i64 d.co, .int .i64 d.er] w fun e w' => e = .returned (.tuple #[]) /\ ∃ vD', Q4 kb nb L r vS c3 c4 c5 w0 w' vD' (ds ++ [d]) /\ ∀ b n f, w0.heap.size <= b -> BitsAt w b n f -> BitsAt w' b n f :=
  (tell_c kb w0.heap.size ds.length d _ w _ _ _ _ _ _ _ _ vD h.box h.rD h.lt1 h.st.size hn).mono fun e w' ⟨h1, vD', h2, h3, h4, h5⟩ => by
    refine ⟨h1, vD', ⟨stay_chg h.st h5 fun b e => e.imp_right fun e => (h.rD.lt b e).1, h2, ?_, h.lt1, fun e => absurd e (by simp)⟩, fun b n f hb hB => hB.block (h5.keep b hB.lt fun e => ?_)⟩
    · rw [List.length_append, List.flatMap_append]
      simpa using h3
    · have := h.lt1
      rcases e with e | e
      · omega
      · obtain ⟨c, hc⟩ := row_obj h.rD e
        obtain ⟨cs, hcs, _⟩ := hB
        rw [hc] at hcs
        injection hcs with hcs
        injection hcs with _ hcs
        cases hcs
end
theorem cycV_snoc (num : Num) (reach : List (List Bool)) (m : Nat) (i : Imp) : ∀ (l : List Imp) (ds : List Dg), cycV num reach m (l ++ [i]) ds = if (reach.getD (numOf num i.fr) none16).getD m false then cycV num reach m l ds ++ [⟨m, i.li, i.co, 13⟩] else cycV num reach m l ds
  | [], _ => rfl
  | _ :: l, _ => cycV_snoc num reach m i l _
theorem cyclesV_snoc (num : Num) (reach : List (List Bool)) (o : Mo) : ∀ (l : List Mo) (m : Nat) (ds : List Dg), cyclesV num reach m (l ++ [o]) ds = cycV num reach (m + l.length) o.is (cyclesV num reach m l ds)
  | [], _, _ => rfl
  | x :: l, m, ds => by
    show cyclesV num reach (m + 1) (l ++ [o]) _ = _
    rw [cyclesV_snoc num reach o l]
    simp only [cyclesV, List.length_cons]
    rw [show m + 1 + l.length = m + (l.length + 1) by omega]
theorem cycles_c (lo kb nb : Nat) (L : L1) (r : Rw) (w : World) (vS c3 c4 c5 : Value) (hV : Vw lo kb nb w L r) (hb : w.heap[kb]? = some (vwO nb L r vS c3 c4 c5 (.slice none 0 0))) :
    Calls prog 14 #[.pointer (some ⟨kb, 0, none⟩)] w fun e w' => e = .returned (.tuple #[]) /\ ∃ vD, Q4 kb nb L r vS c3 c4 c5 w w' vD (cyclesV L.num (reachV (directsV L.num L.mods)) 0 L.mods []) := by
  have HV := hideP hV
  have HRC := hideP (reach_c lo kb nb L r w vS c3 c4 c5 _ hV hb)
  have HQ0 : Hid (Q4 kb nb L r vS c3 c4 c5 w w (.slice none 0 0) []) := ⟨Stay.refl _ _, hb, World.ownsRow_nil _ _ _ _, lt_of_block hb, fun _ => rfl⟩
  have hml := hV.ml
  have hlt2 := hV.lt2
  have hlt1 := hV.lt1
  have hzm : ((L.mods.length : Int) <= 9223372036854775807) := by omega
  obtain ⟨aM, haM0⟩ : ∃ aM, aM = r.aM := ⟨_, rfl⟩
  have HaM := hideP haM0
  obtain ⟨rch, hrch⟩ : ∃ x, x = reachV (directsV L.num L.mods) := ⟨_, rfl⟩
  obtain ⟨G, hG⟩ : ∃ G, G = reG (directsV L.num L.mods) := ⟨_, rfl⟩
  have HGr : Hid (∀ i j, G i j = (rch.getD i none16).getD j false) := fun i j => by rw [hG, hrch]; rfl
  rw [<- hrch]
  rw [<- hG] at HRC
  clear hV hb hrch hG
  go_enter func14, ntmps14
  go_wp2_with fail
  refine HRC.out.mono ?_
  rintro e w1 ⟨rb, rfl, hrb, h1, h2⟩
  have HB1 := hideP h1
  have HQ1 := hideP (HQ0.out.below h2)
  obtain ⟨⟨_, p1, _⟩, _, _⟩ := box9 (HQ0.out.below h2).box
  rw [<- haM0] at p1
  clear h1 h2 HRC haM0
  go_wp2_with fail
  clear p1
  go_loopw [15] (fun i wr => ∃ (k : Nat) (vD : Value), k <= L.mods.length /\ i = .int .i64 k /\ Hid (Q4 kb nb L r vS c3 c4 c5 w wr vD (cyclesV L.num rch 0 (L.mods.take k) [])) /\ Hid (BitsAt wr rb L.mods.length G) /\ Hid ((cyclesV L.num rch 0 (L.mods.take k) []).length <= k * 10000)) (fun i _ => L.mods.length - (intOf i).toNat)
  case atStart => exact ⟨0, _, by omega, rfl, HQ1.out, HB1.out, Nat.le_refl _⟩
  case round =>
    obtain ⟨k, vD, hk, rfl, HQ, HBt, HLn⟩ := hrel
    by_cases hkl : k < L.mods.length
    · have hkl' : (k : Int) < (L.mods.length : Int) := by omega
      obtain ⟨gM, x, haM, hgM1, hgM2, hcM0, hcM1, hMo⟩ := HV.out.mod hkl
      have haM' : aM = some ⟨gM, 0, none⟩ := HaM.out.trans haM
      subst haM'
      obtain ⟨ia, il, ic, da, dl, dc⟩ := x
      obtain ⟨hil, hdl, hb1, hb2, hri, hrd⟩ := hMo
      simp only at hil hdl hri hrd hcM0 hcM1
      have HGd := hideP (HV.out.good _ (List.getElem_mem hkl))
      have hst := cyclesV_snoc L.num rch L.mods[k] (L.mods.take k) 0 []
      rw [List.take_append_getElem hkl, List.length_take, Nat.min_eq_left (by omega), Nat.zero_add] at hst
      have q0 : wr.cell? ⟨gM, k * 2, none⟩ = some (.slice ia il ic) := (stay_cell HQ.out.st (by omega) hgM2).trans hcM0
      have q1 : wr.cell? ⟨gM, k * 2 + 1, none⟩ = some (.slice da dl dc) := (stay_cell HQ.out.st (by omega) hgM2).trans hcM1
      obtain ⟨o, ho⟩ : ∃ o, o = L.mods[k] := ⟨_, rfl⟩
      rw [<- ho] at hil hdl hb1 hb2 hri hrd HGd hst
      subst hil hdl
      have HSt := hideP hst
      have HRi := hideP hri
      obtain ⟨ds, hds⟩ : ∃ x, x = cyclesV L.num rch 0 (L.mods.take k) [] := ⟨_, rfl⟩
      rw [<- hds] at HQ HLn HSt
      have hzi : ((o.is.length : Int) <= 9223372036854775807) := by omega
      have HQ2 := hideP (HQ.out.below (bl_alloc wr (modO' ia o.is.length ic da o.ds.length dc)))
      have HB2 : Hid (BitsAt (wr.alloc (modO' ia o.is.length ic da o.ds.length dc)) rb L.mods.length G) := HBt.out.block (Below.heap_alloc _ _ _ HBt.out.lt)
      clear hri hrd hcM0 hcM1 ho hst hds
      go_wp2_with fail
      clear q0 q1
      go_loopw [23] (fun i w2 => ∃ (k2 : Nat) (vD' : Value), k2 <= o.is.length /\ i = .int .i64 k2 /\ Hid (Q4 kb nb L r vS c3 c4 c5 w w2 vD' (cycV L.num rch k (o.is.take k2) ds)) /\ Hid (BitsAt w2 rb L.mods.length G) /\ Hid ((cycV L.num rch k (o.is.take k2) ds).length <= ds.length + k2)) (fun i _ => o.is.length - (intOf i).toNat)
      case atStart => exact ⟨0, vD, by omega, rfl, HQ2.out, HB2.out, Nat.le_refl _⟩
      case round =>
        obtain ⟨k2, vD', hk2, rfl, HQi, HBi, HLi⟩ := hrel
        by_cases hk2l : k2 < o.is.length
        · have hk2l' : (k2 : Int) < (o.is.length : Int) := by omega
          obtain ⟨gi, hia, hgi1, hgi2, c, _, hci, na, nc, rfl, hnl, hnf⟩ := rowQ_at HRi.out hk2l
          subst hia
          have HIG := hideP (HGd.out.1 _ (List.getElem_mem hk2l))
          have hsi := cycV_snoc L.num rch k o.is[k2] (o.is.take k2) ds
          rw [List.take_append_getElem hk2l] at hsi
          obtain ⟨I, hI⟩ : ∃ I, I = o.is[k2] := ⟨_, rfl⟩
          rw [<- hI] at hci HIG hsi
          have t0 : wr.cell? ⟨gi, k2 * 4, none⟩ = some (.string ⟨I.fr.toArray⟩) := (stay_cell HQi.out.st (by omega) hgi2).trans (hci 0 (by omega))
          have t1 : wr.cell? ⟨gi, k2 * 4 + 1, none⟩ = some (.slice na I.ns.length nc) := (stay_cell HQi.out.st (by omega) hgi2).trans (hci 1 (by omega))
          have t2 : wr.cell? ⟨gi, k2 * 4 + 2, none⟩ = some (.int .i64 I.li) := (stay_cell HQi.out.st (by omega) hgi2).trans (hci 2 (by omega))
          have t3 : wr.cell? ⟨gi, k2 * 4 + 3, none⟩ = some (.int .i64 I.co) := (stay_cell HQi.out.st (by omega) hgi2).trans (hci 3 (by omega))
          have hS : (⟨I.fr.toArray⟩ : ByteArray).size <= maxLen := by have := HIG.out.1; simp [ByteArray.size]; unfold maxLen; omega
          have htn := HV.out.numOf_lt (by omega) I.fr
          have HQj := hideP (HQi.out.below (below_next (bl_alloc wr (impO' I na nc)) (Below.refl _ _).drew))
          have hlk := num_look1 ((HV.out.stay HQj.out.st).num) ⟨I.fr.toArray⟩ hS
          rw [show (⟨I.fr.toArray⟩ : ByteArray).data.toList = I.fr by simp] at hlk
          obtain ⟨t, ht⟩ : ∃ t, t = numOf L.num I.fr := ⟨_, rfl⟩
          rw [show (look L.num I.fr).getD 0 = t from ht.symm] at hlk
          rw [<- ht, <- HGr.out t k] at hsi
          rw [<- ht] at htn
          have HBj : Hid (BitsAt (wr.alloc (impO' I na nc)).drew rb L.mods.length G) := HBi.out.block (Below.heap_alloc _ _ _ HBi.out.lt)
          obtain ⟨hbc, _⟩ := HBj.out.cell htn (by omega : k < 16)
          obtain ⟨⟨_, _, _, _, _, _, p6, _⟩, _, hkbl⟩ := box9 HQj.out.box
          obtain ⟨⟨i0, i1, i2, i3⟩, _, _⟩ := res_facts (show (wr.alloc (impO' I na nc)).drew.heap[wr.heap.size]? = some (impO' I na nc) from heap_alloc_last _ _)
          have htz : (t : Int) < (L.mods.length : Int) := by omega
          have hkz : (k : Int) < 16 := by omega
          obtain ⟨ds', hds'⟩ : ∃ x, x = cycV L.num rch k (o.is.take k2) ds := ⟨_, rfl⟩
          rw [<- hds'] at HQi HQj HLi hsi
          have HSi := hideP hsi
          clear hci hnf hsi hI ht hds'
          go_wp2_with fail
          cases hx : G t k with
          | true =>
            rw [hx] at hbc HSi
            rw [if_pos rfl] at HSi
            apply once0 (wr.alloc (impO' I na nc)).drew
            · go_region
              all_goals exact ⟨rfl, rfl⟩
            · clear hlk hx hbc
              go_wp2_with fail
              refine (tell4 HQj.out ⟨k, I.li, I.co, 13⟩ (by have := HLi.out; have := HLn.out; omega)).mono ?_
              rintro e w3 ⟨rfl, vD3, h2, h3⟩
              have H2 := hideP h2
              have H3 := hideP (h3 rb _ _ (by omega) HBj.out)
              clear h2 h3
              go_wp2_with fail
              go_roundw
              case rel =>
                refine ⟨k2 + 1, vD3, by omega, by go_num, ?_, H3.out, ?_⟩
                · show Q4 _ _ _ _ _ _ _ _ _ _ _ _
                  rw [HSi.out]
                  exact H2.out
                · show _ <= _
                  rw [HSi.out]
                  have := HLi.out
                  simp
                  omega
              case measure => simp [intOf]; omega
          | false =>
            rw [hx] at hbc HSi
            rw [if_neg (by simp)] at HSi
            apply once0 (wr.alloc (impO' I na nc)).drew
            · go_region
              all_goals exact ⟨rfl, rfl⟩
            · clear hlk hx hbc
              go_wp2_with fail
              go_roundw
              case rel =>
                refine ⟨k2 + 1, vD', by omega, by go_num, ?_, HBj.out, ?_⟩
                · show Q4 _ _ _ _ _ _ _ _ _ _ _ _
                  rw [HSi.out]
                  exact HQj.out
                · show _ <= _
                  rw [HSi.out]
                  have := HLi.out
                  omega
              case measure => simp [intOf]; omega
        · have hk2l' : ¬ (k2 : Int) < (o.is.length : Int) := by omega
          have e : o.is.take k2 = o.is := List.take_of_length_le (by omega)
          rw [e] at HQi HLi
          go_wp2_with fail
          go_roundw
          case rel =>
            refine ⟨k + 1, vD', by omega, by go_num, ?_, HBi.out, ?_⟩
            · show Q4 _ _ _ _ _ _ _ _ _ _ _ _
              rw [HSt.out]
              exact HQi.out
            · show _ <= _
              rw [HSt.out]
              have := HLi.out
              have := HLn.out
              omega
          case measure => simp [intOf]; omega
    · have hkl' : ¬ (k : Int) < (L.mods.length : Int) := by omega
      have e : L.mods.take k = L.mods := List.take_of_length_le (by omega)
      rw [e] at HQ
      go_wp2_with fail
      exact bodyPost_end (results_none rfl _ _ _) rfl ⟨rfl, vD, HQ.out⟩
end Go.Proofs.YtgblonhfidoleaaDoor
