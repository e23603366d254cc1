/- Part of the proof of TreeNormal: the texts that follow, in build order. -/
import Derived.Test.YtmpcjcjacpjilabGreatDoorPart4
import Derived.Test.YtmpcjcjacpjilabGreatDoorPart10
import Derived.Test.YtmpcjcjacpjilabGreatDoorPart5
import Derived.Deep.RegionHeld
import Derived.Test.YtmpcjcjacpjilabGreatDoorPart3
import Derived.Test.YtmpcjcjacpjilabGreatDoorPart9

/- The keys by which tree.nextLevel tells lists from one another: as those of types. -/
namespace Go.Proofs.YtmpcjcjacpjilabGreatDoor
open Go.RowKit

theorem stretch_fields : Tryz.prog.underlying 117 = some (.struct (Tryz.prog.fieldsOf 117)) := by kernel_rfl
theorem stretch_held : Tryz.prog.stoodInHeld 117 = false := by kernel_rfl

theorem run_eq_stretch (d : Nat) {w : World} {a b : Addr} {m l : Nat} (ha : GoodA w a) (hb : GoodA w b) :
    ∃ r n, (Op.equalIn (d + 2) 117 (keyV a m) (keyV b l)).run Tryz.prog w = .ok r (w.drewN n) ∧ ((a = b ∧ m = l) → r = true) ∧ (PlainA w a → PlainA w b → (r = true → a = b ∧ m = l)) := by
  obtain ⟨r, n, h, h1, h2⟩ := run_sameAddr_any (P := Tryz.prog) ha hb
  unfold keyV
  rw [run_equalIn_struct _ _ _ _ _ stretch_fields stretch_held]
  simp only [Program.fieldsOf, Tryz.underlying117, Op.eqFields, ne_eq]
  simp only [show ¬ ("first" = "_") by decide, show ¬ ("length" = "_") by decide, not_false_eq_true, if_true, Sem.run_bind]
  simp only [part_ptr _ _ a (show (#[Value.pointer (some a), .int .i64 m] : Array Value)[0]? = _ from rfl), part_ptr _ _ b (show (#[Value.pointer (some b), .int .i64 l] : Array Value)[0]? = _ from rfl), Result.andThen_ok, run_eq_ptr, h]
  cases r
  · refine ⟨false, n, by simp, fun e => ?_, fun _ _ e => by cases e⟩
    exact absurd (h1 e.1) (by decide)
  · refine ⟨m == l, n, ?_, fun e => by simp [e.2], fun p1 p2 e => ⟨h2 p1 p2 rfl, by simpa using e⟩⟩
    simp [part_len _ _ m (show (#[Value.pointer (some a), .int .i64 m] : Array Value)[1]? = _ from rfl), part_len _ _ l (show (#[Value.pointer (some b), .int .i64 l] : Array Value)[1]? = _ from rfl), run_eq_int]
    by_cases hml : m = l <;> simp [hml]

theorem stretch_ok : KeyOK 117 GoodK PlainK where
  eq w x y hx hy := by
    obtain ⟨a, m, rfl, ha⟩ := hx
    obtain ⟨b, l, rfl, hb⟩ := hy
    obtain ⟨r, n, h, h1, h2⟩ := run_eq_stretch 9998 (m := m) (l := l) ha hb
    refine ⟨r, n, h, fun e => h1 (keyV_inj e), fun p1 p2 e => ?_⟩
    obtain ⟨a', m', e1, p1⟩ := p1
    obtain ⟨b', l', e2, p2⟩ := p2
    obtain ⟨rfl, rfl⟩ := keyV_inj e1
    obtain ⟨rfl, rfl⟩ := keyV_inj e2
    obtain ⟨rfl, rfl⟩ := h2 p1 p2 e
    rfl
  check w em x hx := by
    obtain ⟨a, m, rfl, ha⟩ := hx
    kernel_rfl
  drew w n x hx := hx
  drewP w n x hx := hx
  now w x y hx := by
    obtain ⟨a, m, rfl, ha⟩ := hx
    exact ⟨_, Tryz.underlying117, rfl⟩
end Go.Proofs.YtmpcjcjacpjilabGreatDoor

/- tree.nextLevel over types, by a contract. -/
namespace Go.Proofs.YtmpcjcjacpjilabGreatDoor
open Go.RowKit

set_option maxHeartbeats 4000000 in
set_option maxRecDepth 100000 in
theorem trNext_c (u : Bool) (n : Nat) (qs : List (Value × List Ty)) (a : Option Addr) (c : Nat) (w : World) (hr : RowAt w a (qs.map (·.1))) (hq : ∀ q ∈ qs, LstAt w u (n + 1) q.1 q.2) (ht : totL (n + 1) qs ≤ 1000) :
    Calls Tryz.prog 53 #[.slice a qs.length c, kidsF] w (NextPost w u n (qs.map (·.2)).flatten) := by
  have hql : qs.length ≤ 1000 := Nat.le_trans (tot_len hq) ht
  obtain ⟨i0, hi, hz0, hz1, hz2⟩ := info_parts info_lst
  have hmm := @run_makeMap Tryz.prog
  have HR := hideP hr
  have HQ := hideP hq
  have HTT := hideP ht
  clear hr hq ht
  go_enter Tryz.func53, Tryz.ntmps53
  go_wp2_with fail
  go_loopw [5, 18] (fun v i wr => ∃ (j : Nat) (ps : List (Value × List Ty)) (vs : List Value), i = .int .i64 j ∧ j ≤ qs.length ∧ Hid (Lev w wr u n v ((qs.map (·.2)).take j).flatten ps vs)) (fun _ i _ => qs.length - (intOf i).toNat)
  case atStart =>
    refine ⟨0, [], [], rfl, Nat.zero_le _, ?_⟩
    refine ⟨bl_alloc _ _, set_made w, World.ownsRow_nil .., by simp, by simp, by simp, ?_, ?_⟩
    · simp [totL]
    · simp
  case round =>
    obtain ⟨j, ps, vs, rfl, hj, hL⟩ := hrel
    by_cases hlt : j < qs.length
    · have hjl : (j : Int) < (qs.length : Int) := by omega
      have hr0 : ∃ b o, a = some ⟨b, o, none⟩ ∧ b < w.heap.size ∧ w.cell? ⟨b, o + j, none⟩ = some qs[j].1 := by
        rcases HR.out with h0 | ⟨b, o, e, hb, hc⟩
        · have := congrArg List.length h0
          rw [List.length_map, List.length_nil] at this
          omega
        · have := hc j (by simpa using hlt)
          rw [List.getElem_map] at this
          exact ⟨b, o, e, hb, this⟩
      obtain ⟨b, o, rfl, hbl, hcj⟩ := hr0
      have hls := HQ.out qs[j] (List.getElem_mem hlt)
      obtain ⟨b1, o1, c1, e1, hne, hll, hkids⟩ := hls
      have hll' : qs[j].2.length ≤ 140737488351232 := hll
      rw [e1] at hcj
      have hcr := (hL.out.bl.cell (p := ⟨b, o + j, none⟩) hbl).trans hcj
      obtain ⟨Ds, hDs⟩ : ∃ Ds, Ds = qs[j].2 := ⟨_, rfl⟩
      rw [← hDs] at hcr hll' hkids hne
      have hDM : Hid (Ds = qs[j].2) := hDs
      have HK := hideP hkids
      have HNE := hideP hne
      clear hcj e1 hkids hll hDs hne
      go_wp2_with fail
      go_loopw [5, 24] (fun v i wr => ∃ (k : Nat) (ps : List (Value × List Ty)) (vs : List Value), i = .int .i64 k ∧ k ≤ Ds.length ∧ Hid (Lev w wr u n v (((qs.map (·.2)).take j).flatten ++ Ds.take k) ps vs)) (fun _ i _ => Ds.length - (intOf i).toNat)
      case atStart => exact ⟨0, ps, vs, rfl, Nat.zero_le _, by simpa using hL⟩
      case round =>
        obtain ⟨k, ps, vs, rfl, hk, hL⟩ := hrel
        by_cases hkt : k < Ds.length
        · have hkl : (k : Int) < (Ds.length : Int) := by omega
          obtain ⟨_, _, k', nm', na', nl', nc', la', ll', lc', e2, hbl1, q0, q1, q2, q3, hty⟩ := kid_at HK.out hkt
          injection e2 with e2
          injection e2 with e3 e4
          subst e3 e4
          have r0 := (hL.out.bl.cell (p := ⟨b1, o1 + k * 4, none⟩) hbl1).trans q0
          have r1 := (hL.out.bl.cell (p := ⟨b1, o1 + k * 4 + 1, none⟩) hbl1).trans q1
          have r2 := (hL.out.bl.cell (p := ⟨b1, o1 + k * 4 + 2, none⟩) hbl1).trans q2
          have r3 := (hL.out.bl.cell (p := ⟨b1, o1 + k * 4 + 3, none⟩) hbl1).trans q3
          obtain ⟨_, _, _, _, _, _, ns', ks', e5, e6, _, _, _, _, ⟨_, hkl'⟩, _, hk2⟩ := hty
          injection e5 with e5
          injection e5 with e5
          injection e5 with _ e5
          injection e5 with _ e5
          injection e5 with _ e5
          injection e5 with e5 _
          injection e5 with e7 e8 e9
          subst e7 e8 e9
          clear q0 q1 q2 q3
          by_cases hz : ks' = []
          · subst hz
            clear HK HR HQ
            have hLn := hideP (((hL.out.grow (World.grownBy_alloc _ (tyO k' nm' na' nl' nc' la' 0 lc') none)).grow (World.grownBy_alloc _ (tyO k' nm' na' nl' nc' la' 0 lc') none)).skip (D := Ds[k]) (by rw [e6]; rfl))
            clear e6 hk2 hkl'
            go_wp2_with fail
            refine (kidsOf_c _ _ _ _ _ _ _ _ _).mono ?_
            rintro e w1 ⟨rfl, rfl⟩
            go_wp2_with fail
            refine ⟨⟨k + 1, ps, vs, by go_num, by omega, ?_⟩, by simp [intOf]; omega⟩
            rw [List.take_succ_eq_append_getElem hkt, ← List.append_assoc]
            exact hLn.out
          · have hlst : LstAt w u n (.slice la' ks'.length lc') (kidsT Ds[k]) := by
              rw [e6]
              rcases hk2 with h0 | ⟨b2, o2, rfl, h3⟩
              · exact absurd h0 hz
              · exact ⟨b2, o2, lc', rfl, hz, hkl', .inr ⟨b2, o2, rfl, h3⟩⟩
            obtain ⟨b2, o2, _, e7, hbl2, hgood, hplain, _, _⟩ := hlst.good
            injection e7 with e7 e8 e9
            subst e7
            have hkl2 : ks'.length ≤ 140737488351232 := hkl'
            have hk1 : 1 ≤ ks'.length := List.length_pos_iff.2 hz
            have hzk : ((ks'.length : Int) == 0) = false := by rw [beq_eq_false_iff_ne]; omega
            have HLST := hideP hlst
            have HGD := hideP ((((hgood.below hL.out.bl).below (bl_alloc wr (tyO k' nm' na' nl' nc' (some ⟨b2, o2, none⟩) ks'.length lc'))).below (bl_alloc _ (tyO k' nm' na' nl' nc' (some ⟨b2, o2, none⟩) ks'.length lc'))).below (bl_alloc _ (.cells #[.pointer (some ⟨b2, o2, none⟩), .int .i64 ks'.length] 117)))
            have HL1 := hideP (((hL.out.grow (World.grownBy_alloc _ (tyO k' nm' na' nl' nc' (some ⟨b2, o2, none⟩) ks'.length lc') none)).grow (World.grownBy_alloc _ (tyO k' nm' na' nl' nc' (some ⟨b2, o2, none⟩) ks'.length lc') none)).grow (World.grownBy_alloc _ (.cells #[.pointer (some ⟨b2, o2, none⟩), .int .i64 ks'.length] 117) none))
            clear e6 e8 e9 hk2 hkl' HK HR HQ hlst hgood hplain hz
            go_wp2_with fail
            refine (kidsOf_c _ _ _ _ _ _ _ _ _).mono ?_
            rintro e w1 ⟨rfl, rfl⟩
            have htl : ps.length ≤ 1000 := by
              have h1 := tot_len HL1.out.ls
              have h2 := HL1.out.tt
              have h3 : ((((qs.map (·.2)).take j).flatten ++ Ds.take k).map (sizeT (n + 1))).sum ≤ totL (n + 1) qs := by
                rw [hDM.out]
                exact done_le qs j k hlt
              have := HTT.out
              omega
            go_wp2_with (first | (at_lookup; refine wpList_set_look rfl _ _ 115 rfl stretch_ok Tryz.underlying115 unit_zero w.heap.size vs rfl HL1.out.st _ rfl ⟨_, _, rfl, HGD.out⟩ HL1.out.goodK ?_; intro r nd hno hyes; have HL2 := hideP ((HL1.out.grow (grown_drewN _ nd none)).grow (World.grownBy_alloc _ (.cells #[] 61) none)); have HGD2 := hideP ((HGD.out.drew nd).below (bl_alloc _ (.cells #[] 61))); have HYES := hideP hyes; clear hno hyes) | (at_mapUpdate; refine wpList_set_store rfl _ _ _ 115 rfl stretch_ok Tryz.underlying115 w.heap.size vs rfl HL2.out.st _ rfl rfl ⟨_, _, rfl, HGD2.out⟩ HL2.out.goodK ?_; intro w3 vs' hst hgr hsub hall; have HST := hideP hst; have HGR := hideP hgr; have HSUB := hideP hsub; have HOW := hideP (own_up HL2.out hgr); have hs3 : w.heap.size + 1 ≤ w3.heap.size := Nat.le_trans HL2.out.sz hgr.size; clear hst hgr hsub hall) | (at_builtin; refine wpList_append_own _ rfl (.tmp 50) (.tmp 52) 42 rfl (w.heap.size + 1) 23 i0 _ 1 24 Tryz.underlying42 hi hz0 hz1 hz2 rfl (by decide) _ _ _ rfl (HOW.out.alloc _) ⟨_, 0, none⟩ 1 1 [.slice (some ⟨b2, o2, none⟩) ks'.length lc'] rfl rfl (one_new _ _ _) (by simp [Value.oneCell']) (by unfold maxLen; omega) (by omega) (by simp; omega) ?_; intro v' w4 hown' hgrow _; have HOWN := hideP hown'; have HGROW := hideP hgrow; clear hown' hgrow))
            · have HL5 := hideP (HL2.out.add (D := Ds[k]) HLST.out HST.out HGR.out HSUB.out HOWN.out HGROW.out)
              clear HL1 HGD HYES HL2 HGD2 HST HGR HSUB HOW HOWN HGROW
              refine ⟨⟨k + 1, ps ++ [(.slice (some ⟨b2, o2, none⟩) ks'.length lc', kidsT Ds[k])], vs', by go_num, by omega, ?_⟩, by simp [intOf]; omega⟩
              rw [List.take_succ_eq_append_getElem hkt, ← List.append_assoc]
              exact HL5.out
            · have hr : r = true := by cases r <;> simp_all
              have HL3 := hideP (((HL1.out.had (D := Ds[k]) HLST.out (HYES.out hr)).grow (grown_drewN _ nd none)).grow (World.grownBy_alloc _ (.cells #[] 61) none))
              clear HL1 HGD HYES HL2 HGD2
              refine ⟨⟨k + 1, ps, vs, by go_num, by omega, ?_⟩, by simp [intOf]; omega⟩
              rw [List.take_succ_eq_append_getElem hkt, ← List.append_assoc]
              exact HL3.out
        · have hkl : ¬ (k : Int) < (Ds.length : Int) := by omega
          clear HK HR HQ
          go_wp2_with fail
          refine ⟨⟨j + 1, ps, vs, by go_num, by omega, ?_⟩, by simp [intOf]; omega⟩
          rw [flat_take _ _ (by simpa using hlt), List.getElem_map]
          have := hL.out
          rw [List.take_of_length_le (l := Ds) (by omega), hDM.out] at this
          exact this
    · have hjl : ¬ (j : Int) < (qs.length : Int) := by omega
      clear HR HQ
      go_wp2_with fail
      go_ret
      have := hL.out
      rw [List.take_of_length_le (by simp; omega)] at this
      exact ⟨_, ps, vs, rfl, this⟩
end Go.Proofs.YtmpcjcjacpjilabGreatDoor

/- tree.everyPart over types, tree.isWritten, by contracts: of normal types in rows that bear no mark. -/
namespace Go.Proofs.YtmpcjcjacpjilabGreatDoor
open Go.RowKit

theorem lst_forget {w : World} {u : Bool} {n : Nat} {x : Value} {ks : List Ty} (h : LstAt w u n x ks) : LstAt w false n x ks := by
  obtain ⟨b, o, c, h1, h2, h3, h4⟩ := h
  refine ⟨b, o, c, h1, h2, h3, ?_⟩
  rcases h4 with h4 | ⟨b', o', e, hlt, hf, _, hc⟩
  · exact .inl h4
  · refine .inr ⟨b', o', e, hlt, hf, fun h => (by cases h), fun i hi => ?_⟩
    obtain ⟨c0, c1, c2, c3, q0, q1, q2, q3, ht⟩ := hc i hi
    exact ⟨c0, c1, c2, c3, q0, q1, q2, q3, ty_forget ht⟩

/-- What every part of a normal type within a level is. -/
def LevN (m : Nat) (ps : List (Value × List Ty)) : Prop := ∀ p ∈ ps, ∀ x ∈ p.2, NormT m x

set_option maxHeartbeats 4000000 in
set_option maxRecDepth 100000 in
theorem everyPart_c (n : Nat) (k : Int) (nm : ByteArray) (na : Option Addr) (nl nc : Nat) (ka : Option Addr) (kl kc : Nat) (D : Ty) (w : World) (h : TyAt w true (n + 1) (.agg #[.int .i64 k, .string nm, .slice na nl nc, .slice ka kl kc]) D) (hs : sizeT (n + 1) D ≤ 1000) (hn : NormT (n + 1) D) (hw : Words w) (hf : Forms w) :
    Calls Tryz.prog 24 #[.agg #[.int .i64 k, .string nm, .slice na nl nc, .slice ka kl kc], .int .i64 16, kidsF, fitsF] w fun e w' => e = .returned (.bool (decide (heightT (n + 1) D ≤ 16))) ∧ Below w.heap.size w w' := by
  have hb1 := below_next (bl_alloc w (tyO k nm na nl nc ka kl kc)) (bl_alloc _ (.cells #[fitsF] 32))
  have hlv := first_level (B := w.heap.size + 1 + 1) (by simp) (ty_below h hb1) hs
  have hb2 := below_next (below_next hb1 (bl_alloc _ (tyO k nm na nl nc ka kl kc))) (bl_alloc _ (.cells #[.slice (some ⟨w.heap.size + 1 + 1, 0, none⟩) 1 1] 23))
  obtain ⟨W, hW⟩ : ∃ W, W = (((w.alloc (tyO k nm na nl nc ka kl kc)).alloc (.cells #[fitsF] 32)).alloc (tyO k nm na nl nc ka kl kc)).alloc (.cells #[.slice (some ⟨w.heap.size + 1 + 1, 0, none⟩) 1 1] 23) := ⟨_, rfl⟩
  have hxb : W.heap[w.heap.size + 1]? = some (.cells #[fitsF] 32) := by
    rw [hW, Below.heap_alloc _ _ _ (by simp), Below.heap_alloc _ _ _ (by simp)]
    exact heap_at1 w _ _
  rw [← hW] at hlv hb2
  have HLV := hideP hlv
  have HB2 := hideP hb2
  have HXB := hideP hxb
  have HWW := hideP hW
  have HW := hideP hw
  have HF := hideP hf
  have HN := hideP hn
  have HI : Hid (hiL (n + 1) [(Value.slice (some ⟨w.heap.size + 1 + 1, 0, none⟩) 1 1, [D])] + 0 = heightT (n + 1) D) := by
    show _ = _
    simp [hiL, maxL]
  clear hb1 hlv hb2 hxb hW hw hf hn h hs
  go_enter Tryz.func24, Tryz.ntmps24
  go_wp2_with fail
  go_loopw [9, 10] (fun l s wr => ∃ (h m : Nat) (ps : List (Value × List Ty)), s = .int .i64 h ∧ h ≤ 16 ∧ Hid (LevelAt wr true m l ps) ∧ Hid (hiL m ps + h = heightT (n + 1) D) ∧ Hid (LevN m ps) ∧ Hid (Below W.heap.size W wr)) (fun _ s _ => 17 - (intOf s).toNat)
  case atStart =>
    refine ⟨0, n + 1, _, rfl, by omega, by show LevelAt _ _ _ _ _; rw [← HWW.out]; exact HLV.out, HI, ?_, by show Below _ _ _; rw [← HWW.out]; exact Below.refl _ _⟩
    intro p hp x hx
    rw [List.mem_singleton.1 hp] at hx
    rw [List.mem_singleton.1 hx]
    exact HN.out
  case round =>
    obtain ⟨h, m, ps, rfl, h2, hlv, hhi, hnn, hb⟩ := hrel
    have hlv' := hlv.out
    obtain ⟨a, c, rfl, hrow, hls, htot⟩ := hlv'
    have htl : ps.length ≤ 1000 := Nat.le_trans (tot_len hls) htot
    have HLS := hideP hls
    have HT := hideP htot
    have HR := hideP hrow
    have HBW := hideP (below_next HB2.out hb.out)
    have hxr := (hb.out.block _ (lt_of_block HXB.out)).trans HXB.out
    clear hrow hls htot
    by_cases hz : ps = []
    · subst hz
      have hd : decide (heightT (n + 1) D ≤ 16) = true := by
        have := hhi.out
        simp [hiL, maxL] at this
        rw [decide_eq_true_iff]
        omega
      clear hlv HLS hxr
      go_wp2_with fail
      go_ret
      rw [hd]
      exact ⟨rfl, HBW.out⟩
    · have hp : 1 ≤ ps.length := List.length_pos_iff.2 hz
      have hpi : (0 : Int) < (ps.length : Int) := by omega
      by_cases hh : h = 16
      · subst hh
        have hd : decide (heightT (n + 1) D ≤ 16) = false := by
          have h1 := hhi.out
          have h3 := hiL_pos HLS.out hz
          rw [decide_eq_false_iff_not]
          omega
        clear hlv hz hxr
        go_wp2_with fail
        go_ret
        rw [hd]
        exact ⟨rfl, HBW.out⟩
      · have h16 : h < 16 := by omega
        have hhe : ((h : Int) == 16) = false := by rw [beq_eq_false_iff_ne]; omega
        cases m with
        | zero => exact absurd (next_zero true _ _ _ hlv.out) hz
        | succ m =>
          have hcx : wr.cell? ⟨w.heap.size + 1, 0, none⟩ = some fitsF := by rw [cell_of_row _ _ _ _ _ _ hxr]; rfl
          have HC1 := hideP (allLists_c m (w.heap.size + 1) a c ps wr hcx (HW.out.below HBW.out) (HF.out.below HBW.out) HR.out (fun q hq => lst_forget (HLS.out q hq)) (by omega) hnn.out)
          have HNE := hideP (flat_ne HLS.out hz)
          clear hlv hz hh hxr hcx
          go_wp2_with fail
          refine HC1.out.mono ?_
          rintro e w1 ⟨rfl, hb1⟩
          have hb1' := below_next hb.out hb1
          have hr1 : RowAt w1 a (ps.map (·.1)) := by
            rcases HR.out with h0 | ⟨b, o, e, hbb, hc⟩
            · exact .inl h0
            · exact .inr ⟨b, o, e, Nat.lt_of_lt_of_le hbb hb1.size, fun i hi => (hb1.cell (p := ⟨b, o + i, none⟩) hbb).trans (hc i hi)⟩
          have HC2 := hideP (trNext_c true m ps a c w1 hr1 (fun q hq => lst_below (HLS.out q hq) hb1) HT.out)
          have HB1 := hideP hb1'
          clear hb1 hb1' hr1
          go_wp2_with fail
          refine HC2.out.mono ?_
          rintro e w2 ⟨v2, ps2, vs2, rfl, hlev⟩
          have HLV2 := hideP (level_of_lev hlev (by rw [tot_flat]; exact HT.out))
          have HB3 := hideP (below_next HB1.out hlev.bl)
          have HI2 : Hid (hiL m ps2 + (h + 1) = heightT (n + 1) D) := by
            show _ = _
            have h1 := hhi.out
            have h3 := lev_height hlev HNE.out
            rw [← hiL_flat] at h3
            omega
          have HN2 : Hid (LevN m ps2) := by
            intro p hp x hx
            obtain ⟨D', hD', e⟩ := hlev.fr p hp
            rw [e] at hx
            obtain ⟨L, hL, hDL⟩ := List.mem_flatten.1 hD'
            obtain ⟨q, hq, rfl⟩ := List.mem_map.1 hL
            exact norm_within (hnn.out q hq D' hDL) hx
          clear hlev
          go_wp2_with fail
          exact ⟨⟨h + 1, m, ps2, by go_num, by omega, HLV2, HI2, HN2, HB3⟩, by simp [intOf]; omega⟩

theorem isWritten_c (n : Nat) (v : Value) (D : Ty) (w : World) (h : TyAt w true (n + 1) v D) (hs : sizeT (n + 1) D ≤ 1000) (hn : NormT (n + 1) D) (hw : Words w) (hf : Forms w) :
    Calls Tryz.prog 13 #[v] w fun e w' => e = .returned (.bool (decide (heightT (n + 1) D ≤ 16))) ∧ Below w.heap.size w w' := by
  have h' := h
  obtain ⟨k, nm, na, nc, ka, kc, ns, ks, rfl, rfl, _⟩ := h
  have hb := bl_alloc w (tyO k nm na ns.length nc ka ks.length kc)
  have HC := hideP (everyPart_c n k nm na ns.length nc ka ks.length kc _ _ (ty_below h' hb) hs hn (hw.below hb) (hf.below hb))
  have HB := hideP hb
  clear h' hb hw hf hn hs
  go_enter Tryz.func13, Tryz.ntmps13
  go_wp2_with fail
  refine HC.out.mono ?_
  rintro e w1 ⟨rfl, hb1⟩
  have HB1 := hideP (below_next HB.out hb1)
  clear hb1
  go_wp2_with fail
  go_ret
  exact ⟨rfl, HB1.out⟩
end Go.Proofs.YtmpcjcjacpjilabGreatDoor

/- tree.typeText by a contract, of normal types: functions, and all of them; tree.Type. -/
namespace Go.Proofs.YtmpcjcjacpjilabGreatDoor
open Go.RowKit

set_option maxHeartbeats 4000000 in
set_option maxRecDepth 100000 in
theorem text_fun (n : Nat) (ih : TextAt n) (nm : ByteArray) (na : Option Addr) (nl nc : Nat) (ka : Option Addr) (kc : Nat) (x y : Ty) (w : World) (hk : KidsAt w false n ka [x, y]) (hx : NormT n x) (hy : NormT n y) (hp : PlainT w) (hl : (showT (n + 1) false (mkT 6 [] [] [x, y])).length ≤ 1000000) :
    Calls Tryz.prog 14 #[.agg #[.int .i64 6, .string nm, .slice na nl nc, .slice ka 2 kc]] w (ShowPost w (n + 1) false (mkT 6 [] [] [x, y])) := by
  rw [show_fun, if_neg (by decide)] at hl
  obtain ⟨b, o, k1, n1, na1, nl1, nc1, la1, ll1, lc1, rfl, hbl, q0, q1, q2, q3, ht1⟩ := kid_at (i := 0) hk (by simp)
  obtain ⟨b', o', k2, n2, na2, nl2, nc2, la2, ll2, lc2, e', hbl', p0, p1, p2, p3, ht2⟩ := kid_at (i := 1) hk (by simp)
  injection e' with e'
  injection e' with e1' e2' _
  subst e1' e2'
  simp only [Nat.zero_mul, Nat.one_mul, Nat.add_zero] at q0 q1 q2 q3 p0 p1 p2 p3
  have hl1 : (showT n true x).length ≤ 999996 := by simp at hl; omega
  have hl2 : (showT n false y).length ≤ 999996 := by simp at hl; omega
  have hl3 : (showT n true x).length + 4 + (showT n false y).length ≤ 1000000 := by simp at hl; omega
  obtain ⟨W, hW⟩ : ∃ W, W = (w.alloc (tyO 6 nm na nl nc (some ⟨b, o, none⟩) 2 kc)).alloc (tyO k1 n1 na1 nl1 nc1 la1 ll1 lc1) := ⟨_, rfl⟩
  have hb : Below w.heap.size w W := by rw [hW]; exact below_next (bl_alloc _ _) (bl_alloc _ _)
  have hbx : W.heap[w.heap.size]? = some (tyO 6 nm na nl nc (some ⟨b, o, none⟩) 2 kc) := by rw [hW]; exact (Below.heap_alloc _ _ _ (by simp)).trans (heap_alloc_last w _)
  have hby : W.heap[w.heap.size + 1]? = some (tyO k1 n1 na1 nl1 nc1 la1 ll1 lc1) := by rw [hW]; exact heap_at1 w _ _
  have hk1 : kindT x = k1 := by
    obtain ⟨_, _, _, _, _, _, _, _, e, e2⟩ := ty_form ht1
    injection e with e
    injection e with e
    injection e with e _
    injection e with _ e
    rw [← e] at e2
    exact e2
  have HC1 : Hid (∀ wx, Below W.heap.size W wx → Calls Tryz.prog 29 #[.agg #[.int .i64 k1, .string n1, .slice na1 nl1 nc1, .slice la1 ll1 lc1], .bool (k1 == 6)] wx fun e w' => (∃ s : ByteArray, e = .returned (.string s) ∧ s.data.toList = showT n true x ∧ s.size ≤ 999996) ∧ Below W.heap.size W w') := fun wx hwx => by
    have := inBr_c n ih _ _ _ (ty_below ht1 (below_next hb hwx)) hx (hp.below (below_next hb hwx)) (by have : (showT n true x).length ≤ 1000000 := by { omega }; exact this)
    rw [show ([x, y] : List Ty)[0] = x from rfl, hk1, show decide (k1 = 6) = (k1 == 6) from rfl] at this
    exact this.mono fun e w' ⟨s, e1, e2, e3⟩ => ⟨⟨s, e1, e2, by have h : s.data.toList.length ≤ 999996 := by { rw [e2]; exact hl1 }; exact h⟩, below_next hwx e3⟩
  have HC2 : Hid (∀ wx, Below W.heap.size W wx → Calls Tryz.prog 14 #[.agg #[.int .i64 k2, .string n2, .slice na2 nl2 nc2, .slice la2 ll2 lc2]] wx fun e w' => (∃ s : ByteArray, e = .returned (.string s) ∧ s.data.toList = showT n false y ∧ s.size ≤ 999996) ∧ Below W.heap.size W w') := fun wx hwx =>
    (ih _ _ _ (ty_below ht2 (below_next hb hwx)) hy (hp.below (below_next hb hwx)) (by have : (showT n false y).length ≤ 1000000 := by { omega }; exact this)).mono fun e w' ⟨s, e1, e2, e3⟩ => ⟨⟨s, e1, e2, by have h : s.data.toList.length ≤ 999996 := by { rw [e2]; exact hl2 }; exact h⟩, below_next hwx e3⟩
  have HCELL : Hid (∀ wx, Below W.heap.size W wx → (wx.cell? ⟨w.heap.size + 1, 0, none⟩ = some (.int .i64 k1) ∧ wx.cell? ⟨w.heap.size + 1, 1, none⟩ = some (.string n1) ∧ wx.cell? ⟨w.heap.size + 1, 2, none⟩ = some (.slice na1 nl1 nc1) ∧ wx.cell? ⟨w.heap.size + 1, 3, none⟩ = some (.slice la1 ll1 lc1) ∧ wx.cell? ⟨w.heap.size, 3, none⟩ = some (.slice (some ⟨b, o, none⟩) 2 kc) ∧ wx.cell? ⟨b, o + 4, none⟩ = some (.int .i64 k2) ∧ wx.cell? ⟨b, o + 4 + 1, none⟩ = some (.string n2) ∧ wx.cell? ⟨b, o + 4 + 2, none⟩ = some (.slice na2 nl2 nc2) ∧ wx.cell? ⟨b, o + 4 + 3, none⟩ = some (.slice la2 ll2 lc2))) := fun wx hwx => by
    have hB := below_next hb hwx
    obtain ⟨y0, y1, y2, y3⟩ := (res_facts ((hwx.block _ (lt_of_block hby)).trans hby)).1
    exact ⟨y0, y1, y2, y3, (res_facts ((hwx.block _ (lt_of_block hbx)).trans hbx)).1.2.2.2, (hB.cell (p := ⟨b, o + 4, none⟩) hbl).trans p0, (hB.cell (p := ⟨b, o + 4 + 1, none⟩) hbl).trans p1, (hB.cell (p := ⟨b, o + 4 + 2, none⟩) hbl).trans p2, (hB.cell (p := ⟨b, o + 4 + 3, none⟩) hbl).trans p3⟩
  have hS0 := HCELL.out W.drew (Below.refl _ _).drew
  have HB := hideP hb
  subst hW
  clear hl hb hp ht1 ht2 hy hx hk ih hbx hby hl1 hl2
  have HL3 := hideP hl3
  clear hl3
  go_enter Tryz.func14, Tryz.ntmps14
  go_wp2_with fail
  go_region_held (fun W => W.cell? ⟨w.heap.size + 1, 0, none⟩ = some (.int .i64 k1) ∧ W.cell? ⟨w.heap.size + 1, 1, none⟩ = some (.string n1) ∧ W.cell? ⟨w.heap.size + 1, 2, none⟩ = some (.slice na1 nl1 nc1) ∧ W.cell? ⟨w.heap.size + 1, 3, none⟩ = some (.slice la1 ll1 lc1) ∧ W.cell? ⟨w.heap.size, 3, none⟩ = some (.slice (some ⟨b, o, none⟩) 2 kc) ∧ W.cell? ⟨b, o + 4, none⟩ = some (.int .i64 k2) ∧ W.cell? ⟨b, o + 4 + 1, none⟩ = some (.string n2) ∧ W.cell? ⟨b, o + 4 + 2, none⟩ = some (.slice na2 nl2 nc2) ∧ W.cell? ⟨b, o + 4 + 3, none⟩ = some (.slice la2 ll2 lc2)) (assumption) (first
    | (go_at_call 29; refine (HC1.out _ (by first | exact Below.refl _ _ | exact below_drewN (Below.refl _ _) _ | exact (Below.refl _ _).drew)).mono ?_; rintro e w1 ⟨⟨s1, rfl, hs1, hz1⟩, hb1⟩; have t0 := HCELL.out _ hb1; have HS1 := hideP hs1; have HB1 := hideP hb1; clear hs1 hb1)
    | (go_at_call 14; refine (HC2.out _ (by first | exact HB1.out | exact below_drewN HB1.out _ | exact HB1.out.drew)).mono ?_; rintro e w2 ⟨⟨s3, rfl, hs3, hz3⟩, hb3⟩; have t3 := HCELL.out _ hb3; have HS3 := hideP hs3; have HB3 := hideP hb3; clear hs3 hb3))
  all_goals go_wp2_with fail
  all_goals go_ret
  all_goals refine ⟨_, rfl, ?_, below_next HB.out HB3.out⟩
  all_goals
    rw [show_fun, if_neg (by decide), ← HS1.out, ← HS3.out]
    simp [ByteArray.data_append]

theorem rise6 {ks : List Ty} (hp : ks.Pairwise fun a b => kindT a < kindT b) (hk : ∀ x ∈ ks, 1 ≤ kindT x ∧ kindT x ≤ 6) : ks.length ≤ 6 := by
  have hp2 : (ks.map kindT).Pairwise (· < ·) := by rw [List.pairwise_map]; exact hp
  have hnd : (ks.map kindT).Nodup := hp2.imp fun h e => by omega
  have hsub : (ks.map kindT) ⊆ [1, 2, 3, 4, 5, 6] := fun z hz => by
    obtain ⟨x, hx1, rfl⟩ := List.mem_map.1 hz
    have := hk x hx1
    have : kindT x = 1 ∨ kindT x = 2 ∨ kindT x = 3 ∨ kindT x = 4 ∨ kindT x = 5 ∨ kindT x = 6 := by omega
    simp
    exact this
  have := List.Nodup.length_le_of_subset hnd hsub
  simpa using this

theorem text_c : ∀ n, TextAt n
  | 0 => fun _ _ _ h => h.elim
  | n + 1 => fun v D w h hn hp hl => by
    obtain ⟨k, nm, na, nc, ka, kc, ns, ks, rfl, rfl, h3, h4, h5, ⟨_, h6⟩, ⟨_, h7⟩, h8, h9⟩ := h
    rcases hn with ⟨k', h0, h4', e⟩ | ⟨ns', ks', e, hl2, h16, hnv, _, hx⟩ | ⟨x, y, e, hx, hy⟩ | ⟨ks', e, h2, hx, hpw⟩
    · obtain ⟨rfl, hnm, rfl, rfl⟩ := mkT_inj e
      rw [hnm]
      exact text_base n _ ⟨h0, h4'⟩ _ _ _ _ _ _ _ _ hp
    · obtain ⟨rfl, hnm, rfl, rfl⟩ := mkT_inj e
      rw [hnm] at hl ⊢
      exact text_rec n (text_c n) _ _ _ _ _ _ _ _ hl2 (by omega) h8 h9 hx hp hl
    · obtain ⟨rfl, hnm, rfl, rfl⟩ := mkT_inj e
      rw [hnm] at hl ⊢
      exact text_fun n (text_c n) _ _ _ _ _ _ _ _ _ h9 hx hy hp hl
    · obtain ⟨rfl, hnm, rfl, rfl⟩ := mkT_inj e
      rw [hnm] at hl ⊢
      have := rise6 hpw fun x hx1 => (hx x hx1).2
      exact text_uni n (text_c n) _ _ _ _ _ _ _ _ (by omega) h9 (fun x h => (hx x h).1) (fun x h => by have := (hx x h).2; omega) hp hl

/-- What tree.Type leaves. -/
def TtPost (w : World) (n : Nat) (D : Ty) (e : Ending) (w' : World) : Prop := (∃ s : ByteArray, e = .returned (.string s) ∧ s.data.toList = if heightT n D ≤ 16 then showT n false D else []) ∧ Below w.heap.size w w'

set_option maxHeartbeats 4000000 in
theorem trType_c (n : Nat) (v : Value) (D : Ty) (w : World) (h : TyAt w true (n + 1) v D) (hs : sizeT (n + 1) D ≤ 1000) (hn : NormT (n + 1) D) (hw : Words w) (hf : Forms w) (hp : PlainT w) (hl : (showT (n + 1) false D).length ≤ 1000000) :
    Calls Tryz.prog 7 #[v] w (TtPost w (n + 1) D) := by
  have h' := h
  obtain ⟨k, nm, na, nl, nc, ka, kl, kc, rfl, _⟩ := ty_form h
  have hb := bl_alloc w (tyO k nm na nl nc ka kl kc)
  have HC := hideP (isWritten_c n _ D _ (ty_below h' hb) hs hn (hw.below hb) (hf.below hb))
  have HBX : Hid ((w.alloc (tyO k nm na nl nc ka kl kc)).heap[w.heap.size]? = some (tyO k nm na nl nc ka kl kc)) := heap_alloc_last w _
  have HB := hideP hb
  have HT := hideP h'
  have HN := hideP hn
  have HP := hideP hp
  have HL := hideP hl
  clear h' h hb hs hn hw hf hp hl
  by_cases h16 : heightT (n + 1) D ≤ 16
  · rw [decide_eq_true h16] at HC
    have H16 := hideP h16
    clear h16
    go_enter Tryz.func7, Tryz.ntmps7
    go_wp2_with fail
    refine HC.out.mono ?_
    rintro e w1 ⟨rfl, hb1⟩
    have hb2 := below_next HB.out hb1
    have HC2 := hideP (text_c (n + 1) _ D w1 (ty_forget (ty_below HT.out hb2)) HN.out (HP.out.below hb2) HL.out)
    obtain ⟨⟨x0, x1, x2, x3⟩, _, hltx⟩ := res_facts ((hb1.block _ (lt_of_block HBX.out)).trans HBX.out)
    have HB2 := hideP hb2
    clear hb1 hb2
    go_wp2_with fail
    refine HC2.out.mono ?_
    rintro e w2 ⟨s, rfl, hs1, hb3⟩
    have HS1 := hideP hs1
    have HB3 := hideP (below_next HB2.out hb3)
    clear hs1 hb3
    go_wp2_with fail
    go_ret
    exact ⟨⟨s, rfl, by rw [if_pos H16.out]; exact HS1.out⟩, HB3.out⟩
  · rw [decide_eq_false h16] at HC
    have H16 := hideP h16
    clear h16
    go_enter Tryz.func7, Tryz.ntmps7
    go_wp2_with fail
    refine HC.out.mono ?_
    rintro e w1 ⟨rfl, hb1⟩
    have HB2 := hideP (below_next HB.out hb1)
    clear hb1
    go_wp2_with fail
    go_ret
    exact ⟨⟨⟨#[]⟩, rfl, by rw [if_neg H16.out]⟩, HB2.out⟩
end Go.Proofs.YtmpcjcjacpjilabGreatDoor

/- graduslaw04.awake by a contract. -/
namespace Go.Proofs.YtmpcjcjacpjilabGreatDoor
open Go.RowKit

theorem heap_al4 (w : World) (o : Obj) (i : Nat) : (w.alloc o).heap[i]? = if i = w.heap.size then some o else w.heap[i]? := by
  show (w.heap.push o)[i]? = _
  rw [Array.getElem?_push]
theorem size_al4 (w : World) (o : Obj) : (w.alloc o).heap.size = w.heap.size + 1 := by simp

/-- The world that the examples are built in. -/
def exW (w : World) : World := ((((((w.alloc (ndO 4 ⟨#[97]⟩ 0 none 0 0)).alloc (.cells #[.int .i64 4, .string ⟨#[97]⟩, .int .i64 0, .int .i64 0, .int .i64 0, .slice none 0 0, .slice none 0 0, .slice none 0 0, .int .i64 0, .string ⟨#[]⟩, .int .i64 5, .int .i64 0, .int .i64 0, .slice none 0 0, .slice none 0 0, .slice none 0 0] 35)).alloc (ndO 14 ⟨#[45]⟩ 0 (some ⟨w.heap.size + 1, 0, none⟩) 2 2)).alloc (.cells #[.int .i64 4, .string ⟨#[97]⟩, .int .i64 0, .int .i64 0, .int .i64 0, .slice none 0 0, .slice none 0 0, .slice none 0 0] 35)).alloc (.cells #[.int .i64 4, .string ⟨#[97]⟩, .int .i64 0, .int .i64 0, .int .i64 0, .slice none 0 0, .slice none 0 0, .slice none 0 0, .int .i64 12, .string ⟨#[]⟩, .int .i64 2, .int .i64 0, .int .i64 0, .slice none 0 0, .slice none 0 0, .slice (some ⟨w.heap.size + 1 + 1 + 1, 0, none⟩) 1 1] 35)).alloc (ndO 7 ⟨#[]⟩ 0 (some ⟨w.heap.size + 1 + 1 + 1 + 1, 0, none⟩) 2 2))

theorem row_cells8 {W : World} {B i : Nat} {cs : Array Value} {t : TypeId} {k : Nat} {tx : ByteArray} {N : Nat} {ka : Option Addr} {kl kc : Nat} (h : W.heap[B]? = some (.cells cs t)) (h0 : cs[i * 8]? = some (.int .i64 k)) (h1 : cs[i * 8 + 1]? = some (.string tx)) (h2 : cs[i * 8 + 2]? = some (.int .i64 N)) (h3 : cs[i * 8 + 3]? = some (.int .i64 0)) (h4 : cs[i * 8 + 4]? = some (.int .i64 0)) (h5 : cs[i * 8 + 5]? = some (.slice none 0 0)) (h6 : cs[i * 8 + 6]? = some (.slice none 0 0)) (h7 : cs[i * 8 + 7]? = some (.slice ka kl kc)) : NCells W B (0 + i * 8) k tx N ka kl kc := by
  rw [Nat.zero_add]
  refine ⟨?_, ?_, ?_, ?_, ?_, ?_, ?_, ?_⟩ <;> (rw [cell_of_row W B _ _ _ _ h]; assumption)

theorem leafA (W : World) (n : Nat) : NdAt W (n + 1) 4 ⟨#[97]⟩ 0 none 0 0 tA := ⟨[], rfl, rfl, by decide, by decide, by decide, by decide, by decide, .inl rfl⟩
theorem leafF (W : World) (n : Nat) : NdAt W (n + 1) 0 ⟨#[]⟩ 5 none 0 0 tF := ⟨[], rfl, rfl, by decide, by decide, by decide, by decide, by decide, .inl rfl⟩

theorem ex_world (w : World) : Below w.heap.size w (exW w) ∧ (exW w).heap[w.heap.size + 1 + 1 + 1 + 1 + 1]? = some (ndO 7 ⟨#[]⟩ 0 (some ⟨w.heap.size + 1 + 1 + 1 + 1, 0, none⟩) 2 2) ∧ NdAt (exW w) 2 14 ⟨#[45]⟩ 0 (some ⟨w.heap.size + 1, 0, none⟩) 2 2 tB ∧ NdAt (exW w) 3 7 ⟨#[]⟩ 0 (some ⟨w.heap.size + 1 + 1 + 1 + 1, 0, none⟩) 2 2 tC := by
  have h1 : (exW w).heap[w.heap.size + 1]? = some (.cells #[.int .i64 4, .string ⟨#[97]⟩, .int .i64 0, .int .i64 0, .int .i64 0, .slice none 0 0, .slice none 0 0, .slice none 0 0, .int .i64 0, .string ⟨#[]⟩, .int .i64 5, .int .i64 0, .int .i64 0, .slice none 0 0, .slice none 0 0, .slice none 0 0] 35) := (by unfold exW; simp only [heap_al4, size_al4]; (repeat first | rw [if_pos True.intro] | rw [if_pos (by omega)] | rw [if_neg (by omega)]))
  have h3 : (exW w).heap[w.heap.size + 1 + 1 + 1]? = some (.cells #[.int .i64 4, .string ⟨#[97]⟩, .int .i64 0, .int .i64 0, .int .i64 0, .slice none 0 0, .slice none 0 0, .slice none 0 0] 35) := (by unfold exW; simp only [heap_al4, size_al4]; (repeat first | rw [if_pos True.intro] | rw [if_pos (by omega)] | rw [if_neg (by omega)]))
  have h4 : (exW w).heap[w.heap.size + 1 + 1 + 1 + 1]? = some (.cells #[.int .i64 4, .string ⟨#[97]⟩, .int .i64 0, .int .i64 0, .int .i64 0, .slice none 0 0, .slice none 0 0, .slice none 0 0, .int .i64 12, .string ⟨#[]⟩, .int .i64 2, .int .i64 0, .int .i64 0, .slice none 0 0, .slice none 0 0, .slice (some ⟨w.heap.size + 1 + 1 + 1, 0, none⟩) 1 1] 35) := (by unfold exW; simp only [heap_al4, size_al4]; (repeat first | rw [if_pos True.intro] | rw [if_pos (by omega)] | rw [if_neg (by omega)]))
  have hI : NdAt (exW w) 2 12 ⟨#[]⟩ 2 (some ⟨w.heap.size + 1 + 1 + 1, 0, none⟩) 1 1 tI := by
    refine ⟨[tA], rfl, rfl, by decide, by decide, by decide, by decide, by decide, .inr ⟨_, 0, rfl, ⟨_, _, h3⟩, fun i hi => ?_⟩⟩
    obtain rfl : i = 0 := by simp at hi; omega
    exact ⟨4, ⟨#[97]⟩, 0, none, 0, 0, row_cells8 (i := 0) h3 rfl rfl rfl rfl rfl rfl rfl rfl, leafA _ 0⟩
  refine ⟨?_, (by unfold exW; simp only [heap_al4, size_al4]; (repeat first | rw [if_pos True.intro] | rw [if_pos (by omega)] | rw [if_neg (by omega)])), ?_, ?_⟩
  · unfold exW
    exact below_next (below_next (below_next (below_next (below_next (bl_alloc w _) (bl_alloc _ _)) (bl_alloc _ _)) (bl_alloc _ _)) (bl_alloc _ _)) (bl_alloc _ _)
  · refine ⟨[tA, tF], rfl, rfl, by decide, by decide, by decide, by decide, by decide, .inr ⟨_, 0, rfl, ⟨_, _, h1⟩, fun i hi => ?_⟩⟩
    have : i = 0 ∨ i = 1 := by simp at hi; omega
    rcases this with rfl | rfl
    · exact ⟨4, ⟨#[97]⟩, 0, none, 0, 0, row_cells8 (i := 0) h1 rfl rfl rfl rfl rfl rfl rfl rfl, leafA _ 0⟩
    · exact ⟨0, ⟨#[]⟩, 5, none, 0, 0, row_cells8 (i := 1) h1 rfl rfl rfl rfl rfl rfl rfl rfl, leafF _ 0⟩
  · refine ⟨[tA, tI], rfl, rfl, by decide, by decide, by decide, by decide, by decide, .inr ⟨_, 0, rfl, ⟨_, _, h4⟩, fun i hi => ?_⟩⟩
    have : i = 0 ∨ i = 1 := by simp at hi; omega
    rcases this with rfl | rfl
    · exact ⟨4, ⟨#[97]⟩, 0, none, 0, 0, row_cells8 (i := 0) h4 rfl rfl rfl rfl rfl rfl rfl rfl, leafA _ 1⟩
    · exact ⟨12, ⟨#[]⟩, 2, some ⟨w.heap.size + 1 + 1 + 1, 0, none⟩, 1, 1, row_cells8 (i := 1) h4 rfl rfl rfl rfl rfl rfl rfl rfl, hI⟩

theorem any_at (w : World) : TyAt w true 1 zTy (mkT 0 [] [] []) :=
  ⟨0, ⟨#[]⟩, none, 0, none, 0, [], [], rfl, rfl, by decide, by decide, by simp, ⟨Nat.le_refl _, by simp [reachBytes]⟩, ⟨Nat.le_refl _, by simp [reachBytes]⟩, .inl rfl, .inl rfl⟩

set_option maxHeartbeats 8000000 in
set_option maxRecDepth 100000 in
theorem awake4_c (w : World) (hB : Base w) (hf : Forms w) (hp : PlainT w) :
    Calls Tryz.prog 4 #[] w fun e w' => e = .returned (.bool true) ∧ Below w.heap.size w w' := by
  obtain ⟨hb0, hc0, hdb, hdc⟩ := ex_world w
  have HC1 := hideP (b_expr _ (hB.below hb0) _ _ hdb)
  have HB0 := hideP hb0
  have HCX := hideP hc0
  have HDC := hideP hdc
  have HBS := hideP hB
  have HF := hideP hf
  have HP := hideP hp
  clear hb0 hc0 hdb hdc hB hf hp
  go_enter Tryz.func4, Tryz.ntmps4
  go_wp2_with fail
  refine HC1.out.mono ?_
  rintro e w1 ⟨⟨s1, rfl, hs1⟩, hb1⟩
  obtain rfl := str_of hs1
  have HB1 := hideP (below_next HB0.out hb1)
  have HCX1 := hideP ((hb1.block _ (lt_of_block HCX.out)).trans HCX.out)
  have HC2 := hideP (c_expr w1 (HBS.out.below HB1.out) _ _ (nd_below HDC.out hb1))
  obtain ⟨⟨x0, x1, x2, x3, x4, x5, x6, x7⟩, hltx⟩ := nd_facts HCX1.out
  simp only [Nat.zero_add] at x0 x1 x2 x3 x4 x5 x6 x7
  clear hb1 hs1
  go_wp2_with fail
  refine HC2.out.mono ?_
  rintro e w2 ⟨⟨s2, rfl, hs2⟩, hb2⟩
  obtain rfl := str_of hs2
  have HB2 := hideP (below_next HB1.out hb2)
  have HC3 := hideP (z_expr w2 (HBS.out.below HB2.out))
  clear hb2 hs2 x0 x1 x2 x3 x4 x5 x6 x7 hltx
  go_wp2_with fail
  refine HC3.out.mono ?_
  rintro e w3 ⟨⟨s3, rfl, hs3⟩, hb3⟩
  obtain rfl := str_of hs3
  have HB3 := hideP (below_next HB2.out hb3)
  have HC4 := hideP (trType_c 0 _ _ w3 (any_at w3) (by decide) (.inl ⟨0, by decide, by decide, rfl⟩) (HBS.out.below HB3.out).ww (HF.out.below HB3.out) (HP.out.below HB3.out) (by decide))
  clear hb3 hs3
  go_wp2_with fail
  refine HC4.out.mono ?_
  rintro e w4 ⟨⟨s4, rfl, hs4⟩, hb4⟩
  rw [if_pos (by decide)] at hs4
  obtain rfl := str_of hs4
  have HB4 := hideP (below_next HB3.out hb4)
  clear hb4 hs4
  go_wp2_with fail
  go_ret
  exact ⟨rfl, HB4.out⟩
end Go.Proofs.YtmpcjcjacpjilabGreatDoor

/- graduslaw04.heavy by a contract. -/
namespace Go.Proofs.YtmpcjcjacpjilabGreatDoor
open Go.RowKit

set_option maxHeartbeats 1000000 in
theorem heavy_c (n : Nat) : ∀ (v : Value) (D : Ty) (w : World) (most : Int), TyAt w false n v D → 1 ≤ most → most ≤ 2000 →
    Calls Tryz.prog 5 #[v, .int .i64 most] w fun e w' => (∃ r : Int, e = .returned (.int .i64 r) ∧ 0 ≤ r ∧ r < most ∧ (0 < r → (sizeT n D : Int) + r = most)) ∧ Below w.heap.size w w' := by
  induction n with
  | zero => intro v D w most h; exact h.elim
  | succ n ih =>
    intro v D w most h h1 h2
    obtain ⟨k, nm, na, nc, ka, kc, ns, ks, rfl, rfl, _, _, _, ⟨_, hnl⟩, ⟨_, hkl⟩, _, hks⟩ := h
    have hnl' : ns.length ≤ 140737488351232 := hnl
    have hkl' : ks.length ≤ 140737488351232 := hkl
    clear hnl hkl
    by_cases c1 : most < (ks.length : Int)
    · clear hks
      go_enter Tryz.func5, Tryz.ntmps5
      go_wp2_with fail
      go_ret
      exact ⟨⟨0, rfl, by omega, by omega, by omega⟩, bl_alloc _ _⟩
    by_cases c2 : most < (ns.length : Int)
    · clear hks
      go_enter Tryz.func5, Tryz.ntmps5
      go_wp2_with fail
      go_ret
      exact ⟨⟨0, rfl, by omega, by omega, by omega⟩, bl_alloc _ _⟩
    have HK := hideP hks
    clear hks
    go_enter Tryz.func5, Tryz.ntmps5
    go_wp2_with fail
    go_loopw [1, 5] (fun m i wr => ∃ (mm : Int) (j : Nat), m = .int .i64 mm ∧ i = .int .i64 j ∧ j ≤ ks.length ∧ 0 ≤ mm ∧ mm < most ∧ Hid (0 < mm → mm + 1 + (((ks.take j).map (sizeT n)).sum : Nat) = most) ∧
      Hid (Below (w.heap.size + 1) (w.alloc (tyO k nm na ns.length nc ka ks.length kc)) wr)) (fun _ i _ => ks.length - (intOf i).toNat)
    case atStart => exact ⟨most - 1, 0, rfl, rfl, Nat.zero_le _, by omega, by omega, fun _ => by simp, Below.refl _ _⟩
    case round =>
      obtain ⟨mm, j, rfl, rfl, hj, hm0, hm1, hs, hb⟩ := hrel
      obtain ⟨_, _, _, b3⟩ := box_at hb.out (Nat.lt_succ_self _)
      by_cases hlt : j < ks.length
      · have hjl : (j : Int) < (ks.length : Int) := by omega
        by_cases hp : 0 < mm
        · obtain ⟨b, o, k', nm', na', nl', nc', la', ll', lc', rfl, hbl, q0, q1, q2, q3, ht⟩ := kid_at HK.out hlt
          have hb0 : Below w.heap.size w wr := (bl_alloc _ _).trans (hb.out.mono (Nat.le_succ _))
          have r0 := (hb0.cell (p := ⟨b, o + j * 4, none⟩) hbl).trans q0
          have r1 := (hb0.cell (p := ⟨b, o + j * 4 + 1, none⟩) hbl).trans q1
          have r2 := (hb0.cell (p := ⟨b, o + j * 4 + 2, none⟩) hbl).trans q2
          have r3 := (hb0.cell (p := ⟨b, o + j * 4 + 3, none⟩) hbl).trans q3
          have HT := hideP (ty_below ht hb0)
          have hsz : w.heap.size + 1 ≤ wr.heap.size := by have := hb.out.size; simpa using this
          clear q0 q1 q2 q3 ht hb0
          go_wp2_with fail
          refine (ih _ _ _ _ HT.out (by omega) (by omega)).mono ?_
          rintro e w' ⟨⟨r, rfl, hr0, hr1, hr2⟩, hb'⟩
          have HR := hideP hr2
          have HB := hideP hb'
          clear hr2 hb'
          go_wp2_with fail
          refine ⟨⟨r, j + 1, rfl, by go_num, by omega, hr0, by omega, fun hr => ?_, hb.out.trans (HB.out.mono hsz)⟩, by simp [intOf]; omega⟩
          have e1 := HR.out hr
          have e2 := hs.out hp
          rw [sum_take _ _ _ hlt]
          omega
        · have hm : ¬ (0 : Int) < mm := hp
          clear HK
          go_wp2_with fail
          go_ret
          exact ⟨⟨mm, rfl, hm0, hm1, fun h => by omega⟩, (bl_alloc _ _).trans (hb.out.mono (Nat.le_succ _))⟩
      · have hjl : ¬ (j : Int) < (ks.length : Int) := by omega
        clear HK
        go_wp2_with fail
        go_ret
        refine ⟨⟨mm, rfl, hm0, hm1, fun h => ?_⟩, (bl_alloc _ _).trans (hb.out.mono (Nat.le_succ _))⟩
        have e2 := hs.out h
        rw [List.take_of_length_le (by omega)] at e2
        rw [sizeT, kids_mk]
        omega
end Go.Proofs.YtmpcjcjacpjilabGreatDoor

/- types.show by a contract: functions. -/
namespace Go.Proofs.YtmpcjcjacpjilabGreatDoor
open Go.RowKit

set_option maxHeartbeats 4000000 in
set_option maxRecDepth 100000 in
theorem show_fun_c (n : Nat) (ih : ShowAt n) (nm : ByteArray) (na : Option Addr) (nl nc : Nat) (ka : Option Addr) (kc : Nat) (x y : Ty) (w : World) (hk : KidsAt w false n ka [x, y]) (hx : NormT n x) (hy : NormT n y) (hp : Plain w) (hl : (showT n true x ++ [32, 45, 62, 32] ++ showT n false y).length ≤ 1000000) :
    Calls Tryz.prog 16 #[.agg #[.int .i64 6, .string nm, .slice na nl nc, .slice ka 2 kc]] w (ShowPost w (n + 1) false (mkT 6 [] [] [x, y])) := by
  have hb := bl_alloc w (tyO 6 nm na nl nc ka 2 kc)
  obtain ⟨b, o, k1, n1, na1, nl1, nc1, la1, ll1, lc1, rfl, hbl, q0, q1, q2, q3, ht1⟩ := kid_at (i := 0) hk (by simp)
  obtain ⟨b', o', k2, n2, na2, nl2, nc2, la2, ll2, lc2, e', hbl', p0, p1, p2, p3, ht2⟩ := kid_at (i := 1) hk (by simp)
  injection e' with e'
  injection e' with e1' e2' _
  subst e1' e2'
  simp only [Nat.zero_mul, Nat.one_mul, Nat.add_zero] at q0 q1 q2 q3 p0 p1 p2 p3
  have hl1 : (showT n true x).length ≤ 1000000 := by simp at hl; omega
  have hl2 : (showT n false y).length ≤ 1000000 := by simp at hl; omega
  obtain ⟨W, hW⟩ : ∃ W, W = w.alloc (tyO 6 nm na nl nc (some ⟨b, o, none⟩) 2 kc) := ⟨_, rfl⟩
  rw [← hW] at hb
  have hbx : W.heap[w.heap.size]? = some (tyO 6 nm na nl nc (some ⟨b, o, none⟩) 2 kc) := by rw [hW]; exact heap_alloc_last w _
  have HC1 : Hid (∀ wx, Below W.heap.size W wx → Calls Tryz.prog 34 #[.agg #[.int .i64 k1, .string n1, .slice na1 nl1 nc1, .slice la1 ll1 lc1]] wx fun e w' => (∃ s : ByteArray, e = .returned (.string s) ∧ s.data.toList = showT n true x ∧ s.size ≤ 1000000) ∧ Below W.heap.size W w') := fun wx hwx =>
    (inBrackets_c n ih _ _ _ (ty_below ht1 (below_next hb hwx)) hx (hp.below (below_next hb hwx)) hl1).mono fun e w' ⟨s, e1, e2, e3⟩ => ⟨⟨s, e1, e2, by have h : s.data.toList.length ≤ 1000000 := by { rw [e2]; exact hl1 }; exact h⟩, below_next hwx e3⟩
  have HC2 : Hid (∀ wx, Below W.heap.size W wx → Calls Tryz.prog 16 #[.agg #[.int .i64 k2, .string n2, .slice na2 nl2 nc2, .slice la2 ll2 lc2]] wx fun e w' => (∃ s : ByteArray, e = .returned (.string s) ∧ s.data.toList = showT n false y ∧ s.size ≤ 1000000) ∧ Below W.heap.size W w') := fun wx hwx =>
    (ih _ _ _ (ty_below ht2 (below_next hb hwx)) hy (hp.below (below_next hb hwx)) hl2).mono fun e w' ⟨s, e1, e2, e3⟩ => ⟨⟨s, e1, e2, by have h : s.data.toList.length ≤ 1000000 := by { rw [e2]; exact hl2 }; exact h⟩, below_next hwx e3⟩
  have HCELL : Hid (∀ wx, Below W.heap.size W wx → wx.cell? ⟨w.heap.size, 3, none⟩ = some (.slice (some ⟨b, o, none⟩) 2 kc) ∧ wx.cell? ⟨b, o + 4, none⟩ = some (.int .i64 k2) ∧ wx.cell? ⟨b, o + 4 + 1, none⟩ = some (.string n2) ∧ wx.cell? ⟨b, o + 4 + 2, none⟩ = some (.slice na2 nl2 nc2) ∧ wx.cell? ⟨b, o + 4 + 3, none⟩ = some (.slice la2 ll2 lc2) ∧ w.heap.size < wx.heap.size ∧ b < wx.heap.size) := fun wx hwx => by
    have hB := below_next hb hwx
    have h1 := (res_facts ((hwx.block _ (lt_of_block hbx)).trans hbx)).1.2.2.2
    have h2 := lt_of_block ((hwx.block _ (lt_of_block hbx)).trans hbx)
    exact ⟨h1, (hB.cell (p := ⟨b, o + 4, none⟩) hbl).trans p0, (hB.cell (p := ⟨b, o + 4 + 1, none⟩) hbl).trans p1, (hB.cell (p := ⟨b, o + 4 + 2, none⟩) hbl).trans p2, (hB.cell (p := ⟨b, o + 4 + 3, none⟩) hbl).trans p3, h2, Nat.lt_of_lt_of_le hbl hB.size⟩
  have HB := hideP hb
  subst hW
  clear hl hl1 hl2 hb hp ht1 ht2 hy hx hk ih hbx
  go_enter Tryz.func16, Tryz.ntmps16
  go_wp2_with fail
  go_cut [2] from 44 (fun s2 wx => ∃ s1 s3 : ByteArray, s2 = .string (s1 ++ ⟨#[32, 45, 62, 32]⟩ ++ s3) ∧ s1.data.toList = showT n true x ∧ s3.data.toList = showT n false y ∧ Below (w.alloc (tyO 6 nm na nl nc (some ⟨b, o, none⟩) 2 kc)).heap.size (w.alloc (tyO 6 nm na nl nc (some ⟨b, o, none⟩) 2 kc)) wx)
  case first =>
    go_region_with (first
      | (go_at_call 34; refine (HC1.out _ (by first | exact Below.refl _ _ | exact below_drewN (Below.refl _ _) _ | exact (Below.refl _ _).drew)).mono ?_; rintro e w1 ⟨⟨s1, rfl, hs1, hz1⟩, hb1⟩; obtain ⟨t0, t1, t2, t3, t4, t5, t6⟩ := HCELL.out _ hb1; have HS1 := hideP hs1; have HB1 := hideP hb1; clear hs1 hb1)
      | (go_at_call 16; refine (HC2.out _ (by first | exact HB1.out | exact below_drewN HB1.out _ | exact HB1.out.drew)).mono ?_; rintro e w2 ⟨⟨s3, rfl, hs3, hz3⟩, hb3⟩; have HS3 := hideP hs3; have HB3 := hideP hb3; clear hs3 hb3))
    all_goals (go_wp2_with fail; go_meet; exact ⟨s1, s3, rfl, HS1.out, HS3.out, HB3.out⟩)
  case rest =>
    obtain ⟨s1, s3, rfl, h1, h3, hbc⟩ := hcut
    have H1 := hideP h1
    have H3 := hideP h3
    have HBC := hideP (below_next HB.out hbc)
    clear h1 h3 hbc
    go_wp2_with fail
    go_ret
    refine ⟨_, rfl, ?_, HBC.out⟩
    rw [show_fun, if_neg (by decide), ← H1.out, ← H3.out]
    simp [ByteArray.data_append]
end Go.Proofs.YtmpcjcjacpjilabGreatDoor

/- types.show by a contract: records. -/
namespace Go.Proofs.YtmpcjcjacpjilabGreatDoor
open Go.RowKit

set_option maxHeartbeats 4000000 in
set_option maxRecDepth 100000 in
theorem show_rec_c (n : Nat) (ih : ShowAt n) (nm : ByteArray) (na : Option Addr) (nc : Nat) (ka : Option Addr) (kc : Nat) (ns : List (List UInt8)) (ks : List Ty) (w : World) (hnk : ns.length = ks.length) (h16 : ks.length ≤ 16) (hna : NamesAt w na ns) (hk : KidsAt w false n ka ks) (hx : ∀ x ∈ ks, NormT n x) (hp : Plain w) (hl : (showT (n + 1) false (mkT 5 [] ns ks)).length ≤ 1000000) :
    Calls Tryz.prog 16 #[.agg #[.int .i64 5, .string nm, .slice na ns.length nc, .slice ka ks.length kc]] w (ShowPost w (n + 1) false (mkT 5 [] ns ks)) := by
  obtain ⟨L, hL⟩ : ∃ L, L = List.zipWith (fun s x => s ++ 58 :: 32 :: showT n false x) ns ks := ⟨_, rfl⟩
  have hLl : L.length = ks.length := by rw [hL, List.length_zipWith]; omega
  have hLi : ∀ i (h : i < L.length) (h1 : i < ns.length) (h2 : i < ks.length), L[i] = ns[i] ++ 58 :: 32 :: showT n false ks[i] := fun i h h1 h2 => by subst hL; simp
  have hsh : showT (n + 1) false (mkT 5 [] ns ks) = 123 :: (joinV [44, 32] L ++ [125]) := by rw [hL]; exact show_rec ..
  have hjl : (joinV [44, 32] L).length ≤ 999998 := by rw [hsh] at hl; simp at hl; omega
  have HLL := hideP hLl
  have HLI := hideP hLi
  have HSH := hideP hsh
  have HJL := hideP hjl
  have HNK := hideP hnk
  have HNA := hideP hna
  have HK := hideP hk
  have HX := hideP hx
  have HP := hideP hp
  have IH := hideP ih
  have e16 : (ks.length : Int) ≤ 16 := by omega
  have hmk := run_make_row' (P := Tryz.prog) 22 9 (.string ⟨#[]⟩) 16 Tryz.underlying22 info_str rfl .i64 .i64 ks.length (by omega) (by omega)
  clear hL hLl hLi hsh hjl hnk hna hk hx hp ih hl
  go_enter Tryz.func16, Tryz.ntmps16
  go_wp2_with fail
  go_loopw [20] (fun i wr => ∃ j : Nat, i = .int .i64 j ∧ j ≤ ks.length ∧ Hid (SInv w wr (tyO 5 nm na ns.length nc ka ks.length kc) L j)) (fun i _ => ks.length - (intOf i).toNat)
  case atStart =>
    refine ⟨0, rfl, Nat.zero_le _, below_next (bl_alloc w _) (bl_alloc _ _), (Below.heap_alloc _ _ _ (by simp)).trans (heap_alloc_last w _), _, heap_at1 w _ _, ?_, fun k _ h => absurd h (Nat.not_lt_zero _)⟩
    rw [HLL.out]
    exact size_madeCells _ _
  case round =>
    obtain ⟨j, rfl, hj, hS⟩ := hrel
    obtain ⟨⟨x0, x1, x2, x3⟩, _, hltx⟩ := res_facts hS.out.hx
    by_cases hlt : j < ks.length
    · have hjl : (j : Int) < (ks.length : Int) := by omega
      have hjn : j < ns.length := by have := HNK.out; omega
      have hjn' : (j : Int) < (ns.length : Int) := by omega
      have hjL : j < L.length := by have := HLL.out; omega
      obtain ⟨b, o, k1, n1, na1, nl1, nc1, la1, ll1, lc1, rfl, hbl, q0, q1, q2, q3, ht1⟩ := kid_at HK.out hlt
      have hnj : ∃ nb no, na = some ⟨nb, no, none⟩ ∧ nb < w.heap.size ∧ w.cell? ⟨nb, no + j, none⟩ = some (.string ⟨ns[j].toArray⟩) := by
        rcases HNA.out with h0 | ⟨nb, no, e, hb, hc⟩
        · rw [h0] at hjn; cases hjn
        · exact ⟨nb, no, e, hb, hc j hjn⟩
      obtain ⟨nb, no, rfl, hnb, hns⟩ := hnj
      obtain ⟨S, hSe⟩ : ∃ S : ByteArray, S = ⟨ns[j].toArray⟩ := ⟨_, rfl⟩
      rw [← hSe] at hns
      have hSd : S.data.toList = ns[j] := by rw [hSe]
      have hLj := HLI.out j hjL hjn hlt
      have hlen := join_len [44, 32] L L[j] (List.getElem_mem hjL)
      have hlen2 : (ns[j]).length + 2 + (showT n false ks[j]).length ≤ 999998 := by
        have := HJL.out
        rw [hLj] at hlen
        simp at hlen
        omega
      have hSz : S.size ≤ 999998 := by
        have : S.size = (ns[j]).length := by rw [hSe]; rfl
        omega
      have HSD := hideP hSd
      have HLJ := hideP hLj
      have r0 := (hS.out.bl.cell (p := ⟨b, o + j * 4, none⟩) hbl).trans q0
      have r1 := (hS.out.bl.cell (p := ⟨b, o + j * 4 + 1, none⟩) hbl).trans q1
      have r2 := (hS.out.bl.cell (p := ⟨b, o + j * 4 + 2, none⟩) hbl).trans q2
      have r3 := (hS.out.bl.cell (p := ⟨b, o + j * 4 + 3, none⟩) hbl).trans q3
      have rN := (hS.out.bl.cell (p := ⟨nb, no + j, none⟩) hnb).trans hns
      have hbr : b < wr.heap.size := Nat.lt_of_lt_of_le hbl hS.out.bl.size
      have hnr : nb < wr.heap.size := Nat.lt_of_lt_of_le hnb hS.out.bl.size
      obtain ⟨⟨vv, cv⟩, fv, hlv⟩ := hS.out.facts hjL
      obtain ⟨W, hW⟩ : ∃ W, W = wr.alloc (tyO k1 n1 na1 nl1 nc1 la1 ll1 lc1) := ⟨_, rfl⟩
      have hbW : Below wr.heap.size wr W := by rw [hW]; exact bl_alloc _ _
      have hSW := hS.out.grow hbW
      have HSW := hideP hSW
      have HC : Hid (∀ wx, Below W.heap.size W wx → Calls Tryz.prog 16 #[.agg #[.int .i64 k1, .string n1, .slice na1 nl1 nc1, .slice la1 ll1 lc1]] wx fun e w' => (∃ s : ByteArray, e = .returned (.string s) ∧ s.data.toList = showT n false ks[j] ∧ s.size ≤ 999998) ∧ Below W.heap.size W w') := fun wx hwx =>
        (IH.out _ _ _ (ty_below ht1 (below_next hSW.bl hwx)) (HX.out _ (List.getElem_mem hlt)) (HP.out.below (below_next hSW.bl hwx)) (by omega)).mono fun e w' ⟨s, e1, e2, e3⟩ => ⟨⟨s, e1, e2, by have h : s.data.toList.length ≤ 999998 := by { rw [e2]; omega }; exact h⟩, below_next hwx e3⟩
      have HCELL : Hid (∀ wx, Below W.heap.size W wx → wx.cell? ⟨w.heap.size, 2, none⟩ = some (.slice (some ⟨nb, no, none⟩) ns.length nc) ∧ wx.cell? ⟨nb, no + j, none⟩ = some (.string S) ∧ (∃ v, wx.cell? ⟨w.heap.size + 1, j, none⟩ = some v) ∧ wx.frozen? ⟨w.heap.size + 1, j, none⟩ = false ∧ w.heap.size + 1 < wx.heap.size ∧ w.heap.size < wx.heap.size ∧ nb < wx.heap.size) := fun wx hwx => by
        have hSx := hSW.grow hwx
        obtain ⟨g1, g2, g3⟩ := hSx.facts hjL
        exact ⟨(res_facts hSx.hx).1.2.2.1, (hSx.bl.cell (p := ⟨nb, no + j, none⟩) hnb).trans hns, g1, g2, g3, by omega, Nat.lt_of_lt_of_le hnb hSx.bl.size⟩
      subst hW
      clear q0 q1 q2 q3 ht1 hns hSe hSd hLj hlen hlen2 hbW hSW
      go_wp2_with fail
      go_region_with (go_at_call 16; refine (HC.out _ (by first | exact Below.refl _ _ | exact below_drewN (Below.refl _ _) _ | exact (Below.refl _ _).drew)).mono ?_; rintro e w1 ⟨⟨s1, rfl, hs1, hz1⟩, hb1⟩; obtain ⟨t0, t1, ⟨vt, t2⟩, t3, t4, t5, t6⟩ := HCELL.out _ hb1; have HS1 := hideP hs1; have HB1 := hideP hb1; clear hs1 hb1)
      all_goals
        go_wp2_with fail
        refine ⟨⟨j + 1, by go_num, by omega, ?_⟩, by simp [intOf]; omega⟩
        refine (HSW.out.grow (by first | exact HB1.out | exact below_drewN HB1.out _ | exact HB1.out.drew)).put hjL ?_
        rw [HLJ.out, ← HSD.out, ← HS1.out]
        simp [ByteArray.data_append]
    · have hjl : ¬ (j : Int) < (ks.length : Int) := by omega
      have hje : j = L.length := by have := HLL.out; omega
      subst hje
      have hjc := join_c ⟨#[44, 32]⟩ L (w.heap.size + 1) wr hS.out.done (by obtain ⟨cs, h1, _⟩ := hS.out.rw; exact lt_of_block h1) (by show (joinV [44, 32] L).length ≤ _; have := HJL.out; omega) (by have := HLL.out; omega)
      rw [HLL.out] at hjc
      have HJC := hideP hjc
      have HBl := hideP hS.out.bl
      clear hjc
      go_wp2_with fail
      refine HJC.out.mono ?_
      rintro e w1 ⟨⟨s1, rfl, hs1, hz1⟩, hb1⟩
      have HS1 := hideP hs1
      have HB1 := hideP (below_next HBl.out hb1)
      have hz2 : s1.size ≤ 999998 := by
        have h1 : s1.size = s1.data.toList.length := rfl
        rw [h1, hs1]
        exact HJL.out
      clear hs1 hb1
      go_wp2_with fail
      go_ret
      refine ⟨_, rfl, ?_, HB1.out⟩
      rw [HSH.out, ← show s1.data.toList = joinV [44, 32] L from HS1.out]
      simp [ByteArray.data_append]
end Go.Proofs.YtmpcjcjacpjilabGreatDoor

/- types.show by a contract: unions. -/
namespace Go.Proofs.YtmpcjcjacpjilabGreatDoor
open Go.RowKit

set_option maxHeartbeats 4000000 in
set_option maxRecDepth 100000 in
theorem show_uni_c (n : Nat) (ih : ShowAt n) (nm : ByteArray) (na : Option Addr) (nl nc : Nat) (ka : Option Addr) (kc : Nat) (ks : List Ty) (w : World) (h16 : ks.length ≤ 1000) (hk : KidsAt w false n ka ks) (hx : ∀ x ∈ ks, NormT n x) (hp : Plain w) (hl : (showT (n + 1) false (mkT 7 [] [] ks)).length ≤ 1000000) :
    Calls Tryz.prog 16 #[.agg #[.int .i64 7, .string nm, .slice na nl nc, .slice ka ks.length kc]] w (ShowPost w (n + 1) false (mkT 7 [] [] ks)) := by
  obtain ⟨L, hL⟩ : ∃ L, L = ks.map (showT n true) := ⟨_, rfl⟩
  have hLl : L.length = ks.length := by rw [hL, List.length_map]
  have hLi : ∀ i (h : i < L.length) (h2 : i < ks.length), L[i] = showT n true ks[i] := fun i h h2 => by subst hL; simp
  have hsh : showT (n + 1) false (mkT 7 [] [] ks) = joinV [32, 124, 32] L := by rw [hL]; exact show_union ..
  have hjl : (joinV [32, 124, 32] L).length ≤ 1000000 := by rw [hsh] at hl; exact hl
  have HLL := hideP hLl
  have HLI := hideP hLi
  have HSH := hideP hsh
  have HJL := hideP hjl
  have HK := hideP hk
  have HX := hideP hx
  have HP := hideP hp
  have IH := hideP ih
  have e16 : (ks.length : Int) ≤ 1000 := by omega
  have hmk := run_make_row' (P := Tryz.prog) 22 9 (.string ⟨#[]⟩) 16 Tryz.underlying22 info_str rfl .i64 .i64 ks.length (by omega) (by omega)
  clear hL hLl hLi hsh hjl hk hx hp ih hl
  go_enter Tryz.func16, Tryz.ntmps16
  go_wp2_with fail
  go_loopw [65] (fun i wr => ∃ j : Nat, i = .int .i64 j ∧ j ≤ ks.length ∧ Hid (SInv w wr (tyO 7 nm na nl nc ka ks.length kc) L j)) (fun i _ => ks.length - (intOf i).toNat)
  case atStart =>
    refine ⟨0, rfl, Nat.zero_le _, below_next (bl_alloc w _) (bl_alloc _ _), (Below.heap_alloc _ _ _ (by simp)).trans (heap_alloc_last w _), _, heap_at1 w _ _, ?_, fun k _ h => absurd h (Nat.not_lt_zero _)⟩
    rw [HLL.out]
    exact size_madeCells _ _
  case round =>
    obtain ⟨j, rfl, hj, hS⟩ := hrel
    by_cases hlt : j < ks.length
    · have hjl : (j : Int) < (ks.length : Int) := by omega
      have hjL : j < L.length := by have := HLL.out; omega
      obtain ⟨b, o, k1, n1, na1, nl1, nc1, la1, ll1, lc1, rfl, hbl, q0, q1, q2, q3, ht1⟩ := kid_at HK.out hlt
      have hLj := HLI.out j hjL hlt
      have hlen := join_len [32, 124, 32] L L[j] (List.getElem_mem hjL)
      have hlen2 : (showT n true ks[j]).length ≤ 1000000 := by
        have := HJL.out
        rw [hLj] at hlen
        omega
      have HLJ := hideP hLj
      have r0 := (hS.out.bl.cell (p := ⟨b, o + j * 4, none⟩) hbl).trans q0
      have r1 := (hS.out.bl.cell (p := ⟨b, o + j * 4 + 1, none⟩) hbl).trans q1
      have r2 := (hS.out.bl.cell (p := ⟨b, o + j * 4 + 2, none⟩) hbl).trans q2
      have r3 := (hS.out.bl.cell (p := ⟨b, o + j * 4 + 3, none⟩) hbl).trans q3
      have hbr : b < wr.heap.size := Nat.lt_of_lt_of_le hbl hS.out.bl.size
      have hSW := hS.out.grow (bl_alloc wr (tyO k1 n1 na1 nl1 nc1 la1 ll1 lc1))
      have HSW := hideP hSW
      have HC := hideP (inBrackets_c n IH.out _ _ _ (ty_below ht1 hSW.bl) (HX.out _ (List.getElem_mem hlt)) (HP.out.below hSW.bl) hlen2)
      clear q0 q1 q2 q3 ht1 hLj hlen hlen2 hSW
      go_wp2_with fail
      refine HC.out.mono ?_
      rintro e w1 ⟨s1, rfl, hs1, hb1⟩
      have HS1 := hideP hs1
      have HS2 := hideP (HSW.out.grow hb1)
      obtain ⟨⟨vv, cv⟩, fv, hlv⟩ := HS2.out.facts hjL
      clear hs1 hb1
      go_wp2_with fail
      refine ⟨⟨j + 1, by go_num, by omega, ?_⟩, by simp [intOf]; omega⟩
      exact HS2.out.put hjL (HS1.out.trans HLJ.out.symm)
    · have hjl : ¬ (j : Int) < (ks.length : Int) := by omega
      have hje : j = L.length := by have := HLL.out; omega
      subst hje
      have hjc := join_c ⟨#[32, 124, 32]⟩ L (w.heap.size + 1) wr hS.out.done (by obtain ⟨cs, h1, _⟩ := hS.out.rw; exact lt_of_block h1) (by show (joinV [32, 124, 32] L).length ≤ _; have := HJL.out; omega) (by have := HLL.out; omega)
      rw [HLL.out] at hjc
      have HJC := hideP hjc
      have HBl := hideP hS.out.bl
      clear hjc
      go_wp2_with fail
      refine HJC.out.mono ?_
      rintro e w1 ⟨⟨s1, rfl, hs1, hz1⟩, hb1⟩
      have HS1 := hideP hs1
      have HB1 := hideP (below_next HBl.out hb1)
      clear hs1 hb1
      go_wp2_with fail
      go_ret
      refine ⟨_, rfl, ?_, HB1.out⟩
      rw [HSH.out]
      exact HS1.out
end Go.Proofs.YtmpcjcjacpjilabGreatDoor
