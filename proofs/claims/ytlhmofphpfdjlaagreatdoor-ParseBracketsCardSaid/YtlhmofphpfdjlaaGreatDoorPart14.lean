/- Part. -/
import Derived.Test.YtlhmofphpfdjlaaGreatDoorPart13
set_option maxRecDepth 100000
set_option maxHeartbeats 4000000
/- The parser of types: prim by its contract. -/
namespace Go.Proofs.YtlhmofphpfdjlaaGreatDoor
open Go.Proofs.Tryz
open Go.RowKit
abbrev zTyO : Obj := .cells #[.int .i64 0, .string ⟨#[]⟩, .slice none 0 0, .slice none 0 0] 44
theorem prim_c (pb tb cap d : Nat) (ts : List Tok) (K : Nat -> Pr Ty) (hg : Reads pb tb cap d ts TyE 17 K)
    (f a : Nat) (hf : ts.length <= a + 1 + (f + 1)) (hf2 : f + 1 <= 8193) (w : World) (h : Ps w pb tb cap ts a d) (ok : ToksOk ts) :
    Calls prog 98 #[.pointer (some ⟨pb, 0, none⟩)] w (PPost pb tb cap ts d w TyE (primA ts K (f + 1) a)) := by
  have H := hideP h
  have OK := hideP ok
  have HG := hideP hg
  have HF := hideP hf
  clear hf
  have HW := hideP (which_new pb tb cap a (w.heap.size + 1) 5 ts baseL (w.alloc zTyO) 9 (h.alloc _).rd (by simp) (by simp))
  clear h ok hg
  obtain ⟨kv, hkv⟩ : ∃ kv, kv = whichV (tkA ts a) baseL := ⟨_, rfl⟩
  rw [<- hkv] at HW
  by_cases h0 : 0 <= kv
  · obtain ⟨i, rfl⟩ : ∃ i : Nat, kv = i := ⟨kv.toNat, by omega⟩
    obtain ⟨e1, e2, s, e3⟩ := prim_word ts K (f + 1) a i hkv.symm
    rw [e1]
    have HN := hideP (sees_next OK.out.ends H.out.lt e3)
    clear hkv e1 e3
    go_enter func98, ntmps98
    go_wp2_with fail
    refine HW.out.mono ?_
    rintro e w1 ⟨rfl, hb1⟩
    have P1 := hideP ((H.out.alloc _).below hb1)
    have HB1 := hideP (below_next (bl_alloc _ _) hb1)
    have HR := hideP ((hb1.block w.heap.size (by simp)).trans (heap_alloc_last w _))
    clear hb1
    go_wp2_with fail
    refine (pass_c pb tb cap a d ts _ P1.out HN.out OK.out.len).mono ?_
    rintro e w2 ⟨rfl, hst, hps⟩
    have hr := (hst.keep _ H.out.ltp (lt_of_block HR.out)).trans HR.out
    obtain ⟨⟨r0, r1, r2, r3⟩, ⟨f0, f1, f2, f3⟩, hr1⟩ := res_facts hr
    have HR2 := hideP hr
    have HP := hideP hps
    have HST := hideP ((Stay.of H.out.ltp HB1.out).trans hst)
    clear hst hps hr
    go_wp2_with fail
    refine bodyPost_ret (results_cell_row rfl _ _ w.heap.size 44 _ (0, 0) _ rfl (set4 HR2.out _ _ _ _) underlying44 rfl (by kernel_rfl)) rfl ⟨stay_set4 HST.out H.out.ltp (Nat.le_refl _) _ _ _ _, ps_set4 HP.out H.out.ltp _ _ _ _, _, rfl, ?_⟩
    exact tyE_leaf _ _ i ⟨#[]⟩ (by rcases (by omega : i = 0 ∨ i = 1 ∨ i = 2 ∨ i = 3 ∨ i = 4) with rfl | rfl | rfl | rfl | rfl <;> decide) (by decide)
  · rw [prim_other ts K (f + 1) a (by omega)]
    have hneg : kv < 0 := by omega
    clear h0 hkv
    unfold primB
    cases hs : seesA ts a [123] with
    | true =>
      rw [if_pos rfl]
      have HN := hideP (sees_next OK.out.ends H.out.lt hs)
      have HSe := hideP hs
      clear hs
      cases hfi : fieldsA ts K (f + 1) (a + 1) with
      | inr x =>
        obtain ⟨er, li, co⟩ := x
        have HFi := hideP hfi
        clear hfi
        go_enter func98, ntmps98
        go_wp2_with fail
        refine HW.out.mono ?_
        rintro e w1 ⟨rfl, hb1⟩
        have P1 := hideP ((H.out.alloc _).below hb1)
        have HB1 := hideP (below_next (bl_alloc _ _) hb1)
        have HR := hideP ((hb1.block w.heap.size (by simp)).trans (heap_alloc_last w _))
        clear hb1
        go_wp2_with fail
        refine (take_c pb tb cap a d ts [123] w1 P1.out OK.out).mono ?_
        rw [HSe.out, if_pos rfl]
        rintro e w2 ⟨rfl, hst, hps⟩
        have HR2 := hideP ((hst.keep _ H.out.ltp (lt_of_block HR.out)).trans HR.out)
        have HP := hideP hps
        have HST := hideP ((Stay.of H.out.ltp HB1.out).trans hst)
        clear hst hps
        go_wp2_with fail
        refine (fieldsT_c pb tb cap d ts 17 K HG.out f (a + 1) (by have := HF.out; omega) w2 HP.out OK.out).mono ?_
        rw [HFi.out]
        rintro e w3 ⟨hst, rfl⟩
        have HST3 := hideP (HST.out.trans hst)
        clear hst
        go_wp2_with fail
        exact ⟨rfl, HST3.out, rfl⟩
      | inl x =>
        obtain ⟨l, b⟩ := x
        have HFi := hideP hfi
        obtain ⟨hl1, hl2⟩ := fields_facts OK.out hfi
        have HL2 := hideP hl2
        clear hfi hl2
        go_enter func98, ntmps98
        go_wp2_with fail
        refine HW.out.mono ?_
        rintro e w1 ⟨rfl, hb1⟩
        have P1 := hideP ((H.out.alloc _).below hb1)
        have HB1 := hideP (below_next (bl_alloc _ _) hb1)
        have HR := hideP ((hb1.block w.heap.size (by simp)).trans (heap_alloc_last w _))
        clear hb1
        go_wp2_with fail
        refine (take_c pb tb cap a d ts [123] w1 P1.out OK.out).mono ?_
        rw [HSe.out, if_pos rfl]
        rintro e w2 ⟨rfl, hst, hps⟩
        have HR2 := hideP ((hst.keep _ H.out.ltp (lt_of_block HR.out)).trans HR.out)
        have HP := hideP hps
        have HST := hideP ((Stay.of H.out.ltp HB1.out).trans hst)
        clear hst hps
        go_wp2_with fail
        refine (fieldsT_c pb tb cap d ts 17 K HG.out f (a + 1) (by have := HF.out; omega) w2 HP.out OK.out).mono ?_
        rw [HFi.out]
        rintro e w3 ⟨hst, hps, v, rfl, hv⟩
        obtain ⟨fa, fc, fa', fc', rfl, ht⟩ := tyE_rec hv (by omega) HL2.out
        have hr := (hst.keep _ H.out.ltp (lt_of_block HR2.out)).trans HR2.out
        obtain ⟨⟨r0, r1, r2, r3⟩, ⟨f0, f1, f2, f3⟩, hr1⟩ := res_facts hr
        have HR3 := hideP hr
        have HP3 := hideP hps
        have HST3 := hideP (HST.out.trans hst)
        have HT3 := hideP ht
        have HLt := hideP (lt_of_block HR2.out)
        clear hst hps hr ht hv
        go_wp2_with fail
        refine bodyPost_ret (results_cell_row rfl _ _ w.heap.size 44 _ (0, 0) _ rfl (set4 HR3.out _ _ _ _) underlying44 rfl (by kernel_rfl)) rfl ⟨stay_set4 HST3.out H.out.ltp (Nat.le_refl _) _ _ _ _, ps_set4 HP3.out H.out.ltp _ _ _ _, _, rfl, ?_⟩
        exact (HT3.out.set4 HLt.out _ _ _ _).lower (Nat.le_of_lt HLt.out)
    | false =>
      rw [if_neg (by simp)]
      have HSe := hideP hs
      clear hs
      cases hs2 : seesA ts a [40] with
      | true =>
        rw [if_pos rfl]
        have HN := hideP (sees_next OK.out.ends H.out.lt hs2)
        have HSe2 := hideP hs2
        clear hs2
        cases hk : K (a + 1) with
        | inr x =>
          obtain ⟨er, li, co⟩ := x
          have HK := hideP hk
          clear hk
          go_enter func98, ntmps98
          go_wp2_with fail
          refine HW.out.mono ?_
          rintro e w1 ⟨rfl, hb1⟩
          have P1 := hideP ((H.out.alloc _).below hb1)
          have HB1 := hideP (below_next (bl_alloc _ _) hb1)
          have HR := hideP ((hb1.block w.heap.size (by simp)).trans (heap_alloc_last w _))
          clear hb1
          go_wp2_with fail
          refine (take_c pb tb cap a d ts [123] w1 P1.out OK.out).mono ?_
          rw [HSe.out, if_neg (by simp)]
          rintro e w2 ⟨rfl, hst, hps⟩
          have HR2 := hideP ((hst.keep _ H.out.ltp (lt_of_block HR.out)).trans HR.out)
          have HP := hideP hps
          have HST := hideP ((Stay.of H.out.ltp HB1.out).trans hst)
          clear hst hps
          go_wp2_with fail
          refine (take_c pb tb cap a d ts [40] w2 HP.out OK.out).mono ?_
          rw [HSe2.out, if_pos rfl]
          rintro e w3 ⟨rfl, hst, hps⟩
          have HR3 := hideP ((hst.keep _ H.out.ltp (lt_of_block HR2.out)).trans HR2.out)
          have HP3 := hideP hps
          have HST3 := hideP (HST.out.trans hst)
          clear hst hps
          go_wp2_with fail
          refine (HG.out.calls (a + 1) w3 HP3.out).mono ?_
          rw [HK.out]
          rintro e w4 ⟨hst, rfl⟩
          have HST4 := hideP (HST3.out.trans hst)
          clear hst
          go_wp2_with fail
          exact ⟨rfl, HST4.out, rfl⟩
        | inl x =>
          obtain ⟨D, b⟩ := x
          have HK := hideP hk
          clear hk
          show Calls _ _ _ _ (PPost pb tb cap ts d w TyE ((wantA ts b [41]).go fun _ a => .inl (D, a)))
          cases hw : wantA ts b [41] with
          | inr x =>
            obtain ⟨er, li, co⟩ := x
            have HWa := hideP hw
            clear hw
            go_enter func98, ntmps98
            go_wp2_with fail
            refine HW.out.mono ?_
            rintro e w1 ⟨rfl, hb1⟩
            have P1 := hideP ((H.out.alloc _).below hb1)
            have HB1 := hideP (below_next (bl_alloc _ _) hb1)
            have HR := hideP ((hb1.block w.heap.size (by simp)).trans (heap_alloc_last w _))
            clear hb1
            go_wp2_with fail
            refine (take_c pb tb cap a d ts [123] w1 P1.out OK.out).mono ?_
            rw [HSe.out, if_neg (by simp)]
            rintro e w2 ⟨rfl, hst, hps⟩
            have HR2 := hideP ((hst.keep _ H.out.ltp (lt_of_block HR.out)).trans HR.out)
            have HP := hideP hps
            have HST := hideP ((Stay.of H.out.ltp HB1.out).trans hst)
            clear hst hps
            go_wp2_with fail
            refine (take_c pb tb cap a d ts [40] w2 HP.out OK.out).mono ?_
            rw [HSe2.out, if_pos rfl]
            rintro e w3 ⟨rfl, hst, hps⟩
            have HR3 := hideP ((hst.keep _ H.out.ltp (lt_of_block HR2.out)).trans HR2.out)
            have HP3 := hideP hps
            have HST3 := hideP (HST.out.trans hst)
            clear hst hps
            go_wp2_with fail
            refine (HG.out.calls (a + 1) w3 HP3.out).mono ?_
            rw [HK.out]
            rintro e w4 ⟨hst, hps, v, rfl, hv⟩
            obtain ⟨k1, nm1, na1, nl1, nc1, ka1, kl1, kc1, rfl⟩ := hv.cells
            have HST4 := hideP (HST3.out.trans hst)
            have HP4 := hideP hps
            clear hst hps hv
            go_wp2_with fail
            refine (must_c pb tb cap b d ts [41] _ (HP4.out.alloc _) OK.out).mono ?_
            rw [HWa.out]
            rintro e w5 ⟨hst, rfl⟩
            have HST5 := hideP ((HST4.out.alloc H.out.ltp _).trans hst)
            clear hst
            go_wp2_with fail
            exact ⟨rfl, HST5.out, rfl⟩
          | inl x =>
            obtain ⟨u, b'⟩ := x
            have HWa := hideP hw
            clear hw
            go_enter func98, ntmps98
            go_wp2_with fail
            refine HW.out.mono ?_
            rintro e w1 ⟨rfl, hb1⟩
            have P1 := hideP ((H.out.alloc _).below hb1)
            have HB1 := hideP (below_next (bl_alloc _ _) hb1)
            have HR := hideP ((hb1.block w.heap.size (by simp)).trans (heap_alloc_last w _))
            clear hb1
            go_wp2_with fail
            refine (take_c pb tb cap a d ts [123] w1 P1.out OK.out).mono ?_
            rw [HSe.out, if_neg (by simp)]
            rintro e w2 ⟨rfl, hst, hps⟩
            have HR2 := hideP ((hst.keep _ H.out.ltp (lt_of_block HR.out)).trans HR.out)
            have HP := hideP hps
            have HST := hideP ((Stay.of H.out.ltp HB1.out).trans hst)
            clear hst hps
            go_wp2_with fail
            refine (take_c pb tb cap a d ts [40] w2 HP.out OK.out).mono ?_
            rw [HSe2.out, if_pos rfl]
            rintro e w3 ⟨rfl, hst, hps⟩
            have HR3 := hideP ((hst.keep _ H.out.ltp (lt_of_block HR2.out)).trans HR2.out)
            have HP3 := hideP hps
            have HST3 := hideP (HST.out.trans hst)
            clear hst hps
            go_wp2_with fail
            refine (HG.out.calls (a + 1) w3 HP3.out).mono ?_
            rw [HK.out]
            rintro e w4 ⟨hst, hps, v, rfl, hv⟩
            obtain ⟨k1, nm1, na1, nl1, nc1, ka1, kl1, kc1, rfl⟩ := hv.cells
            have HST4 := hideP (HST3.out.trans hst)
            have HP4 := hideP hps
            have HR4 := hideP ((hst.keep _ H.out.ltp (lt_of_block HR3.out)).trans HR3.out)
            have HT4 := hideP hv
            have HLt := hideP (Nat.lt_of_lt_of_le (lt_of_block HR3.out) hst.size)
            have HLt3 := hideP (lt_of_block HR3.out)
            clear hst hps hv
            go_wp2_with fail
            refine (must_c pb tb cap b d ts [41] _ (HP4.out.alloc _) OK.out).mono ?_
            rw [HWa.out]
            rintro e w5 ⟨hst, hps, v, rfl, _⟩
            have hr := (hst.keep _ H.out.ltp (by have := HLt.out; simp; omega)).trans ((Below.heap_alloc _ _ _ HLt.out).trans HR4.out)
            obtain ⟨⟨r0, r1, r2, r3⟩, ⟨f0, f1, f2, f3⟩, hr1⟩ := res_facts hr
            obtain ⟨⟨b0, b1, b2, b3⟩, _, hr2⟩ := res_facts ((hst.keep w4.heap.size HP4.out.ltp (by simp)).trans (heap_alloc_last w4 _))
            have HR5 := hideP hr
            have HP5 := hideP hps
            have HST5 := hideP ((HST4.out.alloc H.out.ltp _).trans hst)
            have HT5 := hideP ((HT4.out.alloc _).stay hst HP3.out.ltp)
            have hne : ¬ w4.heap.size = w.heap.size := by have := HLt.out; omega
            clear hst hps hr
            go_wp2_with fail
            refine bodyPost_ret (results_cell_row rfl _ _ w.heap.size 44 _ (0, 0) _ rfl (set4 HR5.out _ _ _ _) underlying44 rfl (by kernel_rfl)) rfl ⟨stay_set4 HST5.out H.out.ltp (Nat.le_refl _) _ _ _ _, ps_set4 HP5.out H.out.ltp _ _ _ _, _, rfl, ?_⟩
            exact (HT5.out.set4 HLt3.out _ _ _ _).lower (Nat.le_of_lt HLt3.out)
      | false =>
        rw [if_neg (by simp)]
        have HSe2 := hideP hs2
        clear hs2
        cases hk : nameA ts a with
        | inr x =>
          obtain ⟨er, li, co⟩ := x
          have HK := hideP hk
          clear hk
          go_enter func98, ntmps98
          go_wp2_with fail
          refine HW.out.mono ?_
          rintro e w1 ⟨rfl, hb1⟩
          have P1 := hideP ((H.out.alloc _).below hb1)
          have HB1 := hideP (below_next (bl_alloc _ _) hb1)
          have HR := hideP ((hb1.block w.heap.size (by simp)).trans (heap_alloc_last w _))
          clear hb1
          go_wp2_with fail
          refine (take_c pb tb cap a d ts [123] w1 P1.out OK.out).mono ?_
          rw [HSe.out, if_neg (by simp)]
          rintro e w2 ⟨rfl, hst, hps⟩
          have HR2 := hideP ((hst.keep _ H.out.ltp (lt_of_block HR.out)).trans HR.out)
          have HP := hideP hps
          have HST := hideP ((Stay.of H.out.ltp HB1.out).trans hst)
          clear hst hps
          go_wp2_with fail
          refine (take_c pb tb cap a d ts [40] w2 HP.out OK.out).mono ?_
          rw [HSe2.out, if_neg (by simp)]
          rintro e w3 ⟨rfl, hst, hps⟩
          have HR3 := hideP ((hst.keep _ H.out.ltp (lt_of_block HR2.out)).trans HR2.out)
          have HP3 := hideP hps
          have HST3 := hideP (HST.out.trans hst)
          clear hst hps
          go_wp2_with fail
          refine (pname_c pb tb cap a d ts w3 HP3.out OK.out).mono ?_
          rw [HK.out]
          rintro e w4 ⟨hst, rfl⟩
          have HST4 := hideP (HST3.out.trans hst)
          clear hst
          go_wp2_with fail
          exact ⟨rfl, HST4.out, rfl⟩
        | inl x =>
          obtain ⟨s, b⟩ := x
          have HK := hideP hk
          have HTx := hideP (show s.length <= 70000 from name_text hk ▸ OK.out.txt a)
          clear hk
          go_enter func98, ntmps98
          go_wp2_with fail
          refine HW.out.mono ?_
          rintro e w1 ⟨rfl, hb1⟩
          have P1 := hideP ((H.out.alloc _).below hb1)
          have HB1 := hideP (below_next (bl_alloc _ _) hb1)
          have HR := hideP ((hb1.block w.heap.size (by simp)).trans (heap_alloc_last w _))
          clear hb1
          go_wp2_with fail
          refine (take_c pb tb cap a d ts [123] w1 P1.out OK.out).mono ?_
          rw [HSe.out, if_neg (by simp)]
          rintro e w2 ⟨rfl, hst, hps⟩
          have HR2 := hideP ((hst.keep _ H.out.ltp (lt_of_block HR.out)).trans HR.out)
          have HP := hideP hps
          have HST := hideP ((Stay.of H.out.ltp HB1.out).trans hst)
          clear hst hps
          go_wp2_with fail
          refine (take_c pb tb cap a d ts [40] w2 HP.out OK.out).mono ?_
          rw [HSe2.out, if_neg (by simp)]
          rintro e w3 ⟨rfl, hst, hps⟩
          have HR3 := hideP ((hst.keep _ H.out.ltp (lt_of_block HR2.out)).trans HR2.out)
          have HP3 := hideP hps
          have HST3 := hideP (HST.out.trans hst)
          clear hst hps
          go_wp2_with fail
          refine (pname_c pb tb cap a d ts w3 HP3.out OK.out).mono ?_
          rw [HK.out]
          rintro e w4 ⟨hst, hps, v, rfl, rfl⟩
          have hr := (hst.keep _ H.out.ltp (lt_of_block HR3.out)).trans HR3.out
          obtain ⟨⟨r0, r1, r2, r3⟩, ⟨f0, f1, f2, f3⟩, hr1⟩ := res_facts hr
          have HR4 := hideP hr
          have HP4 := hideP hps
          have HST4 := hideP (HST3.out.trans hst)
          clear hst hps hr
          go_wp2_with fail
          refine bodyPost_ret (results_cell_row rfl _ _ w.heap.size 44 _ (0, 0) _ rfl (set4 HR4.out _ _ _ _) underlying44 rfl (by kernel_rfl)) rfl ⟨stay_set4 HST4.out H.out.ltp (Nat.le_refl _) _ _ _ _, ps_set4 HP4.out H.out.ltp _ _ _ _, _, rfl, ?_⟩
          exact tyE_leaf _ _ 8 ⟨s.toArray⟩ (by decide) (by have := HTx.out; unfold reachBytes; show s.toArray.size <= _; simp; omega)
end Go.Proofs.YtlhmofphpfdjlaaGreatDoor
