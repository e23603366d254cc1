/- Part of the proof of ParseLeft: the texts that follow, in build order. -/
import Derived.Test.YthieoabbjekpkabGreatDoorPart7
import Derived.Deep.DrawnRows

/- The parser of types: prim by its contract. -/
namespace Go.Proofs.YthieoabbjekpkabGreatDoor
open Go.RowKit

abbrev zTyO : Obj := .cells #[.int .i64 0, .string ⟨#[]⟩, .slice none 0 0, .slice none 0 0] 48

set_option maxRecDepth 100000 in
set_option maxHeartbeats 4000000 in
theorem prim_c (pb tb cap d : Nat) (ts : List Tok) (K : Nat → Pr Ty) (hg : Reads pb tb cap d ts TyE 21 K)
    (f a : Nat) (hf : ts.length ≤ a + 1 + (f + 1)) (hf2 : f + 1 ≤ 8193) (w : World) (h : Ps w pb tb cap ts a d) (ok : ToksOk ts) :
    Calls Tryz.prog 112 #[.pointer (some ⟨pb, 0, none⟩)] w (PPost pb tb cap ts d w TyE (primA ts K (f + 1) a)) := by
  have H := hideP h
  have OK := hideP ok
  have HG := hideP hg
  have HF := hideP hf
  clear hf
  have HW := hideP (which_new pb tb cap a (w.heap.size + 1) 5 ts baseL (w.alloc zTyO) 9 (h.alloc _).rd (by simp) (by simp))
  clear h ok hg
  obtain ⟨kv, hkv⟩ : ∃ kv, kv = whichV (tkA ts a) baseL := ⟨_, rfl⟩
  rw [← hkv] at HW
  by_cases h0 : 0 ≤ kv
  · obtain ⟨i, rfl⟩ : ∃ i : Nat, kv = i := ⟨kv.toNat, by omega⟩
    obtain ⟨e1, e2, s, e3⟩ := prim_word ts K (f + 1) a i hkv.symm
    rw [e1]
    have HN := hideP (sees_next OK.out.ends H.out.lt e3)
    clear hkv e1 e3
    go_enter Tryz.func112, Tryz.ntmps112
    go_wp2_with fail
    refine HW.out.mono ?_
    rintro e w1 ⟨rfl, hb1⟩
    have P1 := hideP ((H.out.alloc _).below hb1)
    have HB1 := hideP (below_next (bl_alloc _ _) hb1)
    have HR := hideP ((hb1.block w.heap.size (by simp)).trans (heap_alloc_last w _))
    clear hb1
    go_wp2_with fail
    refine (pass_c pb tb cap a d ts _ P1.out HN.out OK.out.len).mono ?_
    rintro e w2 ⟨rfl, hst, hps⟩
    have hr := (hst.keep _ H.out.ltp (lt_of_block HR.out)).trans HR.out
    obtain ⟨⟨r0, r1, r2, r3⟩, ⟨f0, f1, f2, f3⟩, hr1⟩ := res_facts hr
    have HR2 := hideP hr
    have HP := hideP hps
    have HST := hideP ((Stay.of H.out.ltp HB1.out).trans hst)
    clear hst hps hr
    go_wp2_with fail
    refine bodyPost_ret (results_cell_row rfl _ _ w.heap.size 48 _ (0, 0) _ rfl (set4 HR2.out _ _ _ _) Tryz.underlying48 rfl (by kernel_rfl)) rfl ⟨stay_set4 HST.out H.out.ltp (Nat.le_refl _) _ _ _ _, ps_set4 HP.out H.out.ltp _ _ _ _, _, rfl, ?_⟩
    exact tyE_leaf _ _ i ⟨#[]⟩ (by rcases (by omega : i = 0 ∨ i = 1 ∨ i = 2 ∨ i = 3 ∨ i = 4) with rfl | rfl | rfl | rfl | rfl <;> decide) (by decide)
  · rw [prim_other ts K (f + 1) a (by omega)]
    have hneg : kv < 0 := by omega
    clear h0 hkv
    unfold primB
    cases hs : seesA ts a [123] with
    | true =>
      rw [if_pos rfl]
      have HN := hideP (sees_next OK.out.ends H.out.lt hs)
      have HSe := hideP hs
      clear hs
      cases hfi : fieldsA ts K (f + 1) (a + 1) with
      | inr x =>
        obtain ⟨er, li, co⟩ := x
        have HFi := hideP hfi
        clear hfi
        go_enter Tryz.func112, Tryz.ntmps112
        go_wp2_with fail
        refine HW.out.mono ?_
        rintro e w1 ⟨rfl, hb1⟩
        have P1 := hideP ((H.out.alloc _).below hb1)
        have HB1 := hideP (below_next (bl_alloc _ _) hb1)
        have HR := hideP ((hb1.block w.heap.size (by simp)).trans (heap_alloc_last w _))
        clear hb1
        go_wp2_with fail
        refine (take_c pb tb cap a d ts [123] w1 P1.out OK.out).mono ?_
        rw [HSe.out, if_pos rfl]
        rintro e w2 ⟨rfl, hst, hps⟩
        have HR2 := hideP ((hst.keep _ H.out.ltp (lt_of_block HR.out)).trans HR.out)
        have HP := hideP hps
        have HST := hideP ((Stay.of H.out.ltp HB1.out).trans hst)
        clear hst hps
        go_wp2_with fail
        refine (fieldsT_c pb tb cap d ts 21 K HG.out f (a + 1) (by have := HF.out; omega) w2 HP.out OK.out).mono ?_
        rw [HFi.out]
        rintro e w3 ⟨hst, rfl⟩
        have HST3 := hideP (HST.out.trans hst)
        clear hst
        go_wp2_with fail
        exact ⟨rfl, HST3.out, rfl⟩
      | inl x =>
        obtain ⟨l, b⟩ := x
        have HFi := hideP hfi
        obtain ⟨hl1, hl2⟩ := fields_facts OK.out hfi
        have HL2 := hideP hl2
        clear hfi hl2
        go_enter Tryz.func112, Tryz.ntmps112
        go_wp2_with fail
        refine HW.out.mono ?_
        rintro e w1 ⟨rfl, hb1⟩
        have P1 := hideP ((H.out.alloc _).below hb1)
        have HB1 := hideP (below_next (bl_alloc _ _) hb1)
        have HR := hideP ((hb1.block w.heap.size (by simp)).trans (heap_alloc_last w _))
        clear hb1
        go_wp2_with fail
        refine (take_c pb tb cap a d ts [123] w1 P1.out OK.out).mono ?_
        rw [HSe.out, if_pos rfl]
        rintro e w2 ⟨rfl, hst, hps⟩
        have HR2 := hideP ((hst.keep _ H.out.ltp (lt_of_block HR.out)).trans HR.out)
        have HP := hideP hps
        have HST := hideP ((Stay.of H.out.ltp HB1.out).trans hst)
        clear hst hps
        go_wp2_with fail
        refine (fieldsT_c pb tb cap d ts 21 K HG.out f (a + 1) (by have := HF.out; omega) w2 HP.out OK.out).mono ?_
        rw [HFi.out]
        rintro e w3 ⟨hst, hps, v, rfl, hv⟩
        obtain ⟨fa, fc, fa', fc', rfl, ht⟩ := tyE_rec hv (by omega) HL2.out
        have hr := (hst.keep _ H.out.ltp (lt_of_block HR2.out)).trans HR2.out
        obtain ⟨⟨r0, r1, r2, r3⟩, ⟨f0, f1, f2, f3⟩, hr1⟩ := res_facts hr
        have HR3 := hideP hr
        have HP3 := hideP hps
        have HST3 := hideP (HST.out.trans hst)
        have HT3 := hideP ht
        have HLt := hideP (lt_of_block HR2.out)
        clear hst hps hr ht hv
        go_wp2_with fail
        refine bodyPost_ret (results_cell_row rfl _ _ w.heap.size 48 _ (0, 0) _ rfl (set4 HR3.out _ _ _ _) Tryz.underlying48 rfl (by kernel_rfl)) rfl ⟨stay_set4 HST3.out H.out.ltp (Nat.le_refl _) _ _ _ _, ps_set4 HP3.out H.out.ltp _ _ _ _, _, rfl, ?_⟩
        exact (HT3.out.set4 HLt.out _ _ _ _).lower (Nat.le_of_lt HLt.out)
    | false =>
      rw [if_neg (by simp)]
      have HSe := hideP hs
      clear hs
      cases hs2 : seesA ts a [40] with
      | true =>
        rw [if_pos rfl]
        have HN := hideP (sees_next OK.out.ends H.out.lt hs2)
        have HSe2 := hideP hs2
        clear hs2
        cases hk : K (a + 1) with
        | inr x =>
          obtain ⟨er, li, co⟩ := x
          have HK := hideP hk
          clear hk
          go_enter Tryz.func112, Tryz.ntmps112
          go_wp2_with fail
          refine HW.out.mono ?_
          rintro e w1 ⟨rfl, hb1⟩
          have P1 := hideP ((H.out.alloc _).below hb1)
          have HB1 := hideP (below_next (bl_alloc _ _) hb1)
          have HR := hideP ((hb1.block w.heap.size (by simp)).trans (heap_alloc_last w _))
          clear hb1
          go_wp2_with fail
          refine (take_c pb tb cap a d ts [123] w1 P1.out OK.out).mono ?_
          rw [HSe.out, if_neg (by simp)]
          rintro e w2 ⟨rfl, hst, hps⟩
          have HR2 := hideP ((hst.keep _ H.out.ltp (lt_of_block HR.out)).trans HR.out)
          have HP := hideP hps
          have HST := hideP ((Stay.of H.out.ltp HB1.out).trans hst)
          clear hst hps
          go_wp2_with fail
          refine (take_c pb tb cap a d ts [40] w2 HP.out OK.out).mono ?_
          rw [HSe2.out, if_pos rfl]
          rintro e w3 ⟨rfl, hst, hps⟩
          have HR3 := hideP ((hst.keep _ H.out.ltp (lt_of_block HR2.out)).trans HR2.out)
          have HP3 := hideP hps
          have HST3 := hideP (HST.out.trans hst)
          clear hst hps
          go_wp2_with fail
          refine (HG.out.calls (a + 1) w3 HP3.out).mono ?_
          rw [HK.out]
          rintro e w4 ⟨hst, rfl⟩
          have HST4 := hideP (HST3.out.trans hst)
          clear hst
          go_wp2_with fail
          exact ⟨rfl, HST4.out, rfl⟩
        | inl x =>
          obtain ⟨D, b⟩ := x
          have HK := hideP hk
          clear hk
          show Calls _ _ _ _ (PPost pb tb cap ts d w TyE ((wantA ts b [41]).go fun _ a => .inl (D, a)))
          cases hw : wantA ts b [41] with
          | inr x =>
            obtain ⟨er, li, co⟩ := x
            have HWa := hideP hw
            clear hw
            go_enter Tryz.func112, Tryz.ntmps112
            go_wp2_with fail
            refine HW.out.mono ?_
            rintro e w1 ⟨rfl, hb1⟩
            have P1 := hideP ((H.out.alloc _).below hb1)
            have HB1 := hideP (below_next (bl_alloc _ _) hb1)
            have HR := hideP ((hb1.block w.heap.size (by simp)).trans (heap_alloc_last w _))
            clear hb1
            go_wp2_with fail
            refine (take_c pb tb cap a d ts [123] w1 P1.out OK.out).mono ?_
            rw [HSe.out, if_neg (by simp)]
            rintro e w2 ⟨rfl, hst, hps⟩
            have HR2 := hideP ((hst.keep _ H.out.ltp (lt_of_block HR.out)).trans HR.out)
            have HP := hideP hps
            have HST := hideP ((Stay.of H.out.ltp HB1.out).trans hst)
            clear hst hps
            go_wp2_with fail
            refine (take_c pb tb cap a d ts [40] w2 HP.out OK.out).mono ?_
            rw [HSe2.out, if_pos rfl]
            rintro e w3 ⟨rfl, hst, hps⟩
            have HR3 := hideP ((hst.keep _ H.out.ltp (lt_of_block HR2.out)).trans HR2.out)
            have HP3 := hideP hps
            have HST3 := hideP (HST.out.trans hst)
            clear hst hps
            go_wp2_with fail
            refine (HG.out.calls (a + 1) w3 HP3.out).mono ?_
            rw [HK.out]
            rintro e w4 ⟨hst, hps, v, rfl, hv⟩
            obtain ⟨k1, nm1, na1, nl1, nc1, ka1, kl1, kc1, rfl⟩ := hv.cells
            have HST4 := hideP (HST3.out.trans hst)
            have HP4 := hideP hps
            clear hst hps hv
            go_wp2_with fail
            refine (must_c pb tb cap b d ts [41] _ (HP4.out.alloc _) OK.out).mono ?_
            rw [HWa.out]
            rintro e w5 ⟨hst, rfl⟩
            have HST5 := hideP ((HST4.out.alloc H.out.ltp _).trans hst)
            clear hst
            go_wp2_with fail
            exact ⟨rfl, HST5.out, rfl⟩
          | inl x =>
            obtain ⟨u, b'⟩ := x
            have HWa := hideP hw
            clear hw
            go_enter Tryz.func112, Tryz.ntmps112
            go_wp2_with fail
            refine HW.out.mono ?_
            rintro e w1 ⟨rfl, hb1⟩
            have P1 := hideP ((H.out.alloc _).below hb1)
            have HB1 := hideP (below_next (bl_alloc _ _) hb1)
            have HR := hideP ((hb1.block w.heap.size (by simp)).trans (heap_alloc_last w _))
            clear hb1
            go_wp2_with fail
            refine (take_c pb tb cap a d ts [123] w1 P1.out OK.out).mono ?_
            rw [HSe.out, if_neg (by simp)]
            rintro e w2 ⟨rfl, hst, hps⟩
            have HR2 := hideP ((hst.keep _ H.out.ltp (lt_of_block HR.out)).trans HR.out)
            have HP := hideP hps
            have HST := hideP ((Stay.of H.out.ltp HB1.out).trans hst)
            clear hst hps
            go_wp2_with fail
            refine (take_c pb tb cap a d ts [40] w2 HP.out OK.out).mono ?_
            rw [HSe2.out, if_pos rfl]
            rintro e w3 ⟨rfl, hst, hps⟩
            have HR3 := hideP ((hst.keep _ H.out.ltp (lt_of_block HR2.out)).trans HR2.out)
            have HP3 := hideP hps
            have HST3 := hideP (HST.out.trans hst)
            clear hst hps
            go_wp2_with fail
            refine (HG.out.calls (a + 1) w3 HP3.out).mono ?_
            rw [HK.out]
            rintro e w4 ⟨hst, hps, v, rfl, hv⟩
            obtain ⟨k1, nm1, na1, nl1, nc1, ka1, kl1, kc1, rfl⟩ := hv.cells
            have HST4 := hideP (HST3.out.trans hst)
            have HP4 := hideP hps
            have HR4 := hideP ((hst.keep _ H.out.ltp (lt_of_block HR3.out)).trans HR3.out)
            have HT4 := hideP hv
            have HLt := hideP (Nat.lt_of_lt_of_le (lt_of_block HR3.out) hst.size)
            have HLt3 := hideP (lt_of_block HR3.out)
            clear hst hps hv
            go_wp2_with fail
            refine (must_c pb tb cap b d ts [41] _ (HP4.out.alloc _) OK.out).mono ?_
            rw [HWa.out]
            rintro e w5 ⟨hst, hps, v, rfl, _⟩
            have hr := (hst.keep _ H.out.ltp (by have := HLt.out; simp; omega)).trans ((Below.heap_alloc _ _ _ HLt.out).trans HR4.out)
            obtain ⟨⟨r0, r1, r2, r3⟩, ⟨f0, f1, f2, f3⟩, hr1⟩ := res_facts hr
            obtain ⟨⟨b0, b1, b2, b3⟩, _, hr2⟩ := res_facts ((hst.keep w4.heap.size HP4.out.ltp (by simp)).trans (heap_alloc_last w4 _))
            have HR5 := hideP hr
            have HP5 := hideP hps
            have HST5 := hideP ((HST4.out.alloc H.out.ltp _).trans hst)
            have HT5 := hideP ((HT4.out.alloc _).stay hst HP3.out.ltp)
            have hne : ¬ w4.heap.size = w.heap.size := by have := HLt.out; omega
            clear hst hps hr
            go_wp2_with fail
            refine bodyPost_ret (results_cell_row rfl _ _ w.heap.size 48 _ (0, 0) _ rfl (set4 HR5.out _ _ _ _) Tryz.underlying48 rfl (by kernel_rfl)) rfl ⟨stay_set4 HST5.out H.out.ltp (Nat.le_refl _) _ _ _ _, ps_set4 HP5.out H.out.ltp _ _ _ _, _, rfl, ?_⟩
            exact (HT5.out.set4 HLt3.out _ _ _ _).lower (Nat.le_of_lt HLt3.out)
      | false =>
        rw [if_neg (by simp)]
        have HSe2 := hideP hs2
        clear hs2
        cases hk : nameA ts a with
        | inr x =>
          obtain ⟨er, li, co⟩ := x
          have HK := hideP hk
          clear hk
          go_enter Tryz.func112, Tryz.ntmps112
          go_wp2_with fail
          refine HW.out.mono ?_
          rintro e w1 ⟨rfl, hb1⟩
          have P1 := hideP ((H.out.alloc _).below hb1)
          have HB1 := hideP (below_next (bl_alloc _ _) hb1)
          have HR := hideP ((hb1.block w.heap.size (by simp)).trans (heap_alloc_last w _))
          clear hb1
          go_wp2_with fail
          refine (take_c pb tb cap a d ts [123] w1 P1.out OK.out).mono ?_
          rw [HSe.out, if_neg (by simp)]
          rintro e w2 ⟨rfl, hst, hps⟩
          have HR2 := hideP ((hst.keep _ H.out.ltp (lt_of_block HR.out)).trans HR.out)
          have HP := hideP hps
          have HST := hideP ((Stay.of H.out.ltp HB1.out).trans hst)
          clear hst hps
          go_wp2_with fail
          refine (take_c pb tb cap a d ts [40] w2 HP.out OK.out).mono ?_
          rw [HSe2.out, if_neg (by simp)]
          rintro e w3 ⟨rfl, hst, hps⟩
          have HR3 := hideP ((hst.keep _ H.out.ltp (lt_of_block HR2.out)).trans HR2.out)
          have HP3 := hideP hps
          have HST3 := hideP (HST.out.trans hst)
          clear hst hps
          go_wp2_with fail
          refine (pname_c pb tb cap a d ts w3 HP3.out OK.out).mono ?_
          rw [HK.out]
          rintro e w4 ⟨hst, rfl⟩
          have HST4 := hideP (HST3.out.trans hst)
          clear hst
          go_wp2_with fail
          exact ⟨rfl, HST4.out, rfl⟩
        | inl x =>
          obtain ⟨s, b⟩ := x
          have HK := hideP hk
          have HTx := hideP (show s.length ≤ 70000 from name_text hk ▸ OK.out.txt a)
          clear hk
          go_enter Tryz.func112, Tryz.ntmps112
          go_wp2_with fail
          refine HW.out.mono ?_
          rintro e w1 ⟨rfl, hb1⟩
          have P1 := hideP ((H.out.alloc _).below hb1)
          have HB1 := hideP (below_next (bl_alloc _ _) hb1)
          have HR := hideP ((hb1.block w.heap.size (by simp)).trans (heap_alloc_last w _))
          clear hb1
          go_wp2_with fail
          refine (take_c pb tb cap a d ts [123] w1 P1.out OK.out).mono ?_
          rw [HSe.out, if_neg (by simp)]
          rintro e w2 ⟨rfl, hst, hps⟩
          have HR2 := hideP ((hst.keep _ H.out.ltp (lt_of_block HR.out)).trans HR.out)
          have HP := hideP hps
          have HST := hideP ((Stay.of H.out.ltp HB1.out).trans hst)
          clear hst hps
          go_wp2_with fail
          refine (take_c pb tb cap a d ts [40] w2 HP.out OK.out).mono ?_
          rw [HSe2.out, if_neg (by simp)]
          rintro e w3 ⟨rfl, hst, hps⟩
          have HR3 := hideP ((hst.keep _ H.out.ltp (lt_of_block HR2.out)).trans HR2.out)
          have HP3 := hideP hps
          have HST3 := hideP (HST.out.trans hst)
          clear hst hps
          go_wp2_with fail
          refine (pname_c pb tb cap a d ts w3 HP3.out OK.out).mono ?_
          rw [HK.out]
          rintro e w4 ⟨hst, hps, v, rfl, rfl⟩
          have hr := (hst.keep _ H.out.ltp (lt_of_block HR3.out)).trans HR3.out
          obtain ⟨⟨r0, r1, r2, r3⟩, ⟨f0, f1, f2, f3⟩, hr1⟩ := res_facts hr
          have HR4 := hideP hr
          have HP4 := hideP hps
          have HST4 := hideP (HST3.out.trans hst)
          clear hst hps hr
          go_wp2_with fail
          refine bodyPost_ret (results_cell_row rfl _ _ w.heap.size 48 _ (0, 0) _ rfl (set4 HR4.out _ _ _ _) Tryz.underlying48 rfl (by kernel_rfl)) rfl ⟨stay_set4 HST4.out H.out.ltp (Nat.le_refl _) _ _ _ _, ps_set4 HP4.out H.out.ltp _ _ _ _, _, rfl, ?_⟩
          exact tyE_leaf _ _ 8 ⟨s.toArray⟩ (by decide) (by have := HTx.out; unfold reachBytes; show s.toArray.size ≤ _; simp; omega)
end Go.Proofs.YthieoabbjekpkabGreatDoor

/- The parser of types: alt, arrow, within, fullType. -/
namespace Go.Proofs.YthieoabbjekpkabGreatDoor
open Go.RowKit
attribute [local go_sem ↓] Go.wp_at_zero Go.wp_at_succ

section
variable {ts : List Tok} {K : Nat → Pr Ty} {f a b : Nat} {l : List Ty} {D : Ty}
theorem alt_bad {e : Int × Nat × Nat} (h : manyA ts (primA ts K f) [124] f a = .inr e) : altA ts K f a = .inr e := by unfold altA; rw [h]; rfl
theorem alt_one (h : manyA ts (primA ts K f) [124] f a = .inl ([D], b)) : altA ts K f a = .inl (D, b) := by unfold altA; rw [h]; rfl
theorem alt_more (h : manyA ts (primA ts K f) [124] f a = .inl (l, b)) (hl : l.length ≠ 1) : altA ts K f a = .inl (mkT 7 [] [] l, b) := by
  unfold altA
  rw [h]
  match l, hl with
  | [], _ => rfl
  | [_], hl => exact absurd rfl hl
  | _ :: _ :: _, _ => rfl
end

set_option maxRecDepth 100000 in
set_option maxHeartbeats 4000000 in
theorem alt_c (pb tb cap d : Nat) (ts : List Tok) (K : Nat → Pr Ty) (hg : Reads pb tb cap d ts TyE 21 K)
    (f a : Nat) (hf : f + 1 = ts.length) (w : World) (h : Ps w pb tb cap ts a d) (ok : ToksOk ts) :
    Calls Tryz.prog 76 #[.pointer (some ⟨pb, 0, none⟩)] w (PPost pb tb cap ts d w TyE (altA ts K (f + 1) a)) := by
  have H := hideP h
  have OK := hideP ok
  have HRd : Hid (Reads pb tb cap d ts TyE 112 (primA ts K (f + 1))) := ⟨fun a w h => prim_c pb tb cap d ts K hg f a (by omega) (by have := ok.len; omega) w h ok, prim_enters pb, fun a x b hx => prim_up hg.up hx⟩
  have HL := hideP (listT_c pb tb cap d ts [124] _ _ HRd.out f a (by omega) (w.alloc zTyO) (h.alloc _) ok)
  clear h ok hg
  cases hm : manyA ts (primA ts K (f + 1)) [124] (f + 1) a with
  | inr x =>
    obtain ⟨er, li, co⟩ := x
    rw [alt_bad hm]
    rw [hm] at HL
    clear hm
    go_enter Tryz.func76, Tryz.ntmps76
    go_wp2_with fail
    refine HL.out.mono ?_
    rintro e w1 ⟨hst, rfl⟩
    have HST := hideP ((Stay.of H.out.ltp (bl_alloc _ _)).trans hst)
    clear hst
    go_wp2_with fail
    exact ⟨rfl, HST.out, rfl⟩
  | inl x =>
    obtain ⟨l, b⟩ := x
    have HLen := hideP (many_len _ hm)
    have HNe := hideP (many_some hm)
    rw [hm] at HL
    by_cases h1 : l.length = 1
    · obtain ⟨D, rfl⟩ : ∃ D, l = [D] := List.length_eq_one_iff.1 h1
      rw [alt_one hm]
      clear h1 hm
      go_enter Tryz.func76, Tryz.ntmps76
      go_wp2_with fail
      refine HL.out.mono ?_
      rintro e w1 ⟨hst, hps, v, rfl, cs, hv⟩
      obtain ⟨av, cv, m, rfl, _, hk⟩ := rows_kids hv
      obtain ⟨kb, ko, k1, nm1, na1, nl1, nc1, ka1, kl1, kc1, rfl, hkb, q0, q1, q2, q3, hT⟩ := kidF_at hk (i := 0) (by simp)
      have HR := hideP ((hst.keep _ H.out.ltp (by simp)).trans (heap_alloc_last w _))
      obtain ⟨⟨r0, r1, r2, r3⟩, ⟨f0, f1, f2, f3⟩, hr1⟩ := res_facts HR.out
      have HST := hideP ((Stay.of H.out.ltp (bl_alloc _ _)).trans hst)
      have HP := hideP hps
      have HT : Hid (TyE (w.heap.size + 1) w1 (.agg #[.int .i64 k1, .string nm1, .slice na1 nl1 nc1, .slice ka1 kl1 kc1]) D) := by
        refine ⟨m, ?_⟩
        simpa using hT
      simp only [Nat.zero_mul, Nat.add_zero] at q0 q1 q2 q3
      have hl1 : ([D] : List Ty).length = 1 := rfl
      clear hst hps hv hk hT
      go_wp2_with fail
      refine bodyPost_ret (results_cell_row rfl _ _ w.heap.size 48 _ (0, 0) _ rfl (set4 HR.out _ _ _ _) Tryz.underlying48 rfl (by kernel_rfl)) rfl ⟨stay_set4 HST.out H.out.ltp (Nat.le_refl _) _ _ _ _, ps_set4 HP.out H.out.ltp _ _ _ _, _, rfl, ?_⟩
      exact (HT.out.set4 (Nat.lt_succ_self _) _ _ _ _).lower (Nat.le_succ _)
    · have hl1 : ((l.length : Int) == 1) = false := by simp; omega
      have HLen2 : Hid (l.length ≤ 8193) := by have := HLen.out; have := OK.out.len; show _ ≤ _; omega
      rw [alt_more hm h1]
      clear h1 hm
      go_enter Tryz.func76, Tryz.ntmps76
      go_wp2_with fail
      refine HL.out.mono ?_
      rintro e w1 ⟨hst, hps, v, rfl, cs, hv⟩
      obtain ⟨av, cv, m, rfl, hcv, hk⟩ := rows_kids hv
      have HR := hideP ((hst.keep _ H.out.ltp (by simp)).trans (heap_alloc_last w _))
      obtain ⟨⟨r0, r1, r2, r3⟩, ⟨f0, f1, f2, f3⟩, hr1⟩ := res_facts HR.out
      have HST := hideP ((Stay.of H.out.ltp (bl_alloc _ _)).trans hst)
      have HP := hideP hps
      have HT : Hid (TyE (w.heap.size + 1) w1 (.agg #[.int .i64 7, .string ⟨#[]⟩, .slice none 0 0, .slice av l.length cv]) (mkT 7 [] [] l)) :=
        ⟨m + 1, 7, ⟨#[]⟩, none, 0, av, cv, [], l, rfl, rfl, by decide, by decide, (fun _ h => nomatch h), ⟨Nat.le_refl _, Nat.zero_le _⟩, ⟨hcv, (by have := HLen2.out; unfold reachBytes; omega)⟩, .inl rfl, by simpa using hk⟩
      clear hst hps hv hk
      go_wp2_with fail
      refine bodyPost_ret (results_cell_row rfl _ _ w.heap.size 48 _ (0, 0) _ rfl (set4 HR.out _ _ _ _) Tryz.underlying48 rfl (by kernel_rfl)) rfl ⟨stay_set4 HST.out H.out.ltp (Nat.le_refl _) _ _ _ _, ps_set4 HP.out H.out.ltp _ _ _ _, _, rfl, ?_⟩
      exact (HT.out.set4 (Nat.lt_succ_self _) _ _ _ _).lower (Nat.le_succ _)

theorem pr_inl {α β : Type} (x : α) (a : Nat) (f : α → Nat → Pr β) : Pr.go (.inl (x, a)) f = f x a := rfl
theorem pr_inr {α β : Type} (e : Int × Nat × Nat) (f : α → Nat → Pr β) : Pr.go (.inr e : Pr α) f = .inr e := rfl

/-- The cells of a type in a box. -/
abbrev BoxT (W : World) (b : Nat) (k : Int) (nm : ByteArray) (na : Option Addr) (nl nc : Nat) (ka : Option Addr) (kl kc : Nat) : Prop :=
  W.cell? ⟨b, 0, none⟩ = some (.int .i64 k) ∧ W.cell? ⟨b, 1, none⟩ = some (.string nm) ∧ W.cell? ⟨b, 2, none⟩ = some (.slice na nl nc) ∧ W.cell? ⟨b, 3, none⟩ = some (.slice ka kl kc)

section
variable {W : World} {b c : Nat} {k : Int} {nm : ByteArray} {na : Option Addr} {nl nc : Nat} {ka : Option Addr} {kl kc : Nat}
theorem BoxT.alloc (h : BoxT W b k nm na nl nc ka kl kc) (hb : b < W.heap.size) (o : Obj) : BoxT (W.alloc o) b k nm na nl nc ka kl kc := by
  have hc : ∀ j, (W.alloc o).cell? ⟨b, j, none⟩ = W.cell? ⟨b, j, none⟩ := fun j => World.cell?_of_block (w := W) (a := ⟨b, j, none⟩) (Below.heap_alloc _ _ _ hb)
  exact ⟨(hc 0).trans h.1, (hc 1).trans h.2.1, (hc 2).trans h.2.2.1, (hc 3).trans h.2.2.2⟩
theorem BoxT.set4 (h : BoxT W b k nm na nl nc ka kl kc) (hb : b ≠ c) (x0 x1 x2 x3 : Value) : BoxT ((((W.setCell ⟨c, 0, none⟩ x0).setCell ⟨c, 1, none⟩ x1).setCell ⟨c, 2, none⟩ x2).setCell ⟨c, 3, none⟩ x3) b k nm na nl nc ka kl kc := by
  have hc : ∀ j, ((((W.setCell ⟨c, 0, none⟩ x0).setCell ⟨c, 1, none⟩ x1).setCell ⟨c, 2, none⟩ x2).setCell ⟨c, 3, none⟩ x3).cell? ⟨b, j, none⟩ = W.cell? ⟨b, j, none⟩ := fun j => World.cell?_of_block (w := W) (a := ⟨b, j, none⟩) (other_set4 hb _ _ _ _)
  exact ⟨(hc 0).trans h.1, (hc 1).trans h.2.1, (hc 2).trans h.2.2.1, (hc 3).trans h.2.2.2⟩
end

/-- A type's box as it was made. -/
def ZeroT (W : World) (b : Nat) : Prop := (W.cell? ⟨b, 0, none⟩ = some (.int .i64 0) ∧ W.cell? ⟨b, 1, none⟩ = some (.string ⟨#[]⟩) ∧ W.cell? ⟨b, 2, none⟩ = some (.slice none 0 0) ∧ W.cell? ⟨b, 3, none⟩ = some (.slice none 0 0)) ∧
  (W.frozen? ⟨b, 0, none⟩ = false ∧ W.frozen? ⟨b, 1, none⟩ = false ∧ W.frozen? ⟨b, 2, none⟩ = false ∧ W.frozen? ⟨b, 3, none⟩ = false) ∧ b < W.heap.size
theorem zeroT {W : World} {b : Nat} (h : W.heap[b]? = some zTyO) : ZeroT W b := res_facts h

/-- Two types in a row. -/
theorem tyE_fun {lo : Nat} {w : World} {c1 c2 : List Value} {D1 D2 : Ty} (h1 : TyE lo w (.agg c1.toArray) D1) (h2 : TyE lo w (.agg c2.toArray) D2) (hc1 : c1.length = 4) (hc2 : c2.length = 4) (hlo : lo ≤ w.heap.size) :
    TyE lo (w.alloc (.cells (c1 ++ c2).toArray 48)) (.agg #[.int .i64 6, .string ⟨#[]⟩, .slice none 0 0, .slice (some ⟨w.heap.size, 0, none⟩) 2 2]) (mkT 6 [] [] [D1, D2]) := by
  obtain ⟨m1, h1⟩ := h1
  obtain ⟨m2, h2⟩ := h2
  have hk : ∀ {v D m}, TyF w lo m v D → TyF (w.alloc (.cells (c1 ++ c2).toArray 48)) lo m v D := fun h => tyF_keep h (by simp) fun i _ hl => Below.heap_alloc _ _ _ hl
  have g1 := hk (tyF_mono h1 (Nat.le_max_left m1 m2))
  have g2 := hk (tyF_mono h2 (Nat.le_max_right m1 m2))
  refine ⟨max m1 m2 + 1, 6, ⟨#[]⟩, none, 0, some ⟨w.heap.size, 0, none⟩, 2, [], [D1, D2], rfl, rfl, by decide, by decide, (fun _ h => nomatch h), ⟨Nat.le_refl _, Nat.zero_le _⟩, ⟨Nat.le_refl _, (by show 2 ≤ _; decide)⟩, .inl rfl, .inr ⟨w.heap.size, 0, rfl, hlo, ⟨_, _, heap_alloc_last _ _⟩, fun i hi => ?_⟩⟩
  match c1, hc1, c2, hc2 with
  | [x0, x1, x2, x3], _, [y0, y1, y2, y3], _ =>
    match i, hi with
    | 0, _ => exact ⟨x0, x1, x2, x3, by rw [cell_of_row _ _ _ _ _ _ (heap_alloc_last w _)]; rfl, by rw [cell_of_row _ _ _ _ _ _ (heap_alloc_last w _)]; rfl, by rw [cell_of_row _ _ _ _ _ _ (heap_alloc_last w _)]; rfl, by rw [cell_of_row _ _ _ _ _ _ (heap_alloc_last w _)]; rfl, g1⟩
    | 1, _ => exact ⟨y0, y1, y2, y3, by rw [cell_of_row _ _ _ _ _ _ (heap_alloc_last w _)]; rfl, by rw [cell_of_row _ _ _ _ _ _ (heap_alloc_last w _)]; rfl, by rw [cell_of_row _ _ _ _ _ _ (heap_alloc_last w _)]; rfl, by rw [cell_of_row _ _ _ _ _ _ (heap_alloc_last w _)]; rfl, g2⟩

set_option maxRecDepth 100000 in
set_option maxHeartbeats 4000000 in
theorem arrow_c (pb tb cap d n : Nat) (ts : List Tok) (ih : ∀ a w, Ps w pb tb cap ts a (d + 1) → Calls Tryz.prog 21 #[.pointer (some ⟨pb, 0, none⟩)] w (PPost pb tb cap ts (d + 1) w TyE (kindA ts ts.length n (d + 1) a)))
    (a : Nat) (w : World) (h : Ps w pb tb cap ts a (d + 1)) (ok : ToksOk ts) :
    Calls Tryz.prog 45 #[.pointer (some ⟨pb, 0, none⟩)] w (PPost pb tb cap ts (d + 1) w TyE ((altA ts (kindA ts ts.length n (d + 1)) ts.length a).go fun t a => if seesA ts a [45, 62] then (kindA ts ts.length n (d + 1) (a + 1)).go fun r a => .inl (mkT 6 [] [] [t, r], a) else .inl (t, a))) := by
  have H := hideP h
  have OK := hideP ok
  have HI := hideP ih
  obtain ⟨f, hf⟩ : ∃ f, f + 1 = ts.length := ⟨ts.length - 1, by have := ok.pos; omega⟩
  have HA := hideP (alt_c pb tb cap (d + 1) ts (kindA ts ts.length n (d + 1)) ⟨ih, kind_enters pb, fun a x b hx => kind_up hx⟩ f a hf (w.alloc zTyO) (h.alloc _) ok)
  rw [hf] at HA
  obtain ⟨R, hR⟩ : ∃ R, R = ((altA ts (kindA ts ts.length n (d + 1)) ts.length a).go fun t a => if seesA ts a [45, 62] then (kindA ts ts.length n (d + 1) (a + 1)).go fun r a => .inl (mkT 6 [] [] [t, r], a) else .inl (t, a)) := ⟨_, rfl⟩
  rw [← hR]
  have HRr := hideP hR
  clear h ok ih hR
  go_enter Tryz.func45, Tryz.ntmps45
  go_wp2_with fail
  refine HA.out.mono ?_
  rintro e w1 ⟨hst, hpost⟩
  have HST := hideP ((Stay.of H.out.ltp (bl_alloc _ _)).trans hst)
  have HR := hideP ((hst.keep _ H.out.ltp (by simp)).trans (heap_alloc_last w _))
  clear hst
  rcases hA : altA ts (kindA ts ts.length n (d + 1)) ts.length a with ⟨D, b⟩ | ⟨er, li, co⟩
  case inr =>
    rw [hA] at hpost
    have HE : Hid (R = .inr (er, li, co)) := by show _ = _; simp only [HRr.out, hA, pr_inr]
    subst hpost
    clear hA
    go_wp2_with fail
    exact ⟨rfl, HST.out, by rw [HE.out]⟩
  rw [hA] at hpost
  obtain ⟨hps, v, rfl, hv⟩ := hpost
  obtain ⟨k1, nm1, na1, nl1, nc1, ka1, kl1, kc1, rfl⟩ := hv.cells
  have HRA : Hid (R = if seesA ts b [45, 62] then (kindA ts ts.length n (d + 1) (b + 1)).go fun r a => .inl (mkT 6 [] [] [D, r], a) else .inl (D, b)) := by show _ = _; simp only [HRr.out, hA, pr_inl]
  have HP := hideP hps
  have HT := hideP hv
  clear hps hv hA HRr
  go_wp2_with fail
  refine (take_c pb tb cap b (d + 1) ts [45, 62] _ (HP.out.alloc _) OK.out).mono ?_
  rintro e w2 ⟨rfl, hst, hps⟩
  have HR2 := hideP ((hst.keep _ H.out.ltp (by have := lt_of_block HR.out; simp; omega)).trans ((Below.heap_alloc _ _ _ (lt_of_block HR.out)).trans HR.out))
  have HST2 := hideP ((HST.out.alloc H.out.ltp _).trans hst)
  have HT2 := hideP ((HT.out.alloc _).stay hst (by have := H.out.ltp; simp; omega))
  have HBx := hideP ((hst.keep w1.heap.size HP.out.ltp (by simp)).trans (heap_alloc_last w1 _))
  clear hst
  cases hs : seesA ts b [45, 62] with
  | false =>
    rw [hs, if_neg (by simp)] at hps
    have HP2 := hideP hps
    have HE : Hid (R = .inl (D, b)) := by rw [HRA.out, if_neg (by simp [hs])]; exact rfl
    obtain ⟨⟨r0, r1, r2, r3⟩, ⟨f0, f1, f2, f3⟩, hr1⟩ := res_facts HR2.out
    obtain ⟨⟨b0, b1, b2, b3⟩, _, hr2⟩ := res_facts HBx.out
    have hne : ¬ w1.heap.size = w.heap.size := by have := lt_of_block HR.out; omega
    clear hps hs
    go_wp2_with fail
    rw [HE.out]
    refine bodyPost_ret (results_cell_row rfl _ _ w.heap.size 48 _ (0, 0) _ rfl (set4 HR2.out _ _ _ _) Tryz.underlying48 rfl (by kernel_rfl)) rfl ⟨stay_set4 HST2.out H.out.ltp (Nat.le_refl _) _ _ _ _, ps_set4 HP2.out H.out.ltp _ _ _ _, _, rfl, ?_⟩
    exact (HT2.out.set4 (by simp) _ _ _ _).lower (by simp)
  | true =>
    rw [hs, if_pos rfl] at hps
    have HP2 := hideP hps
    have HRB : Hid (R = (kindA ts ts.length n (d + 1) (b + 1)).go fun r a => .inl (mkT 6 [] [] [D, r], a)) := by rw [HRA.out, if_pos hs]; exact rfl
    have HAft : Hid (∀ wa w3, wa.heap = w2.heap → Stay pb wa w3 → BoxT w3 w1.heap.size k1 nm1 na1 nl1 nc1 ka1 kl1 kc1 ∧ w3.heap[w.heap.size]? = some zTyO ∧ TyE (w.heap.size + 1) w3 (.agg #[.int .i64 k1, .string nm1, .slice na1 nl1 nc1, .slice ka1 kl1 kc1]) D) := by
      intro wa w3 e hs
      have hl := lt_of_block HBx.out
      have hl2 := lt_of_block HR2.out
      refine ⟨(res_facts ((hs.keep w1.heap.size HP.out.ltp (by rw [e]; exact hl)).trans (by rw [e]; exact HBx.out))).1, (hs.keep w.heap.size H.out.ltp (by rw [e]; exact hl2)).trans (by rw [e]; exact HR2.out), ?_⟩
      have ht : TyE (w.heap.size + 1) wa (.agg #[.int .i64 k1, .string nm1, .slice na1 nl1 nc1, .slice ka1 kl1 kc1]) D := (by simpa using HT2.out : TyE (w.heap.size + 1) w2 _ D).keep (by rw [e]; exact Nat.le_refl _) fun i _ _ => by rw [e]
      exact ht.stay hs (by have := H.out.ltp; omega)
    have hS0 : BoxT w2.drew w1.heap.size k1 nm1 na1 nl1 nc1 ka1 kl1 kc1 := (res_facts HBx.out).1
    have HC : Hid (Calls Tryz.prog 21 #[.pointer (some ⟨pb, 0, none⟩)] w2.drew fun e w3 => (∃ chain, e = .panicked chain ∧ PPost pb tb cap ts (d + 1) w TyE R e w3) ∨
        ∃ D2 b2 k4 nm4 na4 nl4 nc4 ka4 kl4 kc4, e = .returned (.agg #[.int .i64 k4, .string nm4, .slice na4 nl4 nc4, .slice ka4 kl4 kc4]) ∧ BoxT w3 w1.heap.size k1 nm1 na1 nl1 nc1 ka1 kl1 kc1 ∧ ZeroT w3 w.heap.size ∧ Hid (∀ o, BoxT (w3.alloc o) w1.heap.size k1 nm1 na1 nl1 nc1 ka1 kl1 kc1) ∧ Hid (∀ o x0 x1 x2 x3, BoxT (((((w3.setCell ⟨w.heap.size, 0, none⟩ x0).setCell ⟨w.heap.size, 1, none⟩ x1).setCell ⟨w.heap.size, 2, none⟩ x2).setCell ⟨w.heap.size, 3, none⟩ x3).alloc o) w1.heap.size k1 nm1 na1 nl1 nc1 ka1 kl1 kc1) ∧ Hid (R = .inl (mkT 6 [] [] [D, D2], b2) ∧ Stay pb w w3 ∧ Ps w3 pb tb cap ts b2 (d + 1) ∧
          w3.heap[w.heap.size]? = some zTyO ∧ TyE (w.heap.size + 1) w3 (.agg #[.int .i64 k1, .string nm1, .slice na1 nl1 nc1, .slice ka1 kl1 kc1]) D ∧ TyE (w.heap.size + 1) w3 (.agg #[.int .i64 k4, .string nm4, .slice na4 nl4 nc4, .slice ka4 kl4 kc4]) D2)) := by
      refine (HI.out (b + 1) w2.drew HP2.out.drew).mono ?_
      rintro e w3 ⟨hst, hpost⟩
      have hst3 := HST2.out.drew.trans hst
      obtain ⟨g1, g2, g3⟩ := HAft.out w2.drew w3 (Eq.refl w2.heap) hst
      rcases hk : kindA ts ts.length n (d + 1) (b + 1) with ⟨D2, b2⟩ | ⟨er, li, co⟩
      · rw [hk] at hpost
        obtain ⟨hps, v, rfl, hv⟩ := hpost
        obtain ⟨k4, nm4, na4, nl4, nc4, ka4, kl4, kc4, rfl⟩ := hv.cells
        exact .inr ⟨D2, b2, _, _, _, _, _, _, _, _, rfl, g1, zeroT g2, (fun o => g1.alloc (Nat.lt_of_lt_of_le (lt_of_block HBx.out) hst.size) o), (fun o x0 x1 x2 x3 => (g1.set4 (by have := lt_of_block HR.out; omega) x0 x1 x2 x3).alloc (by rw [size_set4]; exact Nat.lt_of_lt_of_le (lt_of_block HBx.out) hst.size) o), by rw [HRB.out, hk]; rfl, hst3, hps, g2, g3, hv.lower (lt_of_block HR2.out)⟩
      · rw [hk] at hpost
        subst hpost
        exact .inl ⟨_, rfl, hst3, by rw [HRB.out, hk]; rfl⟩
    clear hps hs
    unfold BoxT at hS0
    have hne : ¬ w1.heap.size = w.heap.size := by have := lt_of_block HR.out; omega
    have hne' : ¬ w.heap.size = w1.heap.size := by have := lt_of_block HR.out; omega
    go_wp2_with fail
    go_region_held (fun W => W.cell? ⟨w1.heap.size, 0, none⟩ = some (.int .i64 k1) ∧ W.cell? ⟨w1.heap.size, 1, none⟩ = some (.string nm1) ∧ W.cell? ⟨w1.heap.size, 2, none⟩ = some (.slice na1 nl1 nc1) ∧ W.cell? ⟨w1.heap.size, 3, none⟩ = some (.slice ka1 kl1 kc1)) (first | with_reducible assumption | with_reducible exact HS3.out _ | with_reducible exact HS4.out _ _ _ _ _) (first
      | (go_at_call 21; refine HC.out.mono ?_; rintro e w3 (⟨ch, rfl, hf⟩ | ⟨D2, b2, k4, nm4, na4, nl4, nc4, ka4, kl4, kc4, rfl, t5, t6, HS3, HS4, HX⟩); exact ⟨rfl, hf⟩; unfold BoxT at t5; obtain ⟨⟨r0, r1, r2, r3⟩, ⟨f0, f1, f2, f3⟩, hl4⟩ := t6))
    all_goals
      go_wp2_with fail
      obtain ⟨e1, e2, e3, e4, e5, e6⟩ := HX.out
      rw [e1]
      have hlt : w.heap.size < w3.heap.size := lt_of_block e4
      refine bodyPost_ret (results_cell_row rfl _ _ w.heap.size 48 _ (0, 0) _ rfl ((Below.heap_alloc _ _ _ (by rw [size_set4]; exact hlt)).trans (set4 e4 _ _ _ _)) Tryz.underlying48 rfl (by kernel_rfl)) rfl ⟨(stay_set4 e2 H.out.ltp (Nat.le_refl _) _ _ _ _).alloc H.out.ltp _, (ps_set4 e3 H.out.ltp _ _ _ _).alloc _, _, rfl, ?_⟩
      have hf := tyE_fun (c1 := [.int .i64 k1, .string nm1, .slice na1 nl1 nc1, .slice ka1 kl1 kc1]) (c2 := [.int .i64 k4, .string nm4, .slice na4 nl4 nc4, .slice ka4 kl4 kc4]) (e5.set4 (b := w.heap.size) (Nat.lt_succ_self _) (.int .i64 6) (.string ⟨#[]⟩) (.slice none 0 0) (.slice (some ⟨w3.heap.size, 0, none⟩) 2 2)) (e6.set4 (Nat.lt_succ_self _) _ _ _ _) rfl rfl (by rw [size_set4]; exact hlt)
      rw [size_set4] at hf
      exact hf.lower (Nat.le_succ _)

set_option maxRecDepth 100000 in
set_option maxHeartbeats 4000000 in
theorem withinT_c (pb tb cap a d g : Nat) (ts : List Tok) (r : Pr Ty) (hd : d < 100) (hg : ∀ w, Ps w pb tb cap ts a (d + 1) → Calls Tryz.prog g #[.pointer (some ⟨pb, 0, none⟩)] w (PPost pb tb cap ts (d + 1) w TyE r)) (hen : Enters g pb)
    (w : World) (h : Ps w pb tb cap ts a d) :
    Calls Tryz.prog 44 #[.pointer (some ⟨pb, 0, none⟩), .func (.func g) #[] #[]] w (PPost pb tb cap ts d w TyE r) := by
  have H := hideP h
  have HG := hideP hg
  have hp := h.ltp
  obtain ⟨c0, c1, c2⟩ := h.cells
  have z2 := h.fz 2
  have hd1 : ((d : Int) == 100) = false := by simp; omega
  clear h hg
  go_enter Tryz.func44, Tryz.ntmps44
  go_wp2_with fail
  rw [show ((d : Int) + 1) = ((d + 1 : Nat) : Int) by omega]
  refine (HG.out _ ((H.out.setDeep (d + 1)).alloc _)).mono ?_
  rintro e w1 ⟨hst, hpost⟩
  have HST : Hid (Stay pb w w1) := (((Stay.refl pb w).set 2 _).alloc hp _).trans hst
  have HR := hideP ((hst.keep w.heap.size hp (by simp [World.setCell])).trans (heap_set_alloc w _ _ _))
  have HLo : Hid (∀ x, PPost pb tb cap ts (d + 1) ((w.setCell ⟨pb, 2, none⟩ (.int .i64 ((d + 1 : Nat) : Int))).alloc zTyO) TyE (.inl x) e w1 → Ps w1 pb tb cap ts x.2 (d + 1) ∧ ∃ v, e = .returned v ∧ TyE (w.heap.size + 1) w1 v x.1) := by
    rintro ⟨x, b⟩ ⟨_, h1, v, h2, h3⟩
    refine ⟨h1, v, h2, ?_⟩
    have : ((w.setCell ⟨pb, 2, none⟩ (.int .i64 ((d + 1 : Nat) : Int))).alloc zTyO).heap.size = w.heap.size + 1 := by simp [World.setCell]
    rw [this] at h3
    exact h3
  have HPo : Hid (PPost pb tb cap ts (d + 1) ((w.setCell ⟨pb, 2, none⟩ (.int .i64 ((d + 1 : Nat) : Int))).alloc zTyO) TyE r e w1) := ⟨hst, hpost⟩
  clear hst hpost
  rcases r with ⟨D, b⟩ | ⟨er, li, co⟩
  case inr =>
    obtain ⟨_, rfl⟩ := HPo.out
    go_wp2_with fail
    exact ⟨rfl, HST.out, rfl⟩
  obtain ⟨hps, v, rfl, hv⟩ := HLo.out _ HPo.out
  obtain ⟨k1, nm1, na1, nl1, nc1, ka1, kl1, kc1, rfl⟩ := hv.cells
  have HP := hideP hps
  have HT := hideP hv
  clear hps hv HPo HLo c0 c1 c2 z2
  obtain ⟨c0, c1, c2⟩ := HP.out.cells
  have z2 := HP.out.fz 2
  have hp1 := HP.out.ltp
  obtain ⟨⟨r0, r1, r2, r3⟩, ⟨f0, f1, f2, f3⟩, hr1⟩ := res_facts HR.out
  have hpw : ¬ pb = w.heap.size := by omega
  have hpw' : ¬ w.heap.size = pb := by omega
  have hne : ¬ w1.heap.size = w.heap.size := by omega
  have hne' : ¬ w1.heap.size = pb := by omega
  go_wp2_with fail
  refine bodyPost_ret (results_cell_row rfl _ _ w.heap.size 48 _ (0, 0) _ rfl ((Below.heap_alloc _ _ _ (by rw [size_set4, size_set]; exact hr1)).trans (set4 ((Below.heap_setCell _ _ _ _ hpw').trans HR.out) _ _ _ _)) Tryz.underlying48 rfl (by kernel_rfl)) rfl ⟨(stay_set4 (HST.out.set 2 _) hp (Nat.le_refl _) _ _ _ _).alloc hp _, (ps_set4 (HP.out.setDeep d) hp _ _ _ _).alloc _, _, rfl, ?_⟩
  exact (((HT.out.set1 (by omega) _ _).set4 (Nat.lt_succ_self _) _ _ _ _).alloc _).lower (Nat.le_succ _)

set_option maxRecDepth 100000 in
set_option maxHeartbeats 4000000 in
theorem withinT_deep (pb tb cap a g : Nat) (ts : List Tok) (w : World) (h : Ps w pb tb cap ts a 100) :
    Calls Tryz.prog 44 #[.pointer (some ⟨pb, 0, none⟩), .func (.func g) #[] #[]] w (PPost pb tb cap ts 100 w TyE (badA ts 6 a)) := by
  have H := hideP h
  have hp := h.ltp
  obtain ⟨c0, c1, c2⟩ := h.cells
  clear h
  go_enter Tryz.func44, Tryz.ntmps44
  go_wp2_with fail
  refine (wrong_c pb tb cap a 100 ts _ (H.out.alloc _) 6).mono ?_
  rintro e w2 ⟨rfl, hb2⟩
  have HB2 := hideP (below_next (bl_alloc _ _) hb2)
  clear hb2
  go_wp2_with fail
  exact ⟨rfl, Stay.of hp HB2.out, rfl⟩

theorem arrow_enters (pb : Nat) : Enters 45 pb := fun w => enters_of Tryz.func45 (by kernel_rfl) (by kernel_rfl) _ w

set_option maxRecDepth 100000 in
set_option maxHeartbeats 4000000 in
/-- A type, by whatever way it is read within. -/
theorem full_of (pb tb cap d : Nat) (ts : List Tok) (r : Pr Ty) (w : World) (hw : ∀ w1, Below w.heap.size w w1 → Calls Tryz.prog 44 #[.pointer (some ⟨pb, 0, none⟩), .func (.func 45) #[] #[]] w1 (PPost pb tb cap ts d w1 TyE r)) (hp : pb < w.heap.size) :
    Calls Tryz.prog 21 #[.pointer (some ⟨pb, 0, none⟩)] w (PPost pb tb cap ts d w TyE r) := by
  have HW := hideP hw
  clear hw
  go_enter Tryz.func21, Tryz.ntmps21
  go_wp2_with fail
  refine (HW.out _ (bl_alloc _ _)).mono ?_
  rintro e w1 ⟨hst, hpost⟩
  have HST := hideP ((Stay.of hp (bl_alloc _ _)).trans hst)
  have HR := hideP ((hst.keep _ hp (by simp)).trans (heap_alloc_last w _))
  clear hst
  rcases r with ⟨D, b⟩ | ⟨er, li, co⟩
  case inr =>
    subst hpost
    go_wp2_with fail
    exact ⟨rfl, HST.out, rfl⟩
  obtain ⟨hps, v, rfl, hv⟩ := hpost
  obtain ⟨k1, nm1, na1, nl1, nc1, ka1, kl1, kc1, rfl⟩ := hv.cells
  have HP := hideP hps
  have HT := hideP hv
  obtain ⟨⟨r0, r1, r2, r3⟩, ⟨f0, f1, f2, f3⟩, hr1⟩ := res_facts HR.out
  clear hps hv
  go_wp2_with fail
  refine bodyPost_ret (results_cell_row rfl _ _ w.heap.size 48 _ (0, 0) _ rfl (set4 HR.out _ _ _ _) Tryz.underlying48 rfl (by kernel_rfl)) rfl ⟨stay_set4 HST.out hp (Nat.le_refl _) _ _ _ _, ps_set4 HP.out hp _ _ _ _, _, rfl, ?_⟩
  exact (HT.out.set4 (by simp) _ _ _ _).lower (by simp)

/-- fullType: the rule 'type'. -/
theorem kind_c (pb tb cap : Nat) (ts : List Tok) (ok : ToksOk ts) : ∀ (n d a : Nat) (w : World), d + n = 101 → d ≤ 100 → Ps w pb tb cap ts a d →
    Calls Tryz.prog 21 #[.pointer (some ⟨pb, 0, none⟩)] w (PPost pb tb cap ts d w TyE (kindA ts ts.length n d a))
  | 0, d, _, _, h1, h2, _ => absurd h1 (by omega)
  | n + 1, d, a, w, h1, h2, h => by
    rw [kindA]
    by_cases hd : 100 ≤ d
    · obtain rfl : d = 100 := by omega
      rw [if_pos hd]
      exact full_of pb tb cap 100 ts _ w (fun w1 hb => withinT_deep pb tb cap a _ ts w1 (h.below hb)) h.ltp
    · rw [if_neg hd]
      exact full_of pb tb cap d ts _ w (fun w1 hb => withinT_c pb tb cap a d _ ts _ (by omega) (fun w2 h2 => arrow_c pb tb cap d n ts (fun a w h => kind_c pb tb cap ts ok n (d + 1) a w (by omega) (by omega) h) a w2 h2 ok) (arrow_enters pb) w1 (h.below hb)) h.ltp
end Go.Proofs.YthieoabbjekpkabGreatDoor

/- Expressions that the parser makes. -/
namespace Go.Proofs.YthieoabbjekpkabGreatDoor
open Go.RowKit

section
variable {w w' : World} {lo lo' n m : Nat} {x : NV} {D : Ty} {ka : Option Addr} {ks : List Ty} {a : Option Addr} {ns : List (List UInt8)}

theorem namesF_lower (h : NamesF w lo a ns) (hl : lo' ≤ lo) : NamesF w lo' a ns := by
  rcases h with h | ⟨b, o, e, hb, r⟩
  · exact .inl h
  · exact .inr ⟨b, o, e, by omega, r⟩
theorem kidsF_lower (h : KidsF w lo n ka ks) (hl : lo' ≤ lo) : KidsF w lo' n ka ks := by
  rcases h with h | ⟨b, o, e, hb, hc, r⟩
  · exact .inl h
  · refine .inr ⟨b, o, e, by omega, hc, fun i hi => ?_⟩
    obtain ⟨c0, c1, c2, c3, e0, e1, e2, e3, ht⟩ := r i hi
    exact ⟨c0, c1, c2, c3, e0, e1, e2, e3, tyF_lower ht hl⟩
theorem kidsF_mono (h : KidsF w lo n ka ks) (hm : n ≤ m) : KidsF w lo m ka ks := by
  rcases h with h | ⟨b, o, e, hb, hc, r⟩
  · exact .inl h
  · refine .inr ⟨b, o, e, hb, hc, fun i hi => ?_⟩
    obtain ⟨c0, c1, c2, c3, e0, e1, e2, e3, ht⟩ := r i hi
    exact ⟨c0, c1, c2, c3, e0, e1, e2, e3, tyF_mono ht hm⟩

theorem nodeF_lower (h : NodeF w lo n x D) (hl : lo' ≤ lo) : NodeF w lo' n x D := by
  induction n generalizing x D with
  | zero => exact h.elim
  | succ n ih =>
    obtain ⟨tys, ns, ks, e, h1, h2, h3, h4, h5⟩ := h
    refine ⟨tys, ns, ks, e, h1, h2, kidsF_lower h3 hl, namesF_lower h4 hl, ?_⟩
    rcases h5 with h5 | ⟨b, o, e, hb, hcl, hc⟩
    · exact .inl h5
    · refine .inr ⟨b, o, e, by omega, hcl, fun i hi => ?_⟩
      obtain ⟨y, hy, ht⟩ := hc i hi
      exact ⟨y, hy, ih ht⟩

theorem nodeF_mono (h : NodeF w lo n x D) (hm : n ≤ m) : NodeF w lo m x D := by
  induction n generalizing m x D with
  | zero => exact h.elim
  | succ n ih =>
    obtain ⟨m, rfl⟩ : ∃ p, m = p + 1 := ⟨m - 1, by omega⟩
    obtain ⟨tys, ns, ks, e, h1, h2, h3, h4, h5⟩ := h
    refine ⟨tys, ns, ks, e, h1, h2, kidsF_mono h3 (by omega), h4, ?_⟩
    rcases h5 with h5 | ⟨b, o, e, hb, hcl, hc⟩
    · exact .inl h5
    · refine .inr ⟨b, o, e, hb, hcl, fun i hi => ?_⟩
      obtain ⟨y, hy, ht⟩ := hc i hi
      exact ⟨y, hy, ih ht (by omega)⟩
end

/-- An expression that was made: it lies from block lo on. -/
def NdV (lo : Nat) (w : World) (x : NV) (D : Ty) : Prop := ∃ m, NodeF w lo m x D
def NdE (lo : Nat) (w : World) (v : Value) (D : Ty) : Prop := ∃ x : NV, v = x.val ∧ NdV lo w x D

/-- Eight stores into a box. -/
abbrev put8 (w : World) (b : Nat) (x : NV) : World := (((((((w.setCell ⟨b, 0, none⟩ (.int .i64 x.k)).setCell ⟨b, 1, none⟩ (.string x.tx)).setCell ⟨b, 2, none⟩ (.int .i64 x.N)).setCell ⟨b, 3, none⟩ (.int .i64 x.li)).setCell ⟨b, 4, none⟩ (.int .i64 x.co)).setCell ⟨b, 5, none⟩ (.slice x.ta x.tl x.tc)).setCell ⟨b, 6, none⟩ (.slice x.na x.nl x.nc)).setCell ⟨b, 7, none⟩ (.slice x.ka x.kl x.kc)

abbrev zNV : NV := ⟨0, ⟨#[]⟩, 0, 0, 0, none, 0, 0, none, 0, 0, none, 0, 0⟩

section
variable {w w' : World} {lo lo' b pb : Nat} {x y : NV} {D : Ty}
theorem put8_heap (h : w.heap[b]? = some y.obj) : (put8 w b x).heap[b]? = some x.obj := by
  have h0 := cells_setCell (o := 0) (u := .int .i64 x.k) h
  simp only [List.setIfInBounds_toArray, List.set_cons_zero] at h0
  have h1 := cells_setCell (o := 1) (u := .string x.tx) h0
  simp only [List.setIfInBounds_toArray, List.set_cons_zero, List.set_cons_succ] at h1
  have h2 := cells_setCell (o := 2) (u := .int .i64 x.N) h1
  simp only [List.setIfInBounds_toArray, List.set_cons_zero, List.set_cons_succ] at h2
  have h3 := cells_setCell (o := 3) (u := .int .i64 x.li) h2
  simp only [List.setIfInBounds_toArray, List.set_cons_zero, List.set_cons_succ] at h3
  have h4 := cells_setCell (o := 4) (u := .int .i64 x.co) h3
  simp only [List.setIfInBounds_toArray, List.set_cons_zero, List.set_cons_succ] at h4
  have h5 := cells_setCell (o := 5) (u := .slice x.ta x.tl x.tc) h4
  simp only [List.setIfInBounds_toArray, List.set_cons_zero, List.set_cons_succ] at h5
  have h6 := cells_setCell (o := 6) (u := .slice x.na x.nl x.nc) h5
  simp only [List.setIfInBounds_toArray, List.set_cons_zero, List.set_cons_succ] at h6
  have h7 := cells_setCell (o := 7) (u := .slice x.ka x.kl x.kc) h6
  simp only [List.setIfInBounds_toArray, List.set_cons_zero, List.set_cons_succ] at h7
  exact h7
theorem put8_size : (put8 w b x).heap.size = w.heap.size := by
  unfold put8
  rw [size_set, size_set, size_set, size_set, size_set, size_set, size_set, size_set]
theorem put8_other {i : Nat} (hi : i ≠ b) : (put8 w b x).heap[i]? = w.heap[i]? := by
  unfold put8
  rw [Below.heap_setCell _ _ _ _ hi, Below.heap_setCell _ _ _ _ hi, Below.heap_setCell _ _ _ _ hi, Below.heap_setCell _ _ _ _ hi, Below.heap_setCell _ _ _ _ hi, Below.heap_setCell _ _ _ _ hi, Below.heap_setCell _ _ _ _ hi, Below.heap_setCell _ _ _ _ hi]
theorem stay_put8 (h : Stay pb w w') (hp : pb < w.heap.size) (hb : w.heap.size ≤ b) (x : NV) : Stay pb w (put8 w' b x) :=
  (((((((h.own hp hb 0 _).own hp hb 1 _).own hp hb 2 _).own hp hb 3 _).own hp hb 4 _).own hp hb 5 _).own hp hb 6 _).own hp hb 7 _
theorem ps_put8 {tb cap a d : Nat} {ts : List Tok} (h : Ps w pb tb cap ts a d) (hb : pb < b) (x : NV) : Ps (put8 w b x) pb tb cap ts a d :=
  (((((((h.other hb 0 _).other hb 1 _).other hb 2 _).other hb 3 _).other hb 4 _).other hb 5 _).other hb 6 _).other hb 7 _
theorem below_put8 {B : Nat} {u : World} (h : Below B u w) (hb : B ≤ b) (x : NV) : Below B u (put8 w b x) :=
  (((((((h.setCell hb _).setCell hb _).setCell hb _).setCell hb _).setCell hb _).setCell hb _).setCell hb _).setCell hb _

theorem NdV.keep (h : NdV lo w x D) (hs : w.heap.size ≤ w'.heap.size) (hk : ∀ b, lo ≤ b → b < w.heap.size → w'.heap[b]? = w.heap[b]?) : NdV lo w' x D := by
  obtain ⟨m, h⟩ := h
  exact ⟨m, nodeF_keep h hs hk⟩
theorem NdV.lower (h : NdV lo w x D) (hl : lo' ≤ lo) : NdV lo' w x D := by
  obtain ⟨m, h⟩ := h
  exact ⟨m, nodeF_lower h hl⟩
theorem NdV.stay (h : NdV lo w x D) (hs : Stay pb w w') (hp : pb < lo) : NdV lo w' x D := h.keep hs.size fun b hb hl => hs.keep b (by omega) hl
theorem NdV.below (h : NdV lo w x D) (hb : Below w.heap.size w w') : NdV lo w' x D := h.keep hb.size fun b _ hl => hb.block b hl
theorem NdV.put8 (h : NdV lo w x D) (hb : b < lo) (y : NV) : NdV lo (put8 w b y) x D := h.keep (by rw [put8_size]; exact Nat.le_refl _) fun i hi _ => put8_other (by omega)
theorem NdV.alloc (h : NdV lo w x D) (o : Obj) : NdV lo (w.alloc o) x D := h.keep (by simp) fun i _ hl => Below.heap_alloc _ _ _ hl
theorem NdV.set1 (h : NdV lo w x D) (hb : b < lo) (o : Nat) (u : Value) : NdV lo (w.setCell ⟨b, o, none⟩ u) x D :=
  h.keep (by rw [size_set]; exact Nat.le_refl _) fun i hi _ => Below.heap_setCell _ _ _ _ (by show i ≠ b; omega)

/-- Another place. -/
theorem NdV.place (h : NdV lo w x D) (li co : Nat) : ∃ k tx N l c tys ns ks, D = mkE k tx N l c tys ns ks ∧ NdV lo w { x with li := li, co := co } (mkE k tx N li co tys ns ks) := by
  obtain ⟨m, h⟩ := h
  cases m with
  | zero => exact h.elim
  | succ m =>
    obtain ⟨tys, ns, ks, e, h1, h2, h3, h4, h5⟩ := h
    exact ⟨_, _, _, _, _, _, _, _, e, m + 1, tys, ns, ks, rfl, h1, h2, h3, h4, h5⟩
end

theorem heap_at2 (w : World) (o1 o2 o3 : Obj) : (((w.alloc o1).alloc o2).alloc o3).heap[w.heap.size + 1 + 1]? = some o3 := by
  have := heap_alloc_last ((w.alloc o1).alloc o2) o3
  simpa using this

theorem heap_at4 (w : World) (o1 o2 o3 o4 o5 : Obj) : (((((w.alloc o1).alloc o2).alloc o3).alloc o4).alloc o5).heap[w.heap.size + 1 + 1 + 1 + 1]? = some o5 := by
  have := heap_alloc_last ((((w.alloc o1).alloc o2).alloc o3).alloc o4) o5
  simpa using this
theorem heap_at34 (w : World) (o1 o2 o3 o4 o5 : Obj) : (((((w.alloc o1).alloc o2).alloc o3).alloc o4).alloc o5).heap[w.heap.size + 1 + 1 + 1]? = some o4 := by
  refine (Below.heap_alloc _ _ _ (by simp)).trans ?_
  have := heap_alloc_last (((w.alloc o1).alloc o2).alloc o3) o4
  simpa using this

/-- The eight cells of a box, and that it may be written. -/
def Box8 (W : World) (b : Nat) (x : NV) : Prop :=
  (W.cell? ⟨b, 0, none⟩ = some (.int .i64 x.k) ∧ W.cell? ⟨b, 1, none⟩ = some (.string x.tx) ∧ W.cell? ⟨b, 2, none⟩ = some (.int .i64 x.N) ∧ W.cell? ⟨b, 3, none⟩ = some (.int .i64 x.li) ∧ W.cell? ⟨b, 4, none⟩ = some (.int .i64 x.co) ∧
  W.cell? ⟨b, 5, none⟩ = some (.slice x.ta x.tl x.tc) ∧ W.cell? ⟨b, 6, none⟩ = some (.slice x.na x.nl x.nc) ∧ W.cell? ⟨b, 7, none⟩ = some (.slice x.ka x.kl x.kc)) ∧
  (W.frozen? ⟨b, 0, none⟩ = false ∧ W.frozen? ⟨b, 1, none⟩ = false ∧ W.frozen? ⟨b, 2, none⟩ = false ∧ W.frozen? ⟨b, 3, none⟩ = false ∧ W.frozen? ⟨b, 4, none⟩ = false ∧ W.frozen? ⟨b, 5, none⟩ = false ∧ W.frozen? ⟨b, 6, none⟩ = false ∧ W.frozen? ⟨b, 7, none⟩ = false) ∧ b < W.heap.size
theorem box8 {W : World} {b : Nat} {x : NV} (h : W.heap[b]? = some x.obj) : Box8 W b x := by
  refine ⟨⟨?_, ?_, ?_, ?_, ?_, ?_, ?_, ?_⟩, ⟨?_, ?_, ?_, ?_, ?_, ?_, ?_, ?_⟩, lt_of_block h⟩
  all_goals first | (rw [cell_of_row _ _ _ _ _ _ h]; rfl) | simp [World.frozen?, h]

set_option maxRecDepth 100000 in
set_option maxHeartbeats 4000000 in
theorem placed_c (t : Tok) (x : NV) (w : World) : Calls Tryz.prog 96 #[tokV t, x.val] w fun e w' => e = .returned (NV.val { x with li := t.line, co := t.col }) ∧ Below w.heap.size w w' := by
  obtain ⟨k, tx, li, co⟩ := t
  obtain ⟨xk, xt, xN, xl, xc, a1, a2, a3, b1, b2, b3, c1, c2, c3⟩ := x
  go_enter Tryz.func96, Tryz.ntmps96
  go_wp2_with fail
  go_region
  all_goals
    go_wp2_with fail
    refine bodyPost_ret (results_cell_row rfl _ _ (w.heap.size + 1 + 1) 27 _ (0, 0) _ rfl (heap_at2 _ _ _ _) Tryz.underlying27 rfl (by kernel_rfl)) rfl ⟨rfl, ?_⟩
    exact ((((Below.refl _ w).alloc (Nat.le_refl _) _).alloc (by simp) _).alloc (by simp; omega) _).drew

abbrev opNV (t : Tok) (kb : Nat) : NV := ⟨14, ⟨t.text.toArray⟩, 0, t.line, t.col, none, 0, 0, none, 0, 0, some ⟨kb, 0, none⟩, 2, 2⟩

set_option maxRecDepth 100000 in
set_option maxHeartbeats 4000000 in
theorem operation_c (t : Tok) (x y : NV) (w : World) : Calls Tryz.prog 117 #[tokV t, x.val, y.val] w fun e w' => ∃ kb, e = .returned (opNV t kb).val ∧ Below w.heap.size w w' ∧ w.heap.size ≤ kb ∧ w'.heap[kb]? = some (.cells #[.int .i64 x.k, .string x.tx, .int .i64 x.N, .int .i64 x.li, .int .i64 x.co, .slice x.ta x.tl x.tc, .slice x.na x.nl x.nc, .slice x.ka x.kl x.kc, .int .i64 y.k, .string y.tx, .int .i64 y.N, .int .i64 y.li, .int .i64 y.co, .slice y.ta y.tl y.tc, .slice y.na y.nl y.nc, .slice y.ka y.kl y.kc] 27) := by
  obtain ⟨k, tx, li, co⟩ := t
  obtain ⟨xk, xt, xN, xl, xc, a1, a2, a3, b1, b2, b3, c1, c2, c3⟩ := x
  obtain ⟨yk, yt, yN, yl, yc, d1, d2, d3, e1, e2, e3, f1, f2, f3⟩ := y
  obtain ⟨o1, ho1⟩ : ∃ o : Obj, o = .cells #[.int .i64 k, .string ⟨tx.toArray⟩, .int .i64 li, .int .i64 co] 101 := ⟨_, rfl⟩
  have HC := hideP (fun w5 => placed_c ⟨k, tx, li, co⟩ ⟨14, ⟨tx.toArray⟩, 0, 0, 0, none, 0, 0, none, 0, 0, some ⟨w.heap.size + 1 + 1 + 1 + 1, 0, none⟩, 2, 2⟩ w5)
  clear ho1
  go_enter Tryz.func117, Tryz.ntmps117
  go_wp2_with fail
  refine (HC.out _).mono ?_
  rintro e w1 ⟨rfl, hb1⟩
  have HB : Hid (Below w.heap.size w w1) := below_next (below_next (below_next (below_next (below_next (bl_alloc _ _) (bl_alloc _ _)) (bl_alloc _ _)) (bl_alloc _ _)) (bl_alloc _ _)) hb1
  have HK := hideP ((hb1.block (w.heap.size + 1 + 1 + 1 + 1) (by simp)).trans (heap_at4 w _ _ _ _ _))
  have hr := (hb1.block (w.heap.size + 1 + 1 + 1) (by simp)).trans (heap_at34 w _ _ _ _ _)
  have HR : Hid (w1.heap[w.heap.size + 1 + 1 + 1]? = some zNV.obj) := hr
  obtain ⟨⟨r0, r1, r2, r3, r4, r5, r6, r7⟩, ⟨f0, f1', f2', f3', f4, f5, f6, f7⟩, hr1⟩ := box8 HR.out
  clear hb1 hr
  go_wp2_with fail
  refine bodyPost_ret (results_cell_row rfl _ _ (w.heap.size + 1 + 1 + 1) 27 _ (0, 0) _ rfl (put8_heap (x := opNV ⟨k, tx, li, co⟩ (w.heap.size + 1 + 1 + 1 + 1)) HR.out) Tryz.underlying27 rfl (by kernel_rfl)) rfl ⟨w.heap.size + 1 + 1 + 1 + 1, rfl, ?_, by omega, ?_⟩
  · exact below_put8 (x := opNV ⟨k, tx, li, co⟩ (w.heap.size + 1 + 1 + 1 + 1)) HB.out (by omega)
  · exact (put8_other (x := opNV ⟨k, tx, li, co⟩ (w.heap.size + 1 + 1 + 1 + 1)) (by omega)).trans HK.out

/-- Two expressions in a row that was just made. -/
theorem ndV_two {lo kb : Nat} {w : World} {x y : NV} {D1 D2 : Ty} (h1 : NdV lo w x D1) (h2 : NdV lo w y D2) (hk : w.heap[kb]? = some (.cells #[.int .i64 x.k, .string x.tx, .int .i64 x.N, .int .i64 x.li, .int .i64 x.co, .slice x.ta x.tl x.tc, .slice x.na x.nl x.nc, .slice x.ka x.kl x.kc, .int .i64 y.k, .string y.tx, .int .i64 y.N, .int .i64 y.li, .int .i64 y.co, .slice y.ta y.tl y.tc, .slice y.na y.nl y.nc, .slice y.ka y.kl y.kc] 27)) (hlo : lo ≤ kb)
    (z : NV) (tys : List Ty) (ns : List (List UInt8)) (hz : z.ka = some ⟨kb, 0, none⟩ ∧ z.kl = 2) (ht : z.tl = tys.length ∧ tys.length ≤ 100000 ∧ ∃ m, KidsF w lo m z.ta tys) (hn : z.nl = ns.length ∧ ns.length ≤ 100000 ∧ NamesF w lo z.na ns) :
    NdV lo w z (mkE z.k z.tx.data.toList z.N z.li z.co tys ns [D1, D2]) := by
  obtain ⟨m1, h1⟩ := h1
  obtain ⟨m2, h2⟩ := h2
  obtain ⟨t1, t2, m3, t3⟩ := ht
  refine ⟨max (max m1 m2) m3 + 1, tys, ns, [D1, D2], rfl, ⟨t1, hn.1, hz.2⟩, ⟨t2, hn.2.1, (by show 2 ≤ _; omega)⟩, kidsF_mono t3 (Nat.le_max_right _ _), hn.2.2, .inr ⟨kb, 0, hz.1, hlo, ⟨_, _, hk⟩, fun i hi => ?_⟩⟩
  match i, hi with
  | 0, _ => exact ⟨x, ⟨by rw [cell_of_row _ _ _ _ _ _ hk]; rfl, by rw [cell_of_row _ _ _ _ _ _ hk]; rfl, by rw [cell_of_row _ _ _ _ _ _ hk]; rfl, by rw [cell_of_row _ _ _ _ _ _ hk]; rfl, by rw [cell_of_row _ _ _ _ _ _ hk]; rfl, by rw [cell_of_row _ _ _ _ _ _ hk]; rfl, by rw [cell_of_row _ _ _ _ _ _ hk]; rfl, by rw [cell_of_row _ _ _ _ _ _ hk]; rfl⟩, nodeF_mono h1 (Nat.le_trans (Nat.le_max_left _ _) (Nat.le_max_left _ _))⟩
  | 1, _ => exact ⟨y, ⟨by rw [cell_of_row _ _ _ _ _ _ hk]; rfl, by rw [cell_of_row _ _ _ _ _ _ hk]; rfl, by rw [cell_of_row _ _ _ _ _ _ hk]; rfl, by rw [cell_of_row _ _ _ _ _ _ hk]; rfl, by rw [cell_of_row _ _ _ _ _ _ hk]; rfl, by rw [cell_of_row _ _ _ _ _ _ hk]; rfl, by rw [cell_of_row _ _ _ _ _ _ hk]; rfl, by rw [cell_of_row _ _ _ _ _ _ hk]; rfl⟩, nodeF_mono h2 (Nat.le_trans (Nat.le_max_right _ _) (Nat.le_max_left _ _))⟩

theorem op_node {lo kb : Nat} {w w' : World} {t : Tok} {x y : NV} {D1 D2 : Ty} (h1 : NdV lo w x D1) (h2 : NdV lo w y D2) (hb : Below w.heap.size w w') (hlo : lo ≤ kb) (hk : w'.heap[kb]? = some (.cells #[.int .i64 x.k, .string x.tx, .int .i64 x.N, .int .i64 x.li, .int .i64 x.co, .slice x.ta x.tl x.tc, .slice x.na x.nl x.nc, .slice x.ka x.kl x.kc, .int .i64 y.k, .string y.tx, .int .i64 y.N, .int .i64 y.li, .int .i64 y.co, .slice y.ta y.tl y.tc, .slice y.na y.nl y.nc, .slice y.ka y.kl y.kc] 27)) :
    NdV lo w' (opNV t kb) (mkE 14 t.text 0 t.line t.col [] [] [D1, D2]) :=
  ndV_two (h1.below hb) (h2.below hb) hk hlo (opNV t kb) [] [] ⟨rfl, rfl⟩ ⟨rfl, Nat.zero_le _, 0, .inl rfl⟩ ⟨rfl, Nat.zero_le _, .inl rfl⟩
end Go.Proofs.YthieoabbjekpkabGreatDoor
