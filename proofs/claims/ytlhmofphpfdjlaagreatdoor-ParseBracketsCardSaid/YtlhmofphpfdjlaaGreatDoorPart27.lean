/- Part. -/
import Derived.Test.YtlhmofphpfdjlaaGreatDoorPart26
set_option maxRecDepth 100000
set_option maxHeartbeats 4000000
/- The fields of a record. -/
namespace Go.Proofs.YtlhmofphpfdjlaaGreatDoor
open Go.Proofs.Tryz
open Go.RowKit
attribute [local go_sem ↓] Go.wp_at_zero Go.wp_at_succ
def NdC8 (lo : Nat) (w : World) (c : List Value) (D : Ty) : Prop := NdE lo w (.agg c.toArray) D
theorem ndC8_k : RepK NdC8 where
  keep := fun ⟨x, e, h⟩ hs hk => ⟨x, e, h.keep hs hk⟩
  lower := fun ⟨x, e, h⟩ hl => ⟨x, e, h.lower hl⟩
theorem ndC8_of {lo : Nat} {w : World} {x1 : NV} {D : Ty} (h : NdV lo w x1 D) : NdC8 lo w [.int .i64 x1.k, .string x1.tx, .int .i64 x1.N, .int .i64 x1.li, .int .i64 x1.co, .slice x1.ta x1.tl x1.tc, .slice x1.na x1.nl x1.nc, .slice x1.ka x1.kl x1.kc] D := ⟨x1, rfl, h⟩
theorem info_nd : (prog.info? 27).map (fun i => (i.zero, i.size, i.bytes)) = some (some zNV.val, 8, 120) := by kernel_rfl
/-- Two slices: names, and what stands for them. -/
def FieldsN (lo : Nat) (w : World) (v : Value) (l : List (List UInt8 × Ty)) : Prop := ∃ vn vv cn cv, v = .tuple #[vn, vv] /\ RowsC StrC lo 9 1 vv.ownBlock w vn cn (l.map (·.1)) /\ RowsC NdC8 lo 27 8 vn.ownBlock w vv cv (l.map (·.2))
theorem fieldsN_c (pb tb cap d : Nat) (ts : List Tok) (g : Nat) (K : Nat -> Pr Ty) (hg : Reads pb tb cap d ts NdE g K)
    (f a : Nat) (hf : ts.length <= a + (f + 1)) (w : World) (h : Ps w pb tb cap ts a d) (ok : ToksOk ts) :
    Calls prog 152 #[.pointer (some ⟨pb, 0, none⟩), .func (.func g) #[] #[]] w (PPost pb tb cap ts d w FieldsN (fieldsA ts K (f + 1) a)) := by
  have H := hideP h
  have OK := hideP ok
  have HG := hideP hg
  have hen := hg.enters
  clear h ok hg
  have HT := hideP (take_c pb tb cap a d ts [125] w H.out OK.out)
  have HF := hideP hf
  clear hf
  obtain ⟨R, hR⟩ : ∃ R, R = fieldsA ts K (f + 1) a := ⟨_, rfl⟩
  rw [<- hR]
  obtain ⟨sb, hsb⟩ : ∃ sb, sb = seesA ts a [125] := ⟨_, rfl⟩
  rw [<- hsb] at HT
  have HR := hideP hR
  have HSB := hideP hsb
  clear hR hsb
  have hnot : ∀ (x : Bool) (w : World), (Op.unary .not (.bool x)).run prog w = .ok (.bool (!x)) w := fun _ _ => rfl
  obtain ⟨i0, hi, hz0, hz1, hz2⟩ := info_parts info_nd
  obtain ⟨s0, si, sz0, sz1, sz2⟩ := info_parts info_str
  go_enter func152, ntmps152
  go_wp2_with fail
  refine HT.out.mono ?_
  rintro e w1 ⟨rfl, hst, hps⟩
  have HST := hideP hst
  have HP := hideP hps
  clear hst hps
  go_wp2_with fail
  go_loopg [6, 7, 8] (ts.length + 2) (fun gk vn vv mo wr => ∃ (b m : Nat) (cn cv : List (List Value)) (acc : List (List UInt8 × Ty)) (ns : List (List UInt8)) (ks : List Ty) (mb : Bool), mo = .bool mb /\ Hid (ns = acc.map (·.1) /\ ks = acc.map (·.2)) /\ Hid (RowsC StrC w.heap.size 9 1 vv.ownBlock wr vn cn ns) /\ Hid (RowsC NdC8 w.heap.size 27 8 vn.ownBlock wr vv cv ks) /\ Hid (Stay pb w wr) /\ Hid (Ps wr pb tb cap ts b d) /\ Hid (acc.length <= b) /\ Hid (ts.length <= b + (m + 1)) /\ Hid (mb = true -> FieldsAt ts K R acc (m + 1) b /\ ts.length - b + 1 <= gk) /\ Hid (mb = false -> R = .inl (acc, b)))
  case atStart =>
    refine ⟨_, f, [], [], [], [], [], _, rfl, ⟨rfl, rfl⟩, rows_nil _ _ _ _ _, rows_nil _ _ _ _ _, HST, HP, Nat.zero_le _, ?_, fun h => ?_, fun h => ?_⟩
    · have := HF.out
      show _ <= _
      split <;> omega
    · have hs : sb = false := by simpa using h
      rw [hs] at HSB ⊢
      exact ⟨by rw [HR.out]; exact fields_start HSB.out.symm, by have := HF.out; simp; omega⟩
    · have hs : sb = true := by simpa using h
      rw [hs] at HSB ⊢
      rw [HR.out]
      exact fields_none HSB.out.symm
  case round =>
    clear HST HP HT HR HSB
    obtain ⟨b, m, cn, cv, acc, ns, ks, mb, rfl, HNS, HN, HV, HSt, HPs, HAc, HLe, HTr, HFa⟩ := hrel
    cases mb with
    | false =>
      have HE := hideP (HFa.out rfl)
      clear HFa HTr
      go_wp2_with fail
      refine bodyPost_ret (results_two rfl _ _ _) rfl ?_
      rw [HE.out]
      exact ⟨HSt.out, HPs.out, _, rfl, _, _, cn, cv, rfl, HNS.out.1 ▸ HN.out, HNS.out.2 ▸ HV.out⟩
    | true =>
      have HFi := hideP (HTr.out rfl).1
      have hgk := (HTr.out rfl).2
      clear HFa HTr
      obtain ⟨av, lv, rfl⟩ := row_shape HN.out.ow
      obtain ⟨av2, lv2, rfl⟩ := row_shape HV.out.ow
      have HO := hideP (pname_c pb tb cap b d ts wr HPs.out OK.out)
      cases hn : nameA ts b with
      | inr x =>
        obtain ⟨er, li, co⟩ := x
        have HE := hideP (fields_name HFi.out hn)
        rw [hn] at HO
        clear hn
        go_wp2_with fail
        refine HO.out.mono ?_
        rintro e w2 ⟨hst, rfl⟩
        have HST := hideP (HSt.out.trans hst)
        clear hst
        go_wp2_with fail
        rw [HE.out]
        exact ⟨rfl, HST.out, rfl⟩
      | inl x =>
        obtain ⟨s, b1⟩ := x
        have HNa := hideP hn
        have hb1 := name_up hn
        rw [hn] at HO
        clear hn
        have hac : acc.length <= 8193 := by have := HAc.out; have := OK.out.len; have := HPs.out.lt; omega
        have hac1 : ns.length <= 8193 := by rw [HNS.out.1]; simpa using hac
        have hac2 : ks.length <= 8193 := by rw [HNS.out.2]; simpa using hac
        go_wp2_with fail
        refine HO.out.mono ?_
        rintro e w2 ⟨hst, hps, v, rfl, rfl⟩
        have HST := hideP (HSt.out.trans hst)
        have HPS := hideP hps
        have HN2 := hideP (HN.out.stay hst H.out.ltp)
        have HV2 := hideP (HV.out.stay hst H.out.ltp)
        clear hst hps
        go_wp2_with (at_builtin; refine wpList_append_own_at _ rfl (.tmp 19) (.tmp 24) 24 rfl w.heap.size 9 s0 _ 1 16 underlying24 si sz0 sz1 sz2 rfl (by decide) _ _ _ rfl (HN2.out.ow.alloc _) ⟨_, 0, none⟩ 1 1 [.string ⟨s.toArray⟩] rfl rfl (cells_newK _ _ _) (by simp [Value.oneCell']) (by unfold maxLen; omega) (by omega) (by have := HST.out.size; simp; omega) ?_)
        intro vn' w4 hown' hgrow _ hloc
        have HN4 := hideP (HN2.out.put (x := s) (rep := StrC) hown' hgrow (hloc.imp_right fun e => ⟨_, e, by simp⟩) ((Stay.refl pb w2).alloc HPS.out.ltp _) H.out.ltp rfl ((Made.new (rep := StrC) (lo := w2.heap.size) rfl HST.out.size fun q hq => HN2.out.all q hq).stay ((Stay.refl pb w2).alloc HPS.out.ltp _) H.out.ltp))
        have HV4 := hideP ((HV2.out.stay ((Stay.refl pb w2).alloc HPS.out.ltp _) H.out.ltp).beside (o' := vn'.ownBlock) hgrow (hloc.imp_right fun e => ⟨_, e, by simp, (hown'.lt _ e).2⟩) (by have := HST.out.size; simp; omega))
        have HST4 : Hid (Stay pb w w4) := (HST.out.alloc H.out.ltp _).grown hgrow H.out.ltp fun q hq => (HN2.out.own q hq).1
        have HPS4 : Hid (Ps w4 pb tb cap ts b1 d) := (HPS.out.alloc _).grown hgrow fun q hq => Nat.lt_of_lt_of_le H.out.ltp (HN2.out.own q hq).1
        obtain ⟨av3, lv3, rfl⟩ := row_shape hown'
        clear hown' hgrow hloc HN2 HV2 HST HPS
        have HM := hideP (must_c pb tb cap b1 d ts [58] w4 HPS4.out OK.out)
        cases hm : wantA ts b1 [58] with
        | inr x =>
          obtain ⟨er, li, co⟩ := x
          have HE := hideP (fields_colon HFi.out HNa.out hm)
          rw [hm] at HM
          clear hm
          go_wp2_with fail
          refine HM.out.mono ?_
          rintro e w5 ⟨hst, rfl⟩
          have HST5 := hideP (HST4.out.trans hst)
          clear hst
          go_wp2_with fail
          rw [HE.out]
          exact ⟨rfl, HST5.out, rfl⟩
        | inl x =>
          obtain ⟨u, b2⟩ := x
          have HWa := hideP hm
          have hb2 := want_up hm
          rw [hm] at HM
          clear hm
          go_wp2_with fail
          refine HM.out.mono ?_
          rintro e w5 ⟨hst, hps, v, rfl, _⟩
          have HST5 := hideP (HST4.out.trans hst)
          have HPS5 := hideP hps
          have HN5 := hideP (HN4.out.stay hst H.out.ltp)
          have HV5 := hideP (HV4.out.stay hst H.out.ltp)
          clear hst hps HM
          have HO2 := hideP (HG.out.calls b2 w5 HPS5.out)
          cases ho : K b2 with
          | inr x =>
            obtain ⟨er, li, co⟩ := x
            have HE := hideP (fields_value HFi.out HNa.out HWa.out ho)
            rw [ho] at HO2
            clear ho
            go_wp2_with fail
            refine HO2.out.mono ?_
            rintro e w6 ⟨hst, rfl⟩
            have HST6 := hideP (HST5.out.trans hst)
            clear hst
            go_wp2_with fail
            rw [HE.out]
            exact ⟨rfl, HST6.out, rfl⟩
          | inl x =>
            obtain ⟨D1, b3⟩ := x
            have HKo := hideP ho
            have hb3 := HG.out.up _ _ _ ho
            rw [ho] at HO2
            clear ho
            go_wp2_with fail
            refine HO2.out.mono ?_
            rintro e w6 ⟨hst, hps, v, rfl, hv⟩
            obtain ⟨x1, rfl, hv⟩ := hv
            have HST6 := hideP (HST5.out.trans hst)
            have HPS6 := hideP hps
            have HN6 := hideP (HN5.out.stay hst H.out.ltp)
            have HV6 := hideP (HV5.out.stay hst H.out.ltp)
            have HVal := hideP hv
            clear hst hps hv
            go_wp2_with (at_builtin; refine wpList_append_own_at _ rfl (.tmp 30) (.tmp 34) 25 rfl w.heap.size 27 i0 _ 8 120 underlying25 hi hz0 hz1 hz2 rfl (by decide) _ _ _ rfl (HV6.out.ow.alloc _) ⟨_, 0, none⟩ 1 1 [.int .i64 x1.k, .string x1.tx, .int .i64 x1.N, .int .i64 x1.li, .int .i64 x1.co, .slice x1.ta x1.tl x1.tc, .slice x1.na x1.nl x1.nc, .slice x1.ka x1.kl x1.kc] rfl rfl (cells_newK _ _ _) (by simp [Value.oneCell']) (by unfold maxLen; omega) (by omega) (by have := HST6.out.size; simp; omega) ?_)
            intro vv' w7 hown' hgrow _ hloc
            have HV7 := hideP (HV6.out.put (x := D1) (rep := NdC8) hown' hgrow (hloc.imp_right fun e => ⟨_, e, by simp⟩) ((Stay.refl pb w6).alloc HPS6.out.ltp _) H.out.ltp rfl ((Made.new (rep := NdC8) (ndC8_of HVal.out) HST5.out.size fun q hq => HV5.out.all q hq).stay ((Stay.refl pb w6).alloc HPS6.out.ltp _) H.out.ltp))
            have HN7 := hideP ((HN6.out.stay ((Stay.refl pb w6).alloc HPS6.out.ltp _) H.out.ltp).beside (o' := vv'.ownBlock) hgrow (hloc.imp_right fun e => ⟨_, e, by simp, (hown'.lt _ e).2⟩) (by have := HST6.out.size; simp; omega))
            have HST7 : Hid (Stay pb w w7) := (HST6.out.alloc H.out.ltp _).grown hgrow H.out.ltp fun q hq => (HV6.out.own q hq).1
            have HPS7 : Hid (Ps w7 pb tb cap ts b3 d) := (HPS6.out.alloc _).grown hgrow fun q hq => Nat.lt_of_lt_of_le H.out.ltp (HV6.out.own q hq).1
            clear hown' hgrow hloc HO2
            have HGo := hideP (goesOn_c pb tb cap b3 d ts [44] [125] w7 HPS7.out OK.out)
            cases hg : goesA ts b3 [44] [125] with
            | inr x =>
              obtain ⟨er, li, co⟩ := x
              have HE := hideP (fields_fail HFi.out HNa.out HWa.out HKo.out hg)
              rw [hg] at HGo
              clear hg
              go_wp2_with fail
              refine HGo.out.mono ?_
              rintro e w8 ⟨hst, rfl⟩
              have HST8 := hideP (HST7.out.trans hst)
              clear hst
              go_wp2_with fail
              rw [HE.out]
              exact ⟨rfl, HST8.out, rfl⟩
            | inl x =>
              obtain ⟨gb, b4⟩ := x
              have HGoe := hideP hg
              rw [hg] at HGo
              clear hg
              go_wp2_with fail
              refine HGo.out.mono ?_
              rintro e w8 ⟨hst, hps, v, rfl, rfl⟩
              have HST8 := hideP (HST7.out.trans hst)
              have HPS8 := hideP hps
              have HN8 := hideP (HN7.out.stay hst H.out.ltp)
              have HV8 := hideP (HV7.out.stay hst H.out.ltp)
              clear hst hps HGo
              go_wp2_with fail
              have hb4 : b3 <= b4 := by
                cases gb with
                | true => have := (fields_more HFi.out HNa.out HWa.out HKo.out HGoe.out).2; omega
                | false => exact (fields_end HFi.out HNa.out HWa.out HKo.out HGoe.out).2
              go_roundg (ts.length - b4 + 1)
              case measure => have := HPS8.out.lt; omega
              case rel =>
                refine ⟨b4, m - 1, _, _, acc ++ [(s, D1)], _, _, gb, rfl, ⟨?_, ?_⟩, HN8, HV8, HST8, HPS8, ?_, ?_, fun h => ?_, fun h => ?_⟩
                · rw [HNS.out.1]; simp
                · rw [HNS.out.2]; simp
                · have := HAc.out
                  show (acc ++ [(s, D1)]).length <= b4
                  simp
                  omega
                · have := HLe.out
                  show _ <= _
                  omega
                · subst h
                  have h1 := (fields_more HFi.out HNa.out HWa.out HKo.out HGoe.out)
                  have := HPS8.out.lt
                  have := HLe.out
                  obtain ⟨q, rfl⟩ : ∃ q, m = q + 1 := ⟨m - 1, by omega⟩
                  exact ⟨h1.1, Nat.le_refl _⟩
                · subst h
                  exact (fields_end HFi.out HNa.out HWa.out HKo.out HGoe.out).1
/-- Expressions in one row have one depth. -/
theorem common_depthN {lo : Nat} {w : World} : ∀ (l : List (Value × Ty)), (∀ p ∈ l, NdE lo w p.1 p.2) -> ∃ m, ∀ p ∈ l, ∃ x : NV, p.1 = x.val /\ NodeF w lo m x p.2
  | [], _ => ⟨0, fun _ h => nomatch h⟩
  | p :: l, h => by
    obtain ⟨x, e, m1, h1⟩ := h p (List.mem_cons_self ..)
    obtain ⟨m2, h2⟩ := common_depthN l fun q hq => h q (List.mem_cons_of_mem _ hq)
    refine ⟨max m1 m2, fun q hq => ?_⟩
    rcases List.mem_cons.1 hq with rfl | hq
    · exact ⟨x, e, nodeF_mono h1 (Nat.le_max_left _ _)⟩
    · obtain ⟨y, e2, h3⟩ := h2 q hq
      exact ⟨y, e2, nodeF_mono h3 (Nat.le_max_right _ _)⟩
/-- A full row of expressions. -/
theorem rows_nodes {B et : Nat} {o : Option Nat} {wx : World} {v : Value} {cs : List (List Value)} {xs : List Ty} (h : RowsC NdC8 B et 8 o wx v cs xs) : ∃ (a : Option Addr) (cap m : Nat), v = .slice a xs.length cap /\ xs.length <= cap /\ NodesF wx B m a xs := by
  obtain ⟨a, cap, e, hcap, hr⟩ := h.form ndC8_k
  have hall : ∀ p ∈ (cs.map fun c => (Value.agg c.toArray)).zip xs, NdE B wx p.1 p.2 := by
    intro p hp
    obtain ⟨i, hi, rfl⟩ := List.mem_iff_getElem.1 hp
    simp only [List.getElem_zip, List.getElem_map]
    simp only [List.length_zip, List.length_map] at hi
    exact (h.made i (by omega) (by omega)).now ndC8_k
  obtain ⟨m, hm⟩ := common_depthN _ hall
  refine ⟨a, cap, m, e, hcap, ?_⟩
  rcases h.ow.2 with ⟨e2, h0⟩ | ⟨g, cap2, cur, e2, hg, hh, _⟩
  · exact .inl (List.length_eq_zero_iff.1 h0)
  · rw [e] at e2
    injection e2 with e3 e4 e5
    refine .inr ⟨g, 0, e3, hg, ⟨_, _, hh⟩, fun i hi => ?_⟩
    have hi' : i < cs.length := by rw [h.len]; exact hi
    obtain ⟨x, ex, hT⟩ := hm (.agg cs[i].toArray, xs[i]) (List.mem_iff_getElem.2 ⟨i, by simp; omega, by simp⟩)
    have hcell : ∀ j, j < 8 -> wx.cell? ⟨g, 0 + i * 8 + j, none⟩ = cs[i][j]? := by
      intro j hj
      have ho := h.ow
      rw [e, e3] at ho
      rw [show 0 + i * 8 + j = i * 8 + j by omega, ho.cellAt (i * 8 + j) (by omega)]
      exact cells_flatK cs h.each i hi' j hj
    have hcs : cs[i] = [.int .i64 x.k, .string x.tx, .int .i64 x.N, .int .i64 x.li, .int .i64 x.co, .slice x.ta x.tl x.tc, .slice x.na x.nl x.nc, .slice x.ka x.kl x.kc] := by
      have ex' : Value.agg cs[i].toArray = x.val := ex
      injection ex' with ex'
      simpa using congrArg Array.toList ex'
    rw [hcs] at hcell
    exact ⟨x, ⟨hcell 0 (by omega), hcell 1 (by omega), hcell 2 (by omega), hcell 3 (by omega), hcell 4 (by omega), hcell 5 (by omega), hcell 6 (by omega), hcell 7 (by omega)⟩, hT⟩
end Go.Proofs.YtlhmofphpfdjlaaGreatDoor
