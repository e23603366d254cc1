/- Part. -/
import Derived.Test.YtlhmofphpfdjlaaGreatDoorPart20
set_option maxRecDepth 100000
set_option maxHeartbeats 4000000
/- The fields of a record. -/
namespace Go.Proofs.YtlhmofphpfdjlaaGreatDoor
open Go.Proofs.Tryz
open Go.RowKit
attribute [local go_sem ↓] Go.wp_at_zero Go.wp_at_succ
def NdC8 (lo : Nat) (w : World) (c : List Value) (D : Ty) : Prop := NdE lo w (.agg c.toArray) D
theorem ndC8_k : RepK NdC8 where
  keep := fun ⟨x, e, h⟩ hs hk => ⟨x, e, h.keep hs hk⟩
  lower := fun ⟨x, e, h⟩ hl => ⟨x, e, h.lower hl⟩
theorem ndC8_of {lo : Nat} {w : World} {x1 : NV} {D : Ty} (h : NdV lo w x1 D) : NdC8 lo w [.int .i64 x1.k, .string x1.tx, .int .i64 x1.N, .int .i64 x1.li, .int .i64 x1.co, .slice x1.ta x1.tl x1.tc, .slice x1.na x1.nl x1.nc, .slice x1.ka x1.kl x1.kc] D := ⟨x1, rfl, h⟩
theorem info_nd : (prog.info? 27).map (fun i => (i.zero, i.size, i.bytes)) = some (some zNV.val, 8, 120) := by kernel_rfl
/-- Two slices: names, and what stands for them. -/
def FieldsN (lo : Nat) (w : World) (v : Value) (l : List (List UInt8 × Ty)) : Prop := ∃ vn vv cn cv, v = .tuple #[vn, vv] /\ RowsC StrC lo 9 1 vv.ownBlock w vn cn (l.map (·.1)) /\ RowsC NdC8 lo 27 8 vn.ownBlock w vv cv (l.map (·.2))
theorem fieldsN_c (pb tb cap d : Nat) (ts : List Tok) (g : Nat) (K : Nat -> Pr Ty) (hg : Reads pb tb cap d ts NdE g K)
    (f a : Nat) (hf : ts.length <= a + (f + 1)) (w : World) (h : Ps w pb tb cap ts a d) (ok : ToksOk ts) :
    Calls prog 152 #[.pointer (some ⟨pb, 0, none⟩), .func (.func g) #[] #[]] w (PPost pb tb cap ts d w FieldsN (fieldsA ts K (f + 1) a)) := by
  have H := hideP h
  have OK := hideP ok
  have HG := hideP hg
  have hen := hg.enters
  clear h ok hg
  have HT := hideP (take_c pb tb cap a d ts [125] w H.out OK.out)
  have HF := hideP hf
  clear hf
  obtain ⟨R, hR⟩ : ∃ R, R = fieldsA ts K (f + 1) a := ⟨_, rfl⟩
  rw [<- hR]
  obtain ⟨sb, hsb⟩ : ∃ sb, sb = seesA ts a [125] := ⟨_, rfl⟩
  rw [<- hsb] at HT
  have HR := hideP hR
  have HSB := hideP hsb
  clear hR hsb
  have hnot : ∀ (x : Bool) (w : World), (Op.unary .not (.bool x)).run prog w = .ok (.bool (!x)) w := fun _ _ => rfl
  obtain ⟨i0, hi, hz0, hz1, hz2⟩ := info_parts info_nd
  obtain ⟨s0, si, sz0, sz1, sz2⟩ := info_parts info_str
  go_enter func152, ntmps152
  go_wp2_with fail
  refine HT.out.mono ?_
  rintro e w1 ⟨rfl, hst, hps⟩
  have HST := hideP hst
  have HP := hideP hps
  clear hst hps
  go_wp2_with fail
  go_loopg [6, 7, 8] (ts.length + 2) (fun gk vn vv mo wr => ∃ (b m : Nat) (cn cv : List (List Value)) (acc : List (List UInt8 × Ty)) (ns : List (List UInt8)) (ks : List Ty) (mb : Bool), mo = .bool mb /\ Hid (ns = acc.map (·.1) /\ ks = acc.map (·.2)) /\ Hid (RowsC StrC w.heap.size 9 1 vv.ownBlock wr vn cn ns) /\ Hid (RowsC NdC8 w.heap.size 27 8 vn.ownBlock wr vv cv ks) /\ Hid (Stay pb w wr) /\ Hid (Ps wr pb tb cap ts b d) /\ Hid (acc.length <= b) /\ Hid (ts.length <= b + (m + 1)) /\ Hid (mb = true -> FieldsAt ts K R acc (m + 1) b /\ ts.length - b + 1 <= gk) /\ Hid (mb = false -> R = .inl (acc, b)))
  case atStart =>
    refine ⟨_, f, [], [], [], [], [], _, rfl, ⟨rfl, rfl⟩, rows_nil _ _ _ _ _, rows_nil _ _ _ _ _, HST, HP, Nat.zero_le _, ?_, fun h => ?_, fun h => ?_⟩
    · have := HF.out
      show _ <= _
      split <;> omega
    · have hs : sb = false := by simpa using h
      rw [hs] at HSB ⊢
      exact ⟨by rw [HR.out]; exact fields_start HSB.out.symm, by have := HF.out; simp; omega⟩
    · have hs : sb = true := by simpa using h
      rw [hs] at HSB ⊢
      rw [HR.out]
      exact fields_none HSB.out.symm
  case round =>
    clear HST HP HT HR HSB
    obtain ⟨b, m, cn, cv, acc, ns, ks, mb, rfl, HNS, HN, HV, HSt, HPs, HAc, HLe, HTr, HFa⟩ := hrel
    cases mb with
    | false =>
      have HE := hideP (HFa.out rfl)
      clear HFa HTr
      go_wp2_with fail
      refine bodyPost_ret (results_two rfl _ _ _) rfl ?_
      rw [HE.out]
      exact ⟨HSt.out, HPs.out, _, rfl, _, _, cn, cv, rfl, HNS.out.1 ▸ HN.out, HNS.out.2 ▸ HV.out⟩
    | true =>
      have HFi := hideP (HTr.out rfl).1
      have hgk := (HTr.out rfl).2
      clear HFa HTr
      obtain ⟨av, lv, rfl⟩ := row_shape HN.out.ow
      obtain ⟨av2, lv2, rfl⟩ := row_shape HV.out.ow
      have HO := hideP (pname_c pb tb cap b d ts wr HPs.out OK.out)
      cases hn : nameA ts b with
      | inr x =>
        obtain ⟨er, li, co⟩ := x
        have HE := hideP (fields_name HFi.out hn)
        rw [hn] at HO
        clear hn
        go_wp2_with fail
        refine HO.out.mono ?_
        rintro e w2 ⟨hst, rfl⟩
        have HST := hideP (HSt.out.trans hst)
        clear hst
        go_wp2_with fail
        rw [HE.out]
        exact ⟨rfl, HST.out, rfl⟩
      | inl x =>
        obtain ⟨s, b1⟩ := x
        have HNa := hideP hn
        have hb1 := name_up hn
        rw [hn] at HO
        clear hn
        have hac : acc.length <= 8193 := by have := HAc.out; have := OK.out.len; have := HPs.out.lt; omega
        have hac1 : ns.length <= 8193 := by rw [HNS.out.1]; simpa using hac
        have hac2 : ks.length <= 8193 := by rw [HNS.out.2]; simpa using hac
        go_wp2_with fail
        refine HO.out.mono ?_
        rintro e w2 ⟨hst, hps, v, rfl, rfl⟩
        have HST := hideP (HSt.out.trans hst)
        have HPS := hideP hps
        have HN2 := hideP (HN.out.stay hst H.out.ltp)
        have HV2 := hideP (HV.out.stay hst H.out.ltp)
        clear hst hps
        go_wp2_with (at_builtin; refine wpList_append_own_at _ rfl (.tmp 19) (.tmp 24) 24 rfl w.heap.size 9 s0 _ 1 16 underlying24 si sz0 sz1 sz2 rfl (by decide) _ _ _ rfl (HN2.out.ow.alloc _) ⟨_, 0, none⟩ 1 1 [.string ⟨s.toArray⟩] rfl rfl (cells_newK _ _ _) (by simp [Value.oneCell']) (by unfold maxLen; omega) (by omega) (by have := HST.out.size; simp; omega) ?_)
        intro vn' w4 hown' hgrow _ hloc
        have HN4 := hideP (HN2.out.put (x := s) (rep := StrC) hown' hgrow (hloc.imp_right fun e => ⟨_, e, by simp⟩) ((Stay.refl pb w2).alloc HPS.out.ltp _) H.out.ltp rfl ((Made.new (rep := StrC) (lo := w2.heap.size) rfl HST.out.size fun q hq => HN2.out.all q hq).stay ((Stay.refl pb w2).alloc HPS.out.ltp _) H.out.ltp))
        have HV4 := hideP ((HV2.out.stay ((Stay.refl pb w2).alloc HPS.out.ltp _) H.out.ltp).beside (o' := vn'.ownBlock) hgrow (hloc.imp_right fun e => ⟨_, e, by simp, (hown'.lt _ e).2⟩) (by have := HST.out.size; simp; omega))
        have HST4 : Hid (Stay pb w w4) := (HST.out.alloc H.out.ltp _).grown hgrow H.out.ltp fun q hq => (HN2.out.own q hq).1
        have HPS4 : Hid (Ps w4 pb tb cap ts b1 d) := (HPS.out.alloc _).grown hgrow fun q hq => Nat.lt_of_lt_of_le H.out.ltp (HN2.out.own q hq).1
        obtain ⟨av3, lv3, rfl⟩ := row_shape hown'
        clear hown' hgrow hloc HN2 HV2 HST HPS
        have HM := hideP (must_c pb tb cap b1 d ts [58] w4 HPS4.out OK.out)
        cases hm : wantA ts b1 [58] with
        | inr x =>
          obtain ⟨er, li, co⟩ := x
          have HE := hideP (fields_colon HFi.out HNa.out hm)
          rw [hm] at HM
          clear hm
          go_wp2_with fail
          refine HM.out.mono ?_
          rintro e w5 ⟨hst, rfl⟩
          have HST5 := hideP (HST4.out.trans hst)
          clear hst
          go_wp2_with fail
          rw [HE.out]
          exact ⟨rfl, HST5.out, rfl⟩
        | inl x =>
          obtain ⟨u, b2⟩ := x
          have HWa := hideP hm
          have hb2 := want_up hm
          rw [hm] at HM
          clear hm
          go_wp2_with fail
          refine HM.out.mono ?_
          rintro e w5 ⟨hst, hps, v, rfl, _⟩
          have HST5 := hideP (HST4.out.trans hst)
          have HPS5 := hideP hps
          have HN5 := hideP (HN4.out.stay hst H.out.ltp)
          have HV5 := hideP (HV4.out.stay hst H.out.ltp)
          clear hst hps HM
          have HO2 := hideP (HG.out.calls b2 w5 HPS5.out)
          cases ho : K b2 with
          | inr x =>
            obtain ⟨er, li, co⟩ := x
            have HE := hideP (fields_value HFi.out HNa.out HWa.out ho)
            rw [ho] at HO2
            clear ho
            go_wp2_with fail
            refine HO2.out.mono ?_
            rintro e w6 ⟨hst, rfl⟩
            have HST6 := hideP (HST5.out.trans hst)
            clear hst
            go_wp2_with fail
            rw [HE.out]
            exact ⟨rfl, HST6.out, rfl⟩
          | inl x =>
            obtain ⟨D1, b3⟩ := x
            have HKo := hideP ho
            have hb3 := HG.out.up _ _ _ ho
            rw [ho] at HO2
            clear ho
            go_wp2_with fail
            refine HO2.out.mono ?_
            rintro e w6 ⟨hst, hps, v, rfl, hv⟩
            obtain ⟨x1, rfl, hv⟩ := hv
            have HST6 := hideP (HST5.out.trans hst)
            have HPS6 := hideP hps
            have HN6 := hideP (HN5.out.stay hst H.out.ltp)
            have HV6 := hideP (HV5.out.stay hst H.out.ltp)
            have HVal := hideP hv
            clear hst hps hv
            go_wp2_with (at_builtin; refine wpList_append_own_at _ rfl (.tmp 30) (.tmp 34) 25 rfl w.heap.size 27 i0 _ 8 120 underlying25 hi hz0 hz1 hz2 rfl (by decide) _ _ _ rfl (HV6.out.ow.alloc _) ⟨_, 0, none⟩ 1 1 [.int .i64 x1.k, .string x1.tx, .int .i64 x1.N, .int .i64 x1.li, .int .i64 x1.co, .slice x1.ta x1.tl x1.tc, .slice x1.na x1.nl x1.nc, .slice x1.ka x1.kl x1.kc] rfl rfl (cells_newK _ _ _) (by simp [Value.oneCell']) (by unfold maxLen; omega) (by omega) (by have := HST6.out.size; simp; omega) ?_)
            intro vv' w7 hown' hgrow _ hloc
            have HV7 := hideP (HV6.out.put (x := D1) (rep := NdC8) hown' hgrow (hloc.imp_right fun e => ⟨_, e, by simp⟩) ((Stay.refl pb w6).alloc HPS6.out.ltp _) H.out.ltp rfl ((Made.new (rep := NdC8) (ndC8_of HVal.out) HST5.out.size fun q hq => HV5.out.all q hq).stay ((Stay.refl pb w6).alloc HPS6.out.ltp _) H.out.ltp))
            have HN7 := hideP ((HN6.out.stay ((Stay.refl pb w6).alloc HPS6.out.ltp _) H.out.ltp).beside (o' := vv'.ownBlock) hgrow (hloc.imp_right fun e => ⟨_, e, by simp, (hown'.lt _ e).2⟩) (by have := HST6.out.size; simp; omega))
            have HST7 : Hid (Stay pb w w7) := (HST6.out.alloc H.out.ltp _).grown hgrow H.out.ltp fun q hq => (HV6.out.own q hq).1
            have HPS7 : Hid (Ps w7 pb tb cap ts b3 d) := (HPS6.out.alloc _).grown hgrow fun q hq => Nat.lt_of_lt_of_le H.out.ltp (HV6.out.own q hq).1
            clear hown' hgrow hloc HO2
            have HGo := hideP (goesOn_c pb tb cap b3 d ts [44] [125] w7 HPS7.out OK.out)
            cases hg : goesA ts b3 [44] [125] with
            | inr x =>
              obtain ⟨er, li, co⟩ := x
              have HE := hideP (fields_fail HFi.out HNa.out HWa.out HKo.out hg)
              rw [hg] at HGo
              clear hg
              go_wp2_with fail
              refine HGo.out.mono ?_
              rintro e w8 ⟨hst, rfl⟩
              have HST8 := hideP (HST7.out.trans hst)
              clear hst
              go_wp2_with fail
              rw [HE.out]
              exact ⟨rfl, HST8.out, rfl⟩
            | inl x =>
              obtain ⟨gb, b4⟩ := x
              have HGoe := hideP hg
              rw [hg] at HGo
              clear hg
              go_wp2_with fail
              refine HGo.out.mono ?_
              rintro e w8 ⟨hst, hps, v, rfl, rfl⟩
              have HST8 := hideP (HST7.out.trans hst)
              have HPS8 := hideP hps
              have HN8 := hideP (HN7.out.stay hst H.out.ltp)
              have HV8 := hideP (HV7.out.stay hst H.out.ltp)
              clear hst hps HGo
              go_wp2_with fail
              have hb4 : b3 <= b4 := by
                cases gb with
                | true => have := (fields_more HFi.out HNa.out HWa.out HKo.out HGoe.out).2; omega
                | false => exact (fields_end HFi.out HNa.out HWa.out HKo.out HGoe.out).2
              go_roundg (ts.length - b4 + 1)
              case measure => have := HPS8.out.lt; omega
              case rel =>
                refine ⟨b4, m - 1, _, _, acc ++ [(s, D1)], _, _, gb, rfl, ⟨?_, ?_⟩, HN8, HV8, HST8, HPS8, ?_, ?_, fun h => ?_, fun h => ?_⟩
                · rw [HNS.out.1]; simp
                · rw [HNS.out.2]; simp
                · have := HAc.out
                  show (acc ++ [(s, D1)]).length <= b4
                  simp
                  omega
                · have := HLe.out
                  show _ <= _
                  omega
                · subst h
                  have h1 := (fields_more HFi.out HNa.out HWa.out HKo.out HGoe.out)
                  have := HPS8.out.lt
                  have := HLe.out
                  obtain ⟨q, rfl⟩ : ∃ q, m = q + 1 := ⟨m - 1, by omega⟩
                  exact ⟨h1.1, Nat.le_refl _⟩
                · subst h
                  exact (fields_end HFi.out HNa.out HWa.out HKo.out HGoe.out).1
/-- Expressions in one row have one depth. -/
theorem common_depthN {lo : Nat} {w : World} : ∀ (l : List (Value × Ty)), (∀ p ∈ l, NdE lo w p.1 p.2) -> ∃ m, ∀ p ∈ l, ∃ x : NV, p.1 = x.val /\ NodeF w lo m x p.2
  | [], _ => ⟨0, fun _ h => nomatch h⟩
  | p :: l, h => by
    obtain ⟨x, e, m1, h1⟩ := h p (List.mem_cons_self ..)
    obtain ⟨m2, h2⟩ := common_depthN l fun q hq => h q (List.mem_cons_of_mem _ hq)
    refine ⟨max m1 m2, fun q hq => ?_⟩
    rcases List.mem_cons.1 hq with rfl | hq
    · exact ⟨x, e, nodeF_mono h1 (Nat.le_max_left _ _)⟩
    · obtain ⟨y, e2, h3⟩ := h2 q hq
      exact ⟨y, e2, nodeF_mono h3 (Nat.le_max_right _ _)⟩
/-- A full row of expressions. -/
theorem rows_nodes {B et : Nat} {o : Option Nat} {wx : World} {v : Value} {cs : List (List Value)} {xs : List Ty} (h : RowsC NdC8 B et 8 o wx v cs xs) : ∃ (a : Option Addr) (cap m : Nat), v = .slice a xs.length cap /\ xs.length <= cap /\ NodesF wx B m a xs := by
  obtain ⟨a, cap, e, hcap, hr⟩ := h.form ndC8_k
  have hall : ∀ p ∈ (cs.map fun c => (Value.agg c.toArray)).zip xs, NdE B wx p.1 p.2 := by
    intro p hp
    obtain ⟨i, hi, rfl⟩ := List.mem_iff_getElem.1 hp
    simp only [List.getElem_zip, List.getElem_map]
    simp only [List.length_zip, List.length_map] at hi
    exact (h.made i (by omega) (by omega)).now ndC8_k
  obtain ⟨m, hm⟩ := common_depthN _ hall
  refine ⟨a, cap, m, e, hcap, ?_⟩
  rcases h.ow.2 with ⟨e2, h0⟩ | ⟨g, cap2, cur, e2, hg, hh, _⟩
  · exact .inl (List.length_eq_zero_iff.1 h0)
  · rw [e] at e2
    injection e2 with e3 e4 e5
    refine .inr ⟨g, 0, e3, hg, ⟨_, _, hh⟩, fun i hi => ?_⟩
    have hi' : i < cs.length := by rw [h.len]; exact hi
    obtain ⟨x, ex, hT⟩ := hm (.agg cs[i].toArray, xs[i]) (List.mem_iff_getElem.2 ⟨i, by simp; omega, by simp⟩)
    have hcell : ∀ j, j < 8 -> wx.cell? ⟨g, 0 + i * 8 + j, none⟩ = cs[i][j]? := by
      intro j hj
      have ho := h.ow
      rw [e, e3] at ho
      rw [show 0 + i * 8 + j = i * 8 + j by omega, ho.cellAt (i * 8 + j) (by omega)]
      exact cells_flatK cs h.each i hi' j hj
    have hcs : cs[i] = [.int .i64 x.k, .string x.tx, .int .i64 x.N, .int .i64 x.li, .int .i64 x.co, .slice x.ta x.tl x.tc, .slice x.na x.nl x.nc, .slice x.ka x.kl x.kc] := by
      have ex' : Value.agg cs[i].toArray = x.val := ex
      injection ex' with ex'
      simpa using congrArg Array.toList ex'
    rw [hcs] at hcell
    exact ⟨x, ⟨hcell 0 (by omega), hcell 1 (by omega), hcell 2 (by omega), hcell 3 (by omega), hcell 4 (by omega), hcell 5 (by omega), hcell 6 (by omega), hcell 7 (by omega)⟩, hT⟩
end Go.Proofs.YtlhmofphpfdjlaaGreatDoor
/- Records. -/
namespace Go.Proofs.YtlhmofphpfdjlaaGreatDoor
open Go.Proofs.Tryz
open Go.RowKit
attribute [local go_sem ↓] Go.wp_at_zero Go.wp_at_succ
abbrev recNV (na : Option Addr) (nl nc : Nat) (ka : Option Addr) (kl kc : Nat) : NV := ⟨8, ⟨#[]⟩, 0, 0, 0, none, 0, 0, na, nl, nc, ka, kl, kc⟩
abbrev withNV (s : List UInt8) (kb : Nat) : NV := ⟨10, ⟨s.toArray⟩, 0, 0, 0, none, 0, 0, none, 0, 0, some ⟨kb, 0, none⟩, 2, 2⟩
theorem rec_node {lo : Nat} {w : World} {l : List (List UInt8 × Ty)} {vf : Value} (h : FieldsN lo w vf l) (hl : l.length <= 8193) : ∃ a c a' c', vf = .tuple #[.slice a l.length c, .slice a' l.length c'] /\ NdV lo w (recNV a l.length c a' l.length c') (mkE 8 [] 0 0 0 [] (l.map (·.1)) (l.map (·.2))) := by
  obtain ⟨vn, vv, cn, cv, rfl, h1, h2⟩ := h
  obtain ⟨a, c, rfl, hc, hN⟩ := rows_names h1
  obtain ⟨a', c', m, rfl, hc', hK⟩ := rows_nodes h2
  refine ⟨a, c, a', c', by simp, m + 1, [], l.map (·.1), l.map (·.2), rfl, ⟨rfl, by simp, by simp⟩, ⟨Nat.zero_le _, ?_, ?_⟩, .inl rfl, hN, hK⟩
  · simp only [List.length_map]; omega
  · simp only [List.length_map]; omega
theorem braces_none (pb tb cap d : Nat) (ts : List Tok) (E : Nat -> Pr Ty) (hE : Reads pb tb cap d ts NdE 12 E) (ok : ToksOk ts) (a : Nat) (h1 : seesA ts a [125] = true) (w : World) (h : Ps w pb tb cap ts a d) :
    Calls prog 149 #[.pointer (some ⟨pb, 0, none⟩)] w (PPost pb tb cap ts d w NdE ((fieldsA ts E ts.length a).go fun l b => .inl (mkE 8 [] 0 0 0 [] (l.map (·.1)) (l.map (·.2)), b))) := by
  have H := hideP h
  have OK := hideP ok
  have hp := h.ltp
  have HE1 := hideP hE
  have HS1 := hideP h1
  obtain ⟨ff, hff⟩ : ∃ f, f + 1 = ts.length := ⟨ts.length - 1, by have := ok.pos; omega⟩
  have C0 := hideP (ctx_init h zNV.obj)
  rw [<- hff]
  obtain ⟨R, hR⟩ : ∃ R : Pr Ty, R = ((fieldsA ts E (ff + 1) a).go fun l b => .inl (mkE 8 [] 0 0 0 [] (l.map (·.1)) (l.map (·.2)), b)) := ⟨_, rfl⟩
  rw [<- hR]
  have HR0 := hideP hR
  clear h ok hR hE h1
  go_enter func149, ntmps149
  go_wp2_with fail
  refine (is_new pb tb cap a _ 1 ts [[125]] _ _ C0.out.ps.rd (by simp) (by simp)).mono ?_
  rw [any_one, HS1.out]
  rintro e w1 ⟨rfl, hb⟩
  have C1 := hideP (C0.out.below hb)
  clear hb
  go_wp2_with fail
  refine (fieldsN_c pb tb cap d ts 12 E HE1.out ff a (by omega) _ C1.out.ps OK.out).mono ?_
  intro e w2 hpost
  rcases ppost_or hpost with ⟨er, li, co, hr, rfl, hst⟩ | ⟨l, b, v, hr, rfl, hst, hps, hv⟩
  · have HE : Hid (R = .inr (er, li, co)) := by rw [HR0.out, hr]; exact rfl
    have HF := hideP (C1.out.st.trans hst)
    clear hr hst hpost
    go_wp2_with fail
    exact ⟨rfl, HF.out, by rw [HE.out]⟩
  have HR1 : Hid (R = .inl (mkE 8 [] 0 0 0 [] (l.map (·.1)) (l.map (·.2)), b)) := by rw [HR0.out, hr]; exact rfl
  obtain ⟨na, nc, ka, kc, rfl, hv2⟩ := rec_node hv (by have := (fields_facts OK.out hr).1; have := OK.out.len; omega)
  have C2 := hideP ((C1.out.step hst hps).addN hv2 C1.out.sz)
  clear hr hst hps hpost hv hv2
  obtain ⟨⟨r0, r1, r2, r3, r4, r5, r6, r7⟩, ⟨f0, f1, f2, f3, f4, f5, f6, f7⟩, hr1⟩ := box8 (x := zNV) (C2.out.b0)
  go_wp2_with fail
  rw [HR1.out]
  refine bodyPost_ret (results_cell_row rfl _ _ w.heap.size 27 _ (0, 0) _ rfl (put8_heap (x := recNV na l.length nc ka l.length kc) C2.out.b0) underlying27 rfl (by kernel_rfl)) rfl ⟨stay_put8 C2.out.st hp (Nat.le_refl _) (recNV na l.length nc ka l.length kc), ps_put8 C2.out.ps hp (recNV na l.length nc ka l.length kc), _, rfl, recNV na l.length nc ka l.length kc, rfl, ?_⟩
  exact ((C2.out.n0).put8 (Nat.lt_succ_self _) (recNV na l.length nc ka l.length kc)).lower (Nat.le_succ _)
theorem braces_field (pb tb cap d : Nat) (ts : List Tok) (E : Nat -> Pr Ty) (hE : Reads pb tb cap d ts NdE 12 E) (ok : ToksOk ts) (a : Nat) (h1 : seesA ts a [125] = false) (h2 : ((tkA ts a).kind == 1 && seesA ts (a + 1) [58]) = true) (w : World) (h : Ps w pb tb cap ts a d) :
    Calls prog 149 #[.pointer (some ⟨pb, 0, none⟩)] w (PPost pb tb cap ts d w NdE ((fieldsA ts E ts.length a).go fun l b => .inl (mkE 8 [] 0 0 0 [] (l.map (·.1)) (l.map (·.2)), b))) := by
  have H := hideP h
  have OK := hideP ok
  have hp := h.ltp
  have HE1 := hideP hE
  have HS1 := hideP h1
  have HB1 := hideP (fun w h => beginsField_c pb tb cap a d ts w h ok)
  rw [h2] at HB1
  obtain ⟨ff, hff⟩ : ∃ f, f + 1 = ts.length := ⟨ts.length - 1, by have := ok.pos; omega⟩
  have C0 := hideP (ctx_init h zNV.obj)
  rw [<- hff]
  obtain ⟨R, hR⟩ : ∃ R : Pr Ty, R = ((fieldsA ts E (ff + 1) a).go fun l b => .inl (mkE 8 [] 0 0 0 [] (l.map (·.1)) (l.map (·.2)), b)) := ⟨_, rfl⟩
  rw [<- hR]
  have HR0 := hideP hR
  clear h ok hR hE h1 h2
  go_enter func149, ntmps149
  go_wp2_with fail
  refine (is_new pb tb cap a _ 1 ts [[125]] _ _ C0.out.ps.rd (by simp) (by simp)).mono ?_
  rw [any_one, HS1.out]
  rintro e w1 ⟨rfl, hb⟩
  have C1 := hideP (C0.out.below hb)
  clear hb
  go_wp2_with fail
  refine (HB1.out _ C1.out.ps).mono ?_
  rintro e w2 ⟨rfl, hb⟩
  have C2 := hideP (C1.out.below hb)
  clear hb
  go_wp2_with fail
  refine (fieldsN_c pb tb cap d ts 12 E HE1.out ff a (by omega) _ C2.out.ps OK.out).mono ?_
  intro e w3 hpost
  rcases ppost_or hpost with ⟨er, li, co, hr, rfl, hst⟩ | ⟨l, b, v, hr, rfl, hst, hps, hv⟩
  · have HE : Hid (R = .inr (er, li, co)) := by rw [HR0.out, hr]; exact rfl
    have HF := hideP (C2.out.st.trans hst)
    clear hr hst hpost
    go_wp2_with fail
    exact ⟨rfl, HF.out, by rw [HE.out]⟩
  have HR1 : Hid (R = .inl (mkE 8 [] 0 0 0 [] (l.map (·.1)) (l.map (·.2)), b)) := by rw [HR0.out, hr]; exact rfl
  obtain ⟨na, nc, ka, kc, rfl, hv2⟩ := rec_node hv (by have := (fields_facts OK.out hr).1; have := OK.out.len; omega)
  have C3 := hideP ((C2.out.step hst hps).addN hv2 C2.out.sz)
  clear hr hst hps hpost hv hv2
  obtain ⟨⟨r0, r1, r2, r3, r4, r5, r6, r7⟩, ⟨f0, f1, f2, f3, f4, f5, f6, f7⟩, hr1⟩ := box8 (x := zNV) (C3.out.b0)
  go_wp2_with fail
  rw [HR1.out]
  refine bodyPost_ret (results_cell_row rfl _ _ w.heap.size 27 _ (0, 0) _ rfl (put8_heap (x := recNV na l.length nc ka l.length kc) C3.out.b0) underlying27 rfl (by kernel_rfl)) rfl ⟨stay_put8 C3.out.st hp (Nat.le_refl _) (recNV na l.length nc ka l.length kc), ps_put8 C3.out.ps hp (recNV na l.length nc ka l.length kc), _, rfl, recNV na l.length nc ka l.length kc, rfl, ?_⟩
  exact ((C3.out.n0).put8 (Nat.lt_succ_self _) (recNV na l.length nc ka l.length kc)).lower (Nat.le_succ _)
theorem braces_with (pb tb cap d : Nat) (ts : List Tok) (E : Nat -> Pr Ty) (hE : Reads pb tb cap d ts NdE 12 E) (ok : ToksOk ts) (a : Nat) (h1 : seesA ts a [125] = false) (h2 : ((tkA ts a).kind == 1 && seesA ts (a + 1) [58]) = false) (w : World) (h : Ps w pb tb cap ts a d) :
    Calls prog 149 #[.pointer (some ⟨pb, 0, none⟩)] w (PPost pb tb cap ts d w NdE ((E a).go fun x b => (wantA ts b [119, 105, 116, 104]).go fun _ b => (nameA ts b).go fun s b => (wantA ts b [58]).go fun _ b => (E b).go fun y b => (wantA ts b [125]).go fun _ b => .inl (mkE 10 s 0 0 0 [] [] [x, y], b))) := by
  have H := hideP h
  have OK := hideP ok
  have hp := h.ltp
  have HE1 := hideP hE
  have HS1 := hideP h1
  have HB1 := hideP (fun w h => beginsField_c pb tb cap a d ts w h ok)
  rw [h2] at HB1
  have C0 := hideP (ctx_init h zNV.obj)
  obtain ⟨R, hR⟩ : ∃ R : Pr Ty, R = ((E a).go fun x b => (wantA ts b [119, 105, 116, 104]).go fun _ b => (nameA ts b).go fun s b => (wantA ts b [58]).go fun _ b => (E b).go fun y b => (wantA ts b [125]).go fun _ b => .inl (mkE 10 s 0 0 0 [] [] [x, y], b)) := ⟨_, rfl⟩
  rw [<- hR]
  have HR0 := hideP hR
  clear h ok hR hE h1 h2
  go_enter func149, ntmps149
  go_wp2_with fail
  refine (is_new pb tb cap a _ 1 ts [[125]] _ _ C0.out.ps.rd (by simp) (by simp)).mono ?_
  rw [any_one, HS1.out]
  rintro e w1 ⟨rfl, hb⟩
  have C1 := hideP (C0.out.below hb)
  clear hb
  go_wp2_with fail
  refine (HB1.out _ C1.out.ps).mono ?_
  rintro e w2 ⟨rfl, hb⟩
  have C2 := hideP (C1.out.below hb)
  clear hb
  go_wp2_with fail
  refine (HE1.out.calls a _ C2.out.ps).mono ?_
  intro e w3 hpost
  rcases ppost_or hpost with ⟨er, li, co, hr, rfl, hst⟩ | ⟨D1, b1, v, hr, rfl, hst, hps, hv⟩
  · have HE : Hid (R = .inr (er, li, co)) := by rw [HR0.out, hr]; exact rfl
    have HF := hideP (C2.out.st.trans hst)
    clear hr hst hpost
    go_wp2_with fail
    exact ⟨rfl, HF.out, by rw [HE.out]⟩
  have HR1 : Hid (R = (wantA ts b1 [119, 105, 116, 104]).go fun _ b => (nameA ts b).go fun s b => (wantA ts b [58]).go fun _ b => (E b).go fun y b => (wantA ts b [125]).go fun _ b => .inl (mkE 10 s 0 0 0 [] [] [D1, y], b)) := by rw [HR0.out, hr]; exact rfl
  obtain ⟨x1, rfl, hv⟩ := hv
  have C3 := hideP ((C2.out.step hst hps).addN hv C2.out.sz)
  have C4 := hideP (C3.out.alloc (x1.obj))
  clear hr hst hps hpost hv
  go_wp2_with fail
  refine (must_c pb tb cap b1 d ts [119, 105, 116, 104] _ C4.out.ps OK.out).mono ?_
  intro e w4 hpost
  rcases ppost_or hpost with ⟨er, li, co, hr, rfl, hst⟩ | ⟨u2, b2, v2, hr, rfl, hst, hps, hv⟩
  · have HE : Hid (R = .inr (er, li, co)) := by rw [HR1.out, hr]; exact rfl
    have HF := hideP (C4.out.st.trans hst)
    clear hr hst hpost
    go_wp2_with fail
    exact ⟨rfl, HF.out, by rw [HE.out]⟩
  have HR2 : Hid (R = (nameA ts b2).go fun s b => (wantA ts b [58]).go fun _ b => (E b).go fun y b => (wantA ts b [125]).go fun _ b => .inl (mkE 10 s 0 0 0 [] [] [D1, y], b)) := by rw [HR1.out, hr]; exact rfl
  have C5 := hideP ((C4.out.step hst hps))
  clear hr hst hps hpost hv
  go_wp2_with fail
  refine (pname_c pb tb cap b2 d ts _ C5.out.ps OK.out).mono ?_
  intro e w5 hpost
  rcases ppost_or hpost with ⟨er, li, co, hr, rfl, hst⟩ | ⟨s, b3, v3, hr, rfl, hst, hps, hv⟩
  · have HE : Hid (R = .inr (er, li, co)) := by rw [HR2.out, hr]; exact rfl
    have HF := hideP (C5.out.st.trans hst)
    clear hr hst hpost
    go_wp2_with fail
    exact ⟨rfl, HF.out, by rw [HE.out]⟩
  have HR3 : Hid (R = (wantA ts b3 [58]).go fun _ b => (E b).go fun y b => (wantA ts b [125]).go fun _ b => .inl (mkE 10 s 0 0 0 [] [] [D1, y], b)) := by rw [HR2.out, hr]; exact rfl
  subst hv
  have C6 := hideP ((C5.out.step hst hps))
  clear hr hst hps hpost  
  go_wp2_with fail
  refine (must_c pb tb cap b3 d ts [58] _ C6.out.ps OK.out).mono ?_
  intro e w6 hpost
  rcases ppost_or hpost with ⟨er, li, co, hr, rfl, hst⟩ | ⟨u4, b4, v4, hr, rfl, hst, hps, hv⟩
  · have HE : Hid (R = .inr (er, li, co)) := by rw [HR3.out, hr]; exact rfl
    have HF := hideP (C6.out.st.trans hst)
    clear hr hst hpost
    go_wp2_with fail
    exact ⟨rfl, HF.out, by rw [HE.out]⟩
  have HR4 : Hid (R = (E b4).go fun y b => (wantA ts b [125]).go fun _ b => .inl (mkE 10 s 0 0 0 [] [] [D1, y], b)) := by rw [HR3.out, hr]; exact rfl
  have C7 := hideP ((C6.out.step hst hps))
  clear hr hst hps hpost hv
  go_wp2_with fail
  refine (HE1.out.calls b4 _ C7.out.ps).mono ?_
  intro e w7 hpost
  rcases ppost_or hpost with ⟨er, li, co, hr, rfl, hst⟩ | ⟨D2, b5, v, hr, rfl, hst, hps, hv⟩
  · have HE : Hid (R = .inr (er, li, co)) := by rw [HR4.out, hr]; exact rfl
    have HF := hideP (C7.out.st.trans hst)
    clear hr hst hpost
    go_wp2_with fail
    exact ⟨rfl, HF.out, by rw [HE.out]⟩
  have HR5 : Hid (R = (wantA ts b5 [125]).go fun _ b => .inl (mkE 10 s 0 0 0 [] [] [D1, D2], b)) := by rw [HR4.out, hr]; exact rfl
  obtain ⟨x2, rfl, hv⟩ := hv
  have C8 := hideP ((C7.out.step hst hps).addN hv C7.out.sz)
  have C9 := hideP (C8.out.alloc (x2.obj))
  clear hr hst hps hpost hv
  go_wp2_with fail
  refine (must_c pb tb cap b5 d ts [125] _ C9.out.ps OK.out).mono ?_
  intro e w8 hpost
  rcases ppost_or hpost with ⟨er, li, co, hr, rfl, hst⟩ | ⟨u6, b6, v6, hr, rfl, hst, hps, hv⟩
  · have HE : Hid (R = .inr (er, li, co)) := by rw [HR5.out, hr]; exact rfl
    have HF := hideP (C9.out.st.trans hst)
    clear hr hst hpost
    go_wp2_with fail
    exact ⟨rfl, HF.out, by rw [HE.out]⟩
  have HR6 : Hid (R = .inl (mkE 10 s 0 0 0 [] [] [D1, D2], b6)) := by rw [HR5.out, hr]; exact rfl
  have C10 := hideP ((C9.out.step hst hps))
  clear hr hst hps hpost hv
  obtain ⟨⟨r0, r1, r2, r3, r4, r5, r6, r7⟩, ⟨f0, f1, f2, f3, f4, f5, f6, f7⟩, hr1⟩ := box8 (x := zNV) (C10.out.b2)
  obtain ⟨⟨n0, n1, n2, n3, n4, n5, n6, n7⟩, _, hn1⟩ := box8 (x := x1) C10.out.b1
  obtain ⟨⟨m0, m1, m2, m3, m4, m5, m6, m7⟩, _, hm1⟩ := box8 (x := x2) C10.out.b0
  have hne1 : ¬ w3.heap.size = w.heap.size := by have := C3.out.sz; omega
  have hne2 : ¬ w7.heap.size = w.heap.size := by have := C8.out.sz; omega
  go_wp2_with fail
  rw [HR6.out]
  refine bodyPost_ret (results_cell_row rfl _ _ w.heap.size 27 _ (0, 0) _ rfl ((Below.heap_alloc _ _ _ (show w.heap.size < (put8 w8 w.heap.size (withNV s w8.heap.size)).heap.size by rw [put8_size]; exact hr1)).trans (put8_heap (x := withNV s w8.heap.size) C10.out.b2)) underlying27 rfl (by kernel_rfl)) rfl ⟨(stay_put8 C10.out.st hp (Nat.le_refl _) (withNV s w8.heap.size)).alloc hp _, (ps_put8 C10.out.ps hp (withNV s w8.heap.size)).alloc _, _, rfl, withNV s w8.heap.size, rfl, ?_⟩
  have hk : ((put8 w8 w.heap.size (withNV s w8.heap.size)).alloc (.cells #[.int .i64 x1.k, .string x1.tx, .int .i64 x1.N, .int .i64 x1.li, .int .i64 x1.co, .slice x1.ta x1.tl x1.tc, .slice x1.na x1.nl x1.nc, .slice x1.ka x1.kl x1.kc, .int .i64 x2.k, .string x2.tx, .int .i64 x2.N, .int .i64 x2.li, .int .i64 x2.co, .slice x2.ta x2.tl x2.tc, .slice x2.na x2.nl x2.nc, .slice x2.ka x2.kl x2.kc] 27)).heap[w8.heap.size]? = some (.cells #[.int .i64 x1.k, .string x1.tx, .int .i64 x1.N, .int .i64 x1.li, .int .i64 x1.co, .slice x1.ta x1.tl x1.tc, .slice x1.na x1.nl x1.nc, .slice x1.ka x1.kl x1.kc, .int .i64 x2.k, .string x2.tx, .int .i64 x2.N, .int .i64 x2.li, .int .i64 x2.co, .slice x2.ta x2.tl x2.tc, .slice x2.na x2.nl x2.nc, .slice x2.ka x2.kl x2.kc] 27) := by
    have := heap_alloc_last (put8 w8 w.heap.size (withNV s w8.heap.size)) (.cells #[.int .i64 x1.k, .string x1.tx, .int .i64 x1.N, .int .i64 x1.li, .int .i64 x1.co, .slice x1.ta x1.tl x1.tc, .slice x1.na x1.nl x1.nc, .slice x1.ka x1.kl x1.kc, .int .i64 x2.k, .string x2.tx, .int .i64 x2.N, .int .i64 x2.li, .int .i64 x2.co, .slice x2.ta x2.tl x2.tc, .slice x2.na x2.nl x2.nc, .slice x2.ka x2.kl x2.kc] 27)
    rw [put8_size] at this
    exact this
  exact (ndV_two ((C10.out.n1.put8 (Nat.lt_succ_self _) (withNV s w8.heap.size)).alloc _) ((C10.out.n0.put8 (Nat.lt_succ_self _) (withNV s w8.heap.size)).alloc _) hk C10.out.sz (withNV s w8.heap.size) [] [] ⟨rfl, rfl⟩ ⟨rfl, Nat.zero_le _, 0, .inl rfl⟩ ⟨rfl, Nat.zero_le _, .inl rfl⟩).lower (Nat.le_succ _)
/-- Behind a bracket: a record, or a record with a field; its place is still to come. -/
def bracesA (ts : List Tok) (E : Nat -> Pr Ty) (f a : Nat) : Pr Ty :=
  if seesA ts a [125] then (fieldsA ts E f a).go fun l b => .inl (mkE 8 [] 0 0 0 [] (l.map (·.1)) (l.map (·.2)), b)
  else if (tkA ts a).kind == 1 && seesA ts (a + 1) [58] then (fieldsA ts E f a).go fun l b => .inl (mkE 8 [] 0 0 0 [] (l.map (·.1)) (l.map (·.2)), b)
  else (E a).go fun x b => (wantA ts b [119, 105, 116, 104]).go fun _ b => (nameA ts b).go fun s b => (wantA ts b [58]).go fun _ b => (E b).go fun y b => (wantA ts b [125]).go fun _ b => .inl (mkE 10 s 0 0 0 [] [] [x, y], b)
theorem braces_c (pb tb cap d : Nat) (ts : List Tok) (E : Nat -> Pr Ty) (hE : Reads pb tb cap d ts NdE 12 E) (ok : ToksOk ts) (a : Nat) (w : World) (h : Ps w pb tb cap ts a d) :
    Calls prog 149 #[.pointer (some ⟨pb, 0, none⟩)] w (PPost pb tb cap ts d w NdE (bracesA ts E ts.length a)) := by
  unfold bracesA
  by_cases h1 : seesA ts a [125] = true
  · rw [if_pos h1]
    exact braces_none pb tb cap d ts E hE ok a h1 w h
  · rw [if_neg h1]
    by_cases h2 : ((tkA ts a).kind == 1 && seesA ts (a + 1) [58]) = true
    · rw [if_pos h2]
      exact braces_field pb tb cap d ts E hE ok a (by simpa using h1) h2 w h
    · rw [if_neg h2]
      exact braces_with pb tb cap d ts E hE ok a (by simpa using h1) (by simpa using h2) w h
end Go.Proofs.YtlhmofphpfdjlaaGreatDoor
