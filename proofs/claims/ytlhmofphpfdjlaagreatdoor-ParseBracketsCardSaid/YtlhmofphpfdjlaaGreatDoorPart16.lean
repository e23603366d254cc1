/- Part. -/
import Derived.Test.YtlhmofphpfdjlaaGreatDoorPart15
set_option maxRecDepth 100000
set_option maxHeartbeats 4000000
/- The fields of a record type. -/
namespace Go.Proofs.YtlhmofphpfdjlaaGreatDoor
open Go.Proofs.Tryz
open Go.RowKit
/-- Fields behind a bracket, and the bracket behind them. -/
def fieldsA {α : Type} (ts : List Tok) (K : Nat -> Pr α) (f a : Nat) : Pr (List (List UInt8 × α)) :=
  if seesA ts a [125] then .inl ([], a + 1) else (manyA ts (fieldA ts K) [44] f a).go fun l b => (wantA ts b [125]).go fun _ b => .inl (l, b)
/-- The rest of the fields, at the name of one. -/
def FieldsAt {α : Type} (ts : List Tok) (K : Nat -> Pr α) (R : Pr (List (List UInt8 × α))) (acc : List (List UInt8 × α)) (f a : Nat) : Prop :=
  R = (manyA ts (fieldA ts K) [44] f a).go fun l b => (wantA ts b [125]).go fun _ b => .inl (acc ++ l, b)
section
variable {α : Type} {ts : List Tok} {K : Nat -> Pr α} {R : Pr (List (List UInt8 × α))} {acc : List (List UInt8 × α)} {f a b c e' : Nat} {s : List UInt8} {x : α} {e : Int × Nat × Nat} {u : Unit}
theorem fields_start (h : seesA ts a [125] = false) : FieldsAt ts K (fieldsA ts K f a) [] f a := by
  unfold FieldsAt fieldsA
  rw [if_neg (by simp [h])]
  rfl
theorem fields_none (h : seesA ts a [125] = true) : fieldsA ts K f a = .inl ([], a + 1) := by
  unfold fieldsA
  rw [if_pos h]
theorem fields_name (h : FieldsAt ts K R acc (f + 1) a) (hn : nameA ts a = .inr e) : R = .inr e := by
  unfold FieldsAt at h
  rw [h, manyA, fieldA, hn]
  rfl
theorem fields_colon (h : FieldsAt ts K R acc (f + 1) a) (hn : nameA ts a = .inl (s, b)) (hc : wantA ts b [58] = .inr e) : R = .inr e := by
  unfold FieldsAt at h
  rw [h, manyA, fieldA, hn]
  show Pr.go (Pr.go (Pr.go (wantA ts b [58]) _) _) _ = _
  rw [hc]
  rfl
theorem fields_value (h : FieldsAt ts K R acc (f + 1) a) (hn : nameA ts a = .inl (s, b)) (hc : wantA ts b [58] = .inl (u, c)) (hv : K c = .inr e) : R = .inr e := by
  unfold FieldsAt at h
  rw [h, manyA, fieldA, hn]
  show Pr.go (Pr.go (Pr.go (wantA ts b [58]) _) _) _ = _
  rw [hc]
  show Pr.go (Pr.go (Pr.go (K c) _) _) _ = _
  rw [hv]
  rfl
theorem fields_one (h : FieldsAt ts K R acc (f + 1) a) (hn : nameA ts a = .inl (s, b)) (hc : wantA ts b [58] = .inl (u, c)) (hv : K c = .inl (x, e')) :
    R = if seesA ts e' [44] then (manyA ts (fieldA ts K) [44] f (e' + 1)).go fun l b => (wantA ts b [125]).go fun _ b => .inl (acc ++ (s, x) :: l, b) else (wantA ts e' [125]).go fun _ b => .inl (acc ++ [(s, x)], b) := by
  unfold FieldsAt at h
  rw [h, manyA, fieldA, hn]
  show Pr.go (Pr.go (Pr.go (wantA ts b [58]) _) _) _ = _
  rw [hc]
  show Pr.go (Pr.go (Pr.go (K c) _) _) _ = _
  rw [hv]
  show Pr.go (if seesA ts e' [44] then _ else _) _ = _
  by_cases hs : seesA ts e' [44] = true
  · rw [if_pos hs, if_pos hs]
    cases manyA ts (fieldA ts K) [44] f (e' + 1) with
    | inl p => rfl
    | inr p => rfl
  · rw [if_neg hs, if_neg hs]
    rfl
theorem fields_more (h : FieldsAt ts K R acc (f + 1) a) (hn : nameA ts a = .inl (s, b)) (hc : wantA ts b [58] = .inl (u, c)) (hv : K c = .inl (x, e')) {y : Nat} (hg : goesA ts e' [44] [125] = .inl (true, y)) : FieldsAt ts K R (acc ++ [(s, x)]) f y /\ y = e' + 1 := by
  have h1 := fields_one h hn hc hv
  unfold goesA at hg
  by_cases hs : seesA ts e' [44] = true
  · rw [if_pos hs] at hg h1
    injection hg with hg
    injection hg with _ hg
    subst hg
    refine ⟨?_, rfl⟩
    unfold FieldsAt
    rw [h1]
    simp
  · rw [if_neg hs] at hg
    cases hw : wantA ts e' [125] with
    | inl p => rw [hw] at hg; injection hg with hg; injection hg with hg; cases hg
    | inr p => rw [hw] at hg; cases hg
theorem fields_end (h : FieldsAt ts K R acc (f + 1) a) (hn : nameA ts a = .inl (s, b)) (hc : wantA ts b [58] = .inl (u, c)) (hv : K c = .inl (x, e')) {y : Nat} (hg : goesA ts e' [44] [125] = .inl (false, y)) : R = .inl (acc ++ [(s, x)], y) /\ e' <= y := by
  have h1 := fields_one h hn hc hv
  unfold goesA at hg
  by_cases hs : seesA ts e' [44] = true
  · rw [if_pos hs] at hg
    injection hg with hg
    injection hg with hg
    cases hg
  · rw [if_neg hs] at hg h1
    rw [h1]
    unfold wantA at hg ⊢
    by_cases ht : seesA ts e' [125] = true
    · rw [if_pos ht] at hg ⊢
      injection hg with hg
      injection hg with _ hg
      subst hg
      exact ⟨rfl, by omega⟩
    · rw [if_neg ht] at hg
      cases hg
theorem fields_fail (h : FieldsAt ts K R acc (f + 1) a) (hn : nameA ts a = .inl (s, b)) (hc : wantA ts b [58] = .inl (u, c)) (hv : K c = .inl (x, e')) (hg : goesA ts e' [44] [125] = .inr e) : R = .inr e := by
  have h1 := fields_one h hn hc hv
  unfold goesA at hg
  by_cases hs : seesA ts e' [44] = true
  · rw [if_pos hs] at hg
    cases hg
  · rw [if_neg hs] at hg h1
    rw [h1]
    cases hw : wantA ts e' [125] with
    | inl p => rw [hw] at hg; cases hg
    | inr p =>
      rw [hw] at hg
      injection hg with hg
      rw [hg]
      rfl
end
theorem name_up {ts : List Tok} {a b : Nat} {s : List UInt8} (h : nameA ts a = .inl (s, b)) : b = a + 1 := by
  unfold nameA at h
  split at h
  · injection h with h; injection h with _ h; exact h.symm
  · cases h
theorem want_up {ts : List Tok} {a b : Nat} {s : List UInt8} {u : Unit} (h : wantA ts a s = .inl (u, b)) : b = a + 1 := by
  unfold wantA at h
  split at h
  · injection h with h; injection h with _ h; exact h.symm
  · cases h
theorem results_two {fn : Func} {t u : Tmp} (h : fn.results = #[.tmp t, .tmp u]) (tmps : Array Value) (P : Program) (w : World) : (results fn tmps).run P w = .ok (.tuple #[tmps.getD t undef, tmps.getD u undef]) w := by
  simp [results, h]
/-- A text, by its one cell. -/
def StrC (_ : Nat) (_ : World) (c : List Value) (s : List UInt8) : Prop := c = [.string ⟨s.toArray⟩]
theorem strC_k : RepK StrC where
  keep := fun h _ _ => h
  lower := fun h _ => h
/-- Two slices: names, and what stands for them. -/
def FieldsE (lo : Nat) (w : World) (v : Value) (l : List (List UInt8 × Ty)) : Prop := ∃ vn vv cn cv, v = .tuple #[vn, vv] /\ RowsC StrC lo 9 1 vv.ownBlock w vn cn (l.map (·.1)) /\ RowsC TyC4 lo 44 4 vn.ownBlock w vv cv (l.map (·.2))
theorem fieldsT_c (pb tb cap d : Nat) (ts : List Tok) (g : Nat) (K : Nat -> Pr Ty) (hg : Reads pb tb cap d ts TyE g K)
    (f a : Nat) (hf : ts.length <= a + (f + 1)) (w : World) (h : Ps w pb tb cap ts a d) (ok : ToksOk ts) :
    Calls prog 117 #[.pointer (some ⟨pb, 0, none⟩), .func (.func g) #[] #[]] w (PPost pb tb cap ts d w FieldsE (fieldsA ts K (f + 1) a)) := by
  have H := hideP h
  have OK := hideP ok
  have HG := hideP hg
  have hen := hg.enters
  clear h ok hg
  have HT := hideP (take_c pb tb cap a d ts [125] w H.out OK.out)
  have HF := hideP hf
  clear hf
  obtain ⟨R, hR⟩ : ∃ R, R = fieldsA ts K (f + 1) a := ⟨_, rfl⟩
  rw [<- hR]
  obtain ⟨sb, hsb⟩ : ∃ sb, sb = seesA ts a [125] := ⟨_, rfl⟩
  rw [<- hsb] at HT
  have HR := hideP hR
  have HSB := hideP hsb
  clear hR hsb
  have hnot : ∀ (x : Bool) (w : World), (Op.unary .not (.bool x)).run prog w = .ok (.bool (!x)) w := fun _ _ => rfl
  obtain ⟨i0, hi, hz0, hz1, hz2⟩ := info_parts info_ty
  obtain ⟨s0, si, sz0, sz1, sz2⟩ := info_parts info_str
  go_enter func117, ntmps117
  go_wp2_with fail
  refine HT.out.mono ?_
  rintro e w1 ⟨rfl, hst, hps⟩
  have HST := hideP hst
  have HP := hideP hps
  clear hst hps
  go_wp2_with fail
  go_loopg [6, 7, 8] (ts.length + 2) (fun gk vn vv mo wr => ∃ (b m : Nat) (cn cv : List (List Value)) (acc : List (List UInt8 × Ty)) (ns : List (List UInt8)) (ks : List Ty) (mb : Bool), mo = .bool mb /\ Hid (ns = acc.map (·.1) /\ ks = acc.map (·.2)) /\ Hid (RowsC StrC w.heap.size 9 1 vv.ownBlock wr vn cn ns) /\ Hid (RowsC TyC4 w.heap.size 44 4 vn.ownBlock wr vv cv ks) /\ Hid (Stay pb w wr) /\ Hid (Ps wr pb tb cap ts b d) /\ Hid (acc.length <= b) /\ Hid (ts.length <= b + (m + 1)) /\ Hid (mb = true -> FieldsAt ts K R acc (m + 1) b /\ ts.length - b + 1 <= gk) /\ Hid (mb = false -> R = .inl (acc, b)))
  case atStart =>
    refine ⟨_, f, [], [], [], [], [], _, rfl, ⟨rfl, rfl⟩, rows_nil _ _ _ _ _, rows_nil _ _ _ _ _, HST, HP, Nat.zero_le _, ?_, fun h => ?_, fun h => ?_⟩
    · have := HF.out
      show _ <= _
      split <;> omega
    · have hs : sb = false := by simpa using h
      rw [hs] at HSB ⊢
      exact ⟨by rw [HR.out]; exact fields_start HSB.out.symm, by have := HF.out; simp; omega⟩
    · have hs : sb = true := by simpa using h
      rw [hs] at HSB ⊢
      rw [HR.out]
      exact fields_none HSB.out.symm
  case round =>
    clear HST HP HT HR HSB
    obtain ⟨b, m, cn, cv, acc, ns, ks, mb, rfl, HNS, HN, HV, HSt, HPs, HAc, HLe, HTr, HFa⟩ := hrel
    cases mb with
    | false =>
      have HE := hideP (HFa.out rfl)
      clear HFa HTr
      go_wp2_with fail
      refine bodyPost_ret (results_two rfl _ _ _) rfl ?_
      rw [HE.out]
      exact ⟨HSt.out, HPs.out, _, rfl, _, _, cn, cv, rfl, HNS.out.1 ▸ HN.out, HNS.out.2 ▸ HV.out⟩
    | true =>
      have HFi := hideP (HTr.out rfl).1
      have hgk := (HTr.out rfl).2
      clear HFa HTr
      obtain ⟨av, lv, rfl⟩ := row_shape HN.out.ow
      obtain ⟨av2, lv2, rfl⟩ := row_shape HV.out.ow
      have HO := hideP (pname_c pb tb cap b d ts wr HPs.out OK.out)
      cases hn : nameA ts b with
      | inr x =>
        obtain ⟨er, li, co⟩ := x
        have HE := hideP (fields_name HFi.out hn)
        rw [hn] at HO
        clear hn
        go_wp2_with fail
        refine HO.out.mono ?_
        rintro e w2 ⟨hst, rfl⟩
        have HST := hideP (HSt.out.trans hst)
        clear hst
        go_wp2_with fail
        rw [HE.out]
        exact ⟨rfl, HST.out, rfl⟩
      | inl x =>
        obtain ⟨s, b1⟩ := x
        have HNa := hideP hn
        have hb1 := name_up hn
        rw [hn] at HO
        clear hn
        have hac : acc.length <= 8193 := by have := HAc.out; have := OK.out.len; have := HPs.out.lt; omega
        have hac1 : ns.length <= 8193 := by rw [HNS.out.1]; simpa using hac
        have hac2 : ks.length <= 8193 := by rw [HNS.out.2]; simpa using hac
        go_wp2_with fail
        refine HO.out.mono ?_
        rintro e w2 ⟨hst, hps, v, rfl, rfl⟩
        have HST := hideP (HSt.out.trans hst)
        have HPS := hideP hps
        have HN2 := hideP (HN.out.stay hst H.out.ltp)
        have HV2 := hideP (HV.out.stay hst H.out.ltp)
        clear hst hps
        go_wp2_with (at_builtin; refine wpList_append_own_at _ rfl (.tmp 19) (.tmp 24) 24 rfl w.heap.size 9 s0 _ 1 16 underlying24 si sz0 sz1 sz2 rfl (by decide) _ _ _ rfl (HN2.out.ow.alloc _) ⟨_, 0, none⟩ 1 1 [.string ⟨s.toArray⟩] rfl rfl (cells_newK _ _ _) (by simp [Value.oneCell']) (by unfold maxLen; omega) (by omega) (by have := HST.out.size; simp; omega) ?_)
        intro vn' w4 hown' hgrow _ hloc
        have HN4 := hideP (HN2.out.put (x := s) (rep := StrC) hown' hgrow (hloc.imp_right fun e => ⟨_, e, by simp⟩) ((Stay.refl pb w2).alloc HPS.out.ltp _) H.out.ltp rfl ((Made.new (rep := StrC) (lo := w2.heap.size) rfl HST.out.size fun q hq => HN2.out.all q hq).stay ((Stay.refl pb w2).alloc HPS.out.ltp _) H.out.ltp))
        have HV4 := hideP ((HV2.out.stay ((Stay.refl pb w2).alloc HPS.out.ltp _) H.out.ltp).beside (o' := vn'.ownBlock) hgrow (hloc.imp_right fun e => ⟨_, e, by simp, (hown'.lt _ e).2⟩) (by have := HST.out.size; simp; omega))
        have HST4 : Hid (Stay pb w w4) := (HST.out.alloc H.out.ltp _).grown hgrow H.out.ltp fun q hq => (HN2.out.own q hq).1
        have HPS4 : Hid (Ps w4 pb tb cap ts b1 d) := (HPS.out.alloc _).grown hgrow fun q hq => Nat.lt_of_lt_of_le H.out.ltp (HN2.out.own q hq).1
        obtain ⟨av3, lv3, rfl⟩ := row_shape hown'
        clear hown' hgrow hloc HN2 HV2 HST HPS
        have HM := hideP (must_c pb tb cap b1 d ts [58] w4 HPS4.out OK.out)
        cases hm : wantA ts b1 [58] with
        | inr x =>
          obtain ⟨er, li, co⟩ := x
          have HE := hideP (fields_colon HFi.out HNa.out hm)
          rw [hm] at HM
          clear hm
          go_wp2_with fail
          refine HM.out.mono ?_
          rintro e w5 ⟨hst, rfl⟩
          have HST5 := hideP (HST4.out.trans hst)
          clear hst
          go_wp2_with fail
          rw [HE.out]
          exact ⟨rfl, HST5.out, rfl⟩
        | inl x =>
          obtain ⟨u, b2⟩ := x
          have HWa := hideP hm
          have hb2 := want_up hm
          rw [hm] at HM
          clear hm
          go_wp2_with fail
          refine HM.out.mono ?_
          rintro e w5 ⟨hst, hps, v, rfl, _⟩
          have HST5 := hideP (HST4.out.trans hst)
          have HPS5 := hideP hps
          have HN5 := hideP (HN4.out.stay hst H.out.ltp)
          have HV5 := hideP (HV4.out.stay hst H.out.ltp)
          clear hst hps HM
          have HO2 := hideP (HG.out.calls b2 w5 HPS5.out)
          cases ho : K b2 with
          | inr x =>
            obtain ⟨er, li, co⟩ := x
            have HE := hideP (fields_value HFi.out HNa.out HWa.out ho)
            rw [ho] at HO2
            clear ho
            go_wp2_with fail
            refine HO2.out.mono ?_
            rintro e w6 ⟨hst, rfl⟩
            have HST6 := hideP (HST5.out.trans hst)
            clear hst
            go_wp2_with fail
            rw [HE.out]
            exact ⟨rfl, HST6.out, rfl⟩
          | inl x =>
            obtain ⟨D1, b3⟩ := x
            have HKo := hideP ho
            have hb3 := HG.out.up _ _ _ ho
            rw [ho] at HO2
            clear ho
            go_wp2_with fail
            refine HO2.out.mono ?_
            rintro e w6 ⟨hst, hps, v, rfl, hv⟩
            obtain ⟨k1, nm1, na1, nl1, nc1, ka1, kl1, kc1, rfl⟩ := hv.cells
            have HST6 := hideP (HST5.out.trans hst)
            have HPS6 := hideP hps
            have HN6 := hideP (HN5.out.stay hst H.out.ltp)
            have HV6 := hideP (HV5.out.stay hst H.out.ltp)
            have HVal := hideP hv
            clear hst hps hv
            go_wp2_with (at_builtin; refine wpList_append_own_at _ rfl (.tmp 30) (.tmp 34) 23 rfl w.heap.size 44 i0 _ 4 72 underlying23 hi hz0 hz1 hz2 rfl (by decide) _ _ _ rfl (HV6.out.ow.alloc _) ⟨_, 0, none⟩ 1 1 [.int .i64 k1, .string nm1, .slice na1 nl1 nc1, .slice ka1 kl1 kc1] rfl rfl (cells_newK _ _ _) (by simp [Value.oneCell']) (by unfold maxLen; omega) (by omega) (by have := HST6.out.size; simp; omega) ?_)
            intro vv' w7 hown' hgrow _ hloc
            have HV7 := hideP (HV6.out.put (x := D1) (rep := TyC4) hown' hgrow (hloc.imp_right fun e => ⟨_, e, by simp⟩) ((Stay.refl pb w6).alloc HPS6.out.ltp _) H.out.ltp rfl ((Made.new (rep := TyC4) HVal.out HST5.out.size fun q hq => HV5.out.all q hq).stay ((Stay.refl pb w6).alloc HPS6.out.ltp _) H.out.ltp))
            have HN7 := hideP ((HN6.out.stay ((Stay.refl pb w6).alloc HPS6.out.ltp _) H.out.ltp).beside (o' := vv'.ownBlock) hgrow (hloc.imp_right fun e => ⟨_, e, by simp, (hown'.lt _ e).2⟩) (by have := HST6.out.size; simp; omega))
            have HST7 : Hid (Stay pb w w7) := (HST6.out.alloc H.out.ltp _).grown hgrow H.out.ltp fun q hq => (HV6.out.own q hq).1
            have HPS7 : Hid (Ps w7 pb tb cap ts b3 d) := (HPS6.out.alloc _).grown hgrow fun q hq => Nat.lt_of_lt_of_le H.out.ltp (HV6.out.own q hq).1
            clear hown' hgrow hloc HO2
            have HGo := hideP (goesOn_c pb tb cap b3 d ts [44] [125] w7 HPS7.out OK.out)
            cases hg : goesA ts b3 [44] [125] with
            | inr x =>
              obtain ⟨er, li, co⟩ := x
              have HE := hideP (fields_fail HFi.out HNa.out HWa.out HKo.out hg)
              rw [hg] at HGo
              clear hg
              go_wp2_with fail
              refine HGo.out.mono ?_
              rintro e w8 ⟨hst, rfl⟩
              have HST8 := hideP (HST7.out.trans hst)
              clear hst
              go_wp2_with fail
              rw [HE.out]
              exact ⟨rfl, HST8.out, rfl⟩
            | inl x =>
              obtain ⟨gb, b4⟩ := x
              have HGoe := hideP hg
              rw [hg] at HGo
              clear hg
              go_wp2_with fail
              refine HGo.out.mono ?_
              rintro e w8 ⟨hst, hps, v, rfl, rfl⟩
              have HST8 := hideP (HST7.out.trans hst)
              have HPS8 := hideP hps
              have HN8 := hideP (HN7.out.stay hst H.out.ltp)
              have HV8 := hideP (HV7.out.stay hst H.out.ltp)
              clear hst hps HGo
              go_wp2_with fail
              have hb4 : b3 <= b4 := by
                cases gb with
                | true => have := (fields_more HFi.out HNa.out HWa.out HKo.out HGoe.out).2; omega
                | false => exact (fields_end HFi.out HNa.out HWa.out HKo.out HGoe.out).2
              go_roundg (ts.length - b4 + 1)
              case measure => have := HPS8.out.lt; omega
              case rel =>
                refine ⟨b4, m - 1, _, _, acc ++ [(s, D1)], _, _, gb, rfl, ⟨?_, ?_⟩, HN8, HV8, HST8, HPS8, ?_, ?_, fun h => ?_, fun h => ?_⟩
                · rw [HNS.out.1]; simp
                · rw [HNS.out.2]; simp
                · have := HAc.out
                  show (acc ++ [(s, D1)]).length <= b4
                  simp
                  omega
                · have := HLe.out
                  show _ <= _
                  omega
                · subst h
                  have h1 := (fields_more HFi.out HNa.out HWa.out HKo.out HGoe.out)
                  have := HPS8.out.lt
                  have := HLe.out
                  obtain ⟨q, rfl⟩ : ∃ q, m = q + 1 := ⟨m - 1, by omega⟩
                  exact ⟨h1.1, Nat.le_refl _⟩
                · subst h
                  exact (fields_end HFi.out HNa.out HWa.out HKo.out HGoe.out).1
end Go.Proofs.YtlhmofphpfdjlaaGreatDoor
