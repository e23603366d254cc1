/- Part. -/
import Derived.Test.YtlhmofphpfdjlaaGreatDoorPart12
set_option maxRecDepth 100000
set_option maxHeartbeats 4000000
/- The fields of a record type. -/
namespace Go.Proofs.YtlhmofphpfdjlaaGreatDoor
open Go.Proofs.Tryz
open Go.RowKit
/-- Fields behind a bracket, and the bracket behind them. -/
def fieldsA {α : Type} (ts : List Tok) (K : Nat -> Pr α) (f a : Nat) : Pr (List (List UInt8 × α)) :=
  if seesA ts a [125] then .inl ([], a + 1) else (manyA ts (fieldA ts K) [44] f a).go fun l b => (wantA ts b [125]).go fun _ b => .inl (l, b)
/-- The rest of the fields, at the name of one. -/
def FieldsAt {α : Type} (ts : List Tok) (K : Nat -> Pr α) (R : Pr (List (List UInt8 × α))) (acc : List (List UInt8 × α)) (f a : Nat) : Prop :=
  R = (manyA ts (fieldA ts K) [44] f a).go fun l b => (wantA ts b [125]).go fun _ b => .inl (acc ++ l, b)
section
variable {α : Type} {ts : List Tok} {K : Nat -> Pr α} {R : Pr (List (List UInt8 × α))} {acc : List (List UInt8 × α)} {f a b c e' : Nat} {s : List UInt8} {x : α} {e : Int × Nat × Nat} {u : Unit}
theorem fields_start (h : seesA ts a [125] = false) : FieldsAt ts K (fieldsA ts K f a) [] f a := by
  unfold FieldsAt fieldsA
  rw [if_neg (by simp [h])]
  rfl
theorem fields_none (h : seesA ts a [125] = true) : fieldsA ts K f a = .inl ([], a + 1) := by
  unfold fieldsA
  rw [if_pos h]
theorem fields_name (h : FieldsAt ts K R acc (f + 1) a) (hn : nameA ts a = .inr e) : R = .inr e := by
  unfold FieldsAt at h
  rw [h, manyA, fieldA, hn]
  rfl
theorem fields_colon (h : FieldsAt ts K R acc (f + 1) a) (hn : nameA ts a = .inl (s, b)) (hc : wantA ts b [58] = .inr e) : R = .inr e := by
  unfold FieldsAt at h
  rw [h, manyA, fieldA, hn]
  show Pr.go (Pr.go (Pr.go (wantA ts b [58]) _) _) _ = _
  rw [hc]
  rfl
theorem fields_value (h : FieldsAt ts K R acc (f + 1) a) (hn : nameA ts a = .inl (s, b)) (hc : wantA ts b [58] = .inl (u, c)) (hv : K c = .inr e) : R = .inr e := by
  unfold FieldsAt at h
  rw [h, manyA, fieldA, hn]
  show Pr.go (Pr.go (Pr.go (wantA ts b [58]) _) _) _ = _
  rw [hc]
  show Pr.go (Pr.go (Pr.go (K c) _) _) _ = _
  rw [hv]
  rfl
theorem fields_one (h : FieldsAt ts K R acc (f + 1) a) (hn : nameA ts a = .inl (s, b)) (hc : wantA ts b [58] = .inl (u, c)) (hv : K c = .inl (x, e')) :
    R = if seesA ts e' [44] then (manyA ts (fieldA ts K) [44] f (e' + 1)).go fun l b => (wantA ts b [125]).go fun _ b => .inl (acc ++ (s, x) :: l, b) else (wantA ts e' [125]).go fun _ b => .inl (acc ++ [(s, x)], b) := by
  unfold FieldsAt at h
  rw [h, manyA, fieldA, hn]
  show Pr.go (Pr.go (Pr.go (wantA ts b [58]) _) _) _ = _
  rw [hc]
  show Pr.go (Pr.go (Pr.go (K c) _) _) _ = _
  rw [hv]
  show Pr.go (if seesA ts e' [44] then _ else _) _ = _
  by_cases hs : seesA ts e' [44] = true
  · rw [if_pos hs, if_pos hs]
    cases manyA ts (fieldA ts K) [44] f (e' + 1) with
    | inl p => rfl
    | inr p => rfl
  · rw [if_neg hs, if_neg hs]
    rfl
theorem fields_more (h : FieldsAt ts K R acc (f + 1) a) (hn : nameA ts a = .inl (s, b)) (hc : wantA ts b [58] = .inl (u, c)) (hv : K c = .inl (x, e')) {y : Nat} (hg : goesA ts e' [44] [125] = .inl (true, y)) : FieldsAt ts K R (acc ++ [(s, x)]) f y /\ y = e' + 1 := by
  have h1 := fields_one h hn hc hv
  unfold goesA at hg
  by_cases hs : seesA ts e' [44] = true
  · rw [if_pos hs] at hg h1
    injection hg with hg
    injection hg with _ hg
    subst hg
    refine ⟨?_, rfl⟩
    unfold FieldsAt
    rw [h1]
    simp
  · rw [if_neg hs] at hg
    cases hw : wantA ts e' [125] with
    | inl p => rw [hw] at hg; injection hg with hg; injection hg with hg; cases hg
    | inr p => rw [hw] at hg; cases hg
theorem fields_end (h : FieldsAt ts K R acc (f + 1) a) (hn : nameA ts a = .inl (s, b)) (hc : wantA ts b [58] = .inl (u, c)) (hv : K c = .inl (x, e')) {y : Nat} (hg : goesA ts e' [44] [125] = .inl (false, y)) : R = .inl (acc ++ [(s, x)], y) /\ e' <= y := by
  have h1 := fields_one h hn hc hv
  unfold goesA at hg
  by_cases hs : seesA ts e' [44] = true
  · rw [if_pos hs] at hg
    injection hg with hg
    injection hg with hg
    cases hg
  · rw [if_neg hs] at hg h1
    rw [h1]
    unfold wantA at hg ⊢
    by_cases ht : seesA ts e' [125] = true
    · rw [if_pos ht] at hg ⊢
      injection hg with hg
      injection hg with _ hg
      subst hg
      exact ⟨rfl, by omega⟩
    · rw [if_neg ht] at hg
      cases hg
theorem fields_fail (h : FieldsAt ts K R acc (f + 1) a) (hn : nameA ts a = .inl (s, b)) (hc : wantA ts b [58] = .inl (u, c)) (hv : K c = .inl (x, e')) (hg : goesA ts e' [44] [125] = .inr e) : R = .inr e := by
  have h1 := fields_one h hn hc hv
  unfold goesA at hg
  by_cases hs : seesA ts e' [44] = true
  · rw [if_pos hs] at hg
    cases hg
  · rw [if_neg hs] at hg h1
    rw [h1]
    cases hw : wantA ts e' [125] with
    | inl p => rw [hw] at hg; cases hg
    | inr p =>
      rw [hw] at hg
      injection hg with hg
      rw [hg]
      rfl
end
theorem name_up {ts : List Tok} {a b : Nat} {s : List UInt8} (h : nameA ts a = .inl (s, b)) : b = a + 1 := by
  unfold nameA at h
  split at h
  · injection h with h; injection h with _ h; exact h.symm
  · cases h
theorem want_up {ts : List Tok} {a b : Nat} {s : List UInt8} {u : Unit} (h : wantA ts a s = .inl (u, b)) : b = a + 1 := by
  unfold wantA at h
  split at h
  · injection h with h; injection h with _ h; exact h.symm
  · cases h
theorem results_two {fn : Func} {t u : Tmp} (h : fn.results = #[.tmp t, .tmp u]) (tmps : Array Value) (P : Program) (w : World) : (results fn tmps).run P w = .ok (.tuple #[tmps.getD t undef, tmps.getD u undef]) w := by
  simp [results, h]
/-- A text, by its one cell. -/
def StrC (_ : Nat) (_ : World) (c : List Value) (s : List UInt8) : Prop := c = [.string ⟨s.toArray⟩]
theorem strC_k : RepK StrC where
  keep := fun h _ _ => h
  lower := fun h _ => h
/-- Two slices: names, and what stands for them. -/
def FieldsE (lo : Nat) (w : World) (v : Value) (l : List (List UInt8 × Ty)) : Prop := ∃ vn vv cn cv, v = .tuple #[vn, vv] /\ RowsC StrC lo 9 1 vv.ownBlock w vn cn (l.map (·.1)) /\ RowsC TyC4 lo 44 4 vn.ownBlock w vv cv (l.map (·.2))
theorem fieldsT_c (pb tb cap d : Nat) (ts : List Tok) (g : Nat) (K : Nat -> Pr Ty) (hg : Reads pb tb cap d ts TyE g K)
    (f a : Nat) (hf : ts.length <= a + (f + 1)) (w : World) (h : Ps w pb tb cap ts a d) (ok : ToksOk ts) :
    Calls prog 117 #[.pointer (some ⟨pb, 0, none⟩), .func (.func g) #[] #[]] w (PPost pb tb cap ts d w FieldsE (fieldsA ts K (f + 1) a)) := by
  have H := hideP h
  have OK := hideP ok
  have HG := hideP hg
  have hen := hg.enters
  clear h ok hg
  have HT := hideP (take_c pb tb cap a d ts [125] w H.out OK.out)
  have HF := hideP hf
  clear hf
  obtain ⟨R, hR⟩ : ∃ R, R = fieldsA ts K (f + 1) a := ⟨_, rfl⟩
  rw [<- hR]
  obtain ⟨sb, hsb⟩ : ∃ sb, sb = seesA ts a [125] := ⟨_, rfl⟩
  rw [<- hsb] at HT
  have HR := hideP hR
  have HSB := hideP hsb
  clear hR hsb
  have hnot : ∀ (x : Bool) (w : World), (Op.unary .not (.bool x)).run prog w = .ok (.bool (!x)) w := fun _ _ => rfl
  obtain ⟨i0, hi, hz0, hz1, hz2⟩ := info_parts info_ty
  obtain ⟨s0, si, sz0, sz1, sz2⟩ := info_parts info_str
  go_enter func117, ntmps117
  go_wp2_with fail
  refine HT.out.mono ?_
  rintro e w1 ⟨rfl, hst, hps⟩
  have HST := hideP hst
  have HP := hideP hps
  clear hst hps
  go_wp2_with fail
  go_loopg [6, 7, 8] (ts.length + 2) (fun gk vn vv mo wr => ∃ (b m : Nat) (cn cv : List (List Value)) (acc : List (List UInt8 × Ty)) (ns : List (List UInt8)) (ks : List Ty) (mb : Bool), mo = .bool mb /\ Hid (ns = acc.map (·.1) /\ ks = acc.map (·.2)) /\ Hid (RowsC StrC w.heap.size 9 1 vv.ownBlock wr vn cn ns) /\ Hid (RowsC TyC4 w.heap.size 44 4 vn.ownBlock wr vv cv ks) /\ Hid (Stay pb w wr) /\ Hid (Ps wr pb tb cap ts b d) /\ Hid (acc.length <= b) /\ Hid (ts.length <= b + (m + 1)) /\ Hid (mb = true -> FieldsAt ts K R acc (m + 1) b /\ ts.length - b + 1 <= gk) /\ Hid (mb = false -> R = .inl (acc, b)))
  case atStart =>
    refine ⟨_, f, [], [], [], [], [], _, rfl, ⟨rfl, rfl⟩, rows_nil _ _ _ _ _, rows_nil _ _ _ _ _, HST, HP, Nat.zero_le _, ?_, fun h => ?_, fun h => ?_⟩
    · have := HF.out
      show _ <= _
      split <;> omega
    · have hs : sb = false := by simpa using h
      rw [hs] at HSB ⊢
      exact ⟨by rw [HR.out]; exact fields_start HSB.out.symm, by have := HF.out; simp; omega⟩
    · have hs : sb = true := by simpa using h
      rw [hs] at HSB ⊢
      rw [HR.out]
      exact fields_none HSB.out.symm
  case round =>
    clear HST HP HT HR HSB
    obtain ⟨b, m, cn, cv, acc, ns, ks, mb, rfl, HNS, HN, HV, HSt, HPs, HAc, HLe, HTr, HFa⟩ := hrel
    cases mb with
    | false =>
      have HE := hideP (HFa.out rfl)
      clear HFa HTr
      go_wp2_with fail
      refine bodyPost_ret (results_two rfl _ _ _) rfl ?_
      rw [HE.out]
      exact ⟨HSt.out, HPs.out, _, rfl, _, _, cn, cv, rfl, HNS.out.1 ▸ HN.out, HNS.out.2 ▸ HV.out⟩
    | true =>
      have HFi := hideP (HTr.out rfl).1
      have hgk := (HTr.out rfl).2
      clear HFa HTr
      obtain ⟨av, lv, rfl⟩ := row_shape HN.out.ow
      obtain ⟨av2, lv2, rfl⟩ := row_shape HV.out.ow
      have HO := hideP (pname_c pb tb cap b d ts wr HPs.out OK.out)
      cases hn : nameA ts b with
      | inr x =>
        obtain ⟨er, li, co⟩ := x
        have HE := hideP (fields_name HFi.out hn)
        rw [hn] at HO
        clear hn
        go_wp2_with fail
        refine HO.out.mono ?_
        rintro e w2 ⟨hst, rfl⟩
        have HST := hideP (HSt.out.trans hst)
        clear hst
        go_wp2_with fail
        rw [HE.out]
        exact ⟨rfl, HST.out, rfl⟩
      | inl x =>
        obtain ⟨s, b1⟩ := x
        have HNa := hideP hn
        have hb1 := name_up hn
        rw [hn] at HO
        clear hn
        have hac : acc.length <= 8193 := by have := HAc.out; have := OK.out.len; have := HPs.out.lt; omega
        have hac1 : ns.length <= 8193 := by rw [HNS.out.1]; simpa using hac
        have hac2 : ks.length <= 8193 := by rw [HNS.out.2]; simpa using hac
        go_wp2_with fail
        refine HO.out.mono ?_
        rintro e w2 ⟨hst, hps, v, rfl, rfl⟩
        have HST := hideP (HSt.out.trans hst)
        have HPS := hideP hps
        have HN2 := hideP (HN.out.stay hst H.out.ltp)
        have HV2 := hideP (HV.out.stay hst H.out.ltp)
        clear hst hps
        go_wp2_with (at_builtin; refine wpList_append_own_at _ rfl (.tmp 19) (.tmp 24) 24 rfl w.heap.size 9 s0 _ 1 16 underlying24 si sz0 sz1 sz2 rfl (by decide) _ _ _ rfl (HN2.out.ow.alloc _) ⟨_, 0, none⟩ 1 1 [.string ⟨s.toArray⟩] rfl rfl (cells_newK _ _ _) (by simp [Value.oneCell']) (by unfold maxLen; omega) (by omega) (by have := HST.out.size; simp; omega) ?_)
        intro vn' w4 hown' hgrow _ hloc
        have HN4 := hideP (HN2.out.put (x := s) (rep := StrC) hown' hgrow (hloc.imp_right fun e => ⟨_, e, by simp⟩) ((Stay.refl pb w2).alloc HPS.out.ltp _) H.out.ltp rfl ((Made.new (rep := StrC) (lo := w2.heap.size) rfl HST.out.size fun q hq => HN2.out.all q hq).stay ((Stay.refl pb w2).alloc HPS.out.ltp _) H.out.ltp))
        have HV4 := hideP ((HV2.out.stay ((Stay.refl pb w2).alloc HPS.out.ltp _) H.out.ltp).beside (o' := vn'.ownBlock) hgrow (hloc.imp_right fun e => ⟨_, e, by simp, (hown'.lt _ e).2⟩) (by have := HST.out.size; simp; omega))
        have HST4 : Hid (Stay pb w w4) := (HST.out.alloc H.out.ltp _).grown hgrow H.out.ltp fun q hq => (HN2.out.own q hq).1
        have HPS4 : Hid (Ps w4 pb tb cap ts b1 d) := (HPS.out.alloc _).grown hgrow fun q hq => Nat.lt_of_lt_of_le H.out.ltp (HN2.out.own q hq).1
        obtain ⟨av3, lv3, rfl⟩ := row_shape hown'
        clear hown' hgrow hloc HN2 HV2 HST HPS
        have HM := hideP (must_c pb tb cap b1 d ts [58] w4 HPS4.out OK.out)
        cases hm : wantA ts b1 [58] with
        | inr x =>
          obtain ⟨er, li, co⟩ := x
          have HE := hideP (fields_colon HFi.out HNa.out hm)
          rw [hm] at HM
          clear hm
          go_wp2_with fail
          refine HM.out.mono ?_
          rintro e w5 ⟨hst, rfl⟩
          have HST5 := hideP (HST4.out.trans hst)
          clear hst
          go_wp2_with fail
          rw [HE.out]
          exact ⟨rfl, HST5.out, rfl⟩
        | inl x =>
          obtain ⟨u, b2⟩ := x
          have HWa := hideP hm
          have hb2 := want_up hm
          rw [hm] at HM
          clear hm
          go_wp2_with fail
          refine HM.out.mono ?_
          rintro e w5 ⟨hst, hps, v, rfl, _⟩
          have HST5 := hideP (HST4.out.trans hst)
          have HPS5 := hideP hps
          have HN5 := hideP (HN4.out.stay hst H.out.ltp)
          have HV5 := hideP (HV4.out.stay hst H.out.ltp)
          clear hst hps HM
          have HO2 := hideP (HG.out.calls b2 w5 HPS5.out)
          cases ho : K b2 with
          | inr x =>
            obtain ⟨er, li, co⟩ := x
            have HE := hideP (fields_value HFi.out HNa.out HWa.out ho)
            rw [ho] at HO2
            clear ho
            go_wp2_with fail
            refine HO2.out.mono ?_
            rintro e w6 ⟨hst, rfl⟩
            have HST6 := hideP (HST5.out.trans hst)
            clear hst
            go_wp2_with fail
            rw [HE.out]
            exact ⟨rfl, HST6.out, rfl⟩
          | inl x =>
            obtain ⟨D1, b3⟩ := x
            have HKo := hideP ho
            have hb3 := HG.out.up _ _ _ ho
            rw [ho] at HO2
            clear ho
            go_wp2_with fail
            refine HO2.out.mono ?_
            rintro e w6 ⟨hst, hps, v, rfl, hv⟩
            obtain ⟨k1, nm1, na1, nl1, nc1, ka1, kl1, kc1, rfl⟩ := hv.cells
            have HST6 := hideP (HST5.out.trans hst)
            have HPS6 := hideP hps
            have HN6 := hideP (HN5.out.stay hst H.out.ltp)
            have HV6 := hideP (HV5.out.stay hst H.out.ltp)
            have HVal := hideP hv
            clear hst hps hv
            go_wp2_with (at_builtin; refine wpList_append_own_at _ rfl (.tmp 30) (.tmp 34) 23 rfl w.heap.size 44 i0 _ 4 72 underlying23 hi hz0 hz1 hz2 rfl (by decide) _ _ _ rfl (HV6.out.ow.alloc _) ⟨_, 0, none⟩ 1 1 [.int .i64 k1, .string nm1, .slice na1 nl1 nc1, .slice ka1 kl1 kc1] rfl rfl (cells_newK _ _ _) (by simp [Value.oneCell']) (by unfold maxLen; omega) (by omega) (by have := HST6.out.size; simp; omega) ?_)
            intro vv' w7 hown' hgrow _ hloc
            have HV7 := hideP (HV6.out.put (x := D1) (rep := TyC4) hown' hgrow (hloc.imp_right fun e => ⟨_, e, by simp⟩) ((Stay.refl pb w6).alloc HPS6.out.ltp _) H.out.ltp rfl ((Made.new (rep := TyC4) HVal.out HST5.out.size fun q hq => HV5.out.all q hq).stay ((Stay.refl pb w6).alloc HPS6.out.ltp _) H.out.ltp))
            have HN7 := hideP ((HN6.out.stay ((Stay.refl pb w6).alloc HPS6.out.ltp _) H.out.ltp).beside (o' := vv'.ownBlock) hgrow (hloc.imp_right fun e => ⟨_, e, by simp, (hown'.lt _ e).2⟩) (by have := HST6.out.size; simp; omega))
            have HST7 : Hid (Stay pb w w7) := (HST6.out.alloc H.out.ltp _).grown hgrow H.out.ltp fun q hq => (HV6.out.own q hq).1
            have HPS7 : Hid (Ps w7 pb tb cap ts b3 d) := (HPS6.out.alloc _).grown hgrow fun q hq => Nat.lt_of_lt_of_le H.out.ltp (HV6.out.own q hq).1
            clear hown' hgrow hloc HO2
            have HGo := hideP (goesOn_c pb tb cap b3 d ts [44] [125] w7 HPS7.out OK.out)
            cases hg : goesA ts b3 [44] [125] with
            | inr x =>
              obtain ⟨er, li, co⟩ := x
              have HE := hideP (fields_fail HFi.out HNa.out HWa.out HKo.out hg)
              rw [hg] at HGo
              clear hg
              go_wp2_with fail
              refine HGo.out.mono ?_
              rintro e w8 ⟨hst, rfl⟩
              have HST8 := hideP (HST7.out.trans hst)
              clear hst
              go_wp2_with fail
              rw [HE.out]
              exact ⟨rfl, HST8.out, rfl⟩
            | inl x =>
              obtain ⟨gb, b4⟩ := x
              have HGoe := hideP hg
              rw [hg] at HGo
              clear hg
              go_wp2_with fail
              refine HGo.out.mono ?_
              rintro e w8 ⟨hst, hps, v, rfl, rfl⟩
              have HST8 := hideP (HST7.out.trans hst)
              have HPS8 := hideP hps
              have HN8 := hideP (HN7.out.stay hst H.out.ltp)
              have HV8 := hideP (HV7.out.stay hst H.out.ltp)
              clear hst hps HGo
              go_wp2_with fail
              have hb4 : b3 <= b4 := by
                cases gb with
                | true => have := (fields_more HFi.out HNa.out HWa.out HKo.out HGoe.out).2; omega
                | false => exact (fields_end HFi.out HNa.out HWa.out HKo.out HGoe.out).2
              go_roundg (ts.length - b4 + 1)
              case measure => have := HPS8.out.lt; omega
              case rel =>
                refine ⟨b4, m - 1, _, _, acc ++ [(s, D1)], _, _, gb, rfl, ⟨?_, ?_⟩, HN8, HV8, HST8, HPS8, ?_, ?_, fun h => ?_, fun h => ?_⟩
                · rw [HNS.out.1]; simp
                · rw [HNS.out.2]; simp
                · have := HAc.out
                  show (acc ++ [(s, D1)]).length <= b4
                  simp
                  omega
                · have := HLe.out
                  show _ <= _
                  omega
                · subst h
                  have h1 := (fields_more HFi.out HNa.out HWa.out HKo.out HGoe.out)
                  have := HPS8.out.lt
                  have := HLe.out
                  obtain ⟨q, rfl⟩ : ∃ q, m = q + 1 := ⟨m - 1, by omega⟩
                  exact ⟨h1.1, Nat.le_refl _⟩
                · subst h
                  exact (fields_end HFi.out HNa.out HWa.out HKo.out HGoe.out).1
end Go.Proofs.YtlhmofphpfdjlaaGreatDoor
/- The parser of types: prim. -/
namespace Go.Proofs.YtlhmofphpfdjlaaGreatDoor
open Go.Proofs.Tryz
open Go.RowKit
theorem enters_of {g : Nat} {fn : Func} (hf : prog.funcs[g]? = some fn) (hn : (fn.name == "runtime.NumGoroutine") = false) (hb : fn.body.isNone = false) (args : Array Value) (w : World) : (callFunc g args).run prog w = .ok (.enter g args) w := by
  have h1 : fn.name ≠ "runtime.NumGoroutine" := by simpa using hn
  have h2 : fn.body ≠ none := fun e => by rw [e] at hb; cases hb
  simp [callFunc, go_sem, hf, h1, h2]
theorem kind_enters (pb : Nat) : Enters 17 pb := fun w => enters_of func17 (by kernel_rfl) (by kernel_rfl) _ w
theorem prim_enters (pb : Nat) : Enters 98 pb := fun w => enters_of func98 (by kernel_rfl) (by kernel_rfl) _ w
section
variable {lo lo' pb b m f a : Nat} {w w' : World} {v : Value} {D : Ty} {ts : List Tok} {α : Type}
theorem TyE.keep (h : TyE lo w v D) (hs : w.heap.size <= w'.heap.size) (hk : ∀ b, lo <= b -> b < w.heap.size -> w'.heap[b]? = w.heap[b]?) : TyE lo w' v D := by
  obtain ⟨m, h⟩ := h
  exact ⟨m, tyF_keep h hs hk⟩
theorem TyE.lower (h : TyE lo w v D) (hl : lo' <= lo) : TyE lo' w v D := by
  obtain ⟨m, h⟩ := h
  exact ⟨m, tyF_lower h hl⟩
theorem TyE.stay (h : TyE lo w v D) (hs : Stay pb w w') (hp : pb < lo) : TyE lo w' v D := h.keep hs.size fun b hb hl => hs.keep b (by omega) hl
theorem TyE.set4 (h : TyE lo w v D) (hb : b < lo) (x0 x1 x2 x3 : Value) : TyE lo ((((w.setCell ⟨b, 0, none⟩ x0).setCell ⟨b, 1, none⟩ x1).setCell ⟨b, 2, none⟩ x2).setCell ⟨b, 3, none⟩ x3) v D :=
  h.keep (by rw [size_set4]; exact Nat.le_refl _) fun i hi _ => other_set4 (by omega) _ _ _ _
theorem TyE.set1 (h : TyE lo w v D) (hb : b < lo) (o : Nat) (x : Value) : TyE lo (w.setCell ⟨b, o, none⟩ x) v D :=
  h.keep (by rw [size_set]; exact Nat.le_refl _) fun i hi _ => Below.heap_setCell _ _ _ _ (by show i ≠ b; omega)
theorem TyE.alloc (h : TyE lo w v D) (o : Obj) : TyE lo (w.alloc o) v D := h.keep (by simp) fun i _ hl => Below.heap_alloc _ _ _ hl
theorem tyE_leaf (lo : Nat) (w : World) (k : Int) (nm : ByteArray) (hk : (Lit.int .i64 k).wf = true) (hn : nm.size <= reachBytes) : TyE lo w (.agg #[.int .i64 k, .string nm, .slice none 0 0, .slice none 0 0]) (mkT k nm.data.toList [] []) :=
  ⟨1, k, nm, none, 0, none, 0, [], [], rfl, rfl, hk, hn, (fun _ h => nomatch h), ⟨Nat.le_refl _, Nat.zero_le _⟩, ⟨Nat.le_refl _, Nat.zero_le _⟩, .inl rfl, .inl rfl⟩
theorem many_len {one : Nat -> Pr α} {sep : List UInt8} : ∀ (f : Nat) {a b : Nat} {l : List α}, manyA ts one sep f a = .inl (l, b) -> l.length <= f
  | 0, _, _, _, h => by cases h
  | f + 1, a, b, l, h => by
    rw [manyA] at h
    cases ho : one a with
    | inr e => rw [ho] at h; cases h
    | inl p =>
      obtain ⟨x, c⟩ := p
      rw [ho] at h
      replace h : (if seesA ts c sep then (manyA ts one sep f (c + 1)).go fun l a => .inl (x :: l, a) else .inl ([x], c)) = .inl (l, b) := h
      by_cases hs : seesA ts c sep = true
      · rw [if_pos hs] at h
        cases hm : manyA ts one sep f (c + 1) with
        | inr e => rw [hm] at h; cases h
        | inl p =>
          obtain ⟨l', d⟩ := p
          rw [hm] at h
          injection h with h
          injection h with h
          rw [<- h]
          have := many_len f hm
          simp
          omega
      · rw [if_neg hs] at h
        injection h with h
        injection h with h
        rw [<- h]
        simp
theorem many_all {one : Nat -> Pr α} {sep : List UInt8} {Q : α -> Prop} (hq : ∀ a x b, one a = .inl (x, b) -> Q x) : ∀ (f : Nat) {a b : Nat} {l : List α}, manyA ts one sep f a = .inl (l, b) -> ∀ x ∈ l, Q x
  | 0, _, _, _, h => by cases h
  | f + 1, a, b, l, h => by
    rw [manyA] at h
    cases ho : one a with
    | inr e => rw [ho] at h; cases h
    | inl p =>
      obtain ⟨x, c⟩ := p
      rw [ho] at h
      replace h : (if seesA ts c sep then (manyA ts one sep f (c + 1)).go fun l a => .inl (x :: l, a) else .inl ([x], c)) = .inl (l, b) := h
      by_cases hs : seesA ts c sep = true
      · rw [if_pos hs] at h
        cases hm : manyA ts one sep f (c + 1) with
        | inr e => rw [hm] at h; cases h
        | inl p =>
          obtain ⟨l', d⟩ := p
          rw [hm] at h
          injection h with h
          injection h with h
          rw [<- h]
          intro y hy
          rcases List.mem_cons.1 hy with rfl | hy
          · exact hq a _ c ho
          · exact many_all hq f hm y hy
      · rw [if_neg hs] at h
        injection h with h
        injection h with h
        rw [<- h]
        intro y hy
        rw [List.mem_singleton.1 hy]
        exact hq a _ c ho
theorem name_text {s : List UInt8} {b : Nat} (h : nameA ts a = .inl (s, b)) : s = (tkA ts a).text := by
  unfold nameA at h
  split at h
  · injection h with h; injection h with h; exact h.symm
  · cases h
theorem field_text (ok : ToksOk ts) {K : Nat -> Pr α} {x : List UInt8 × α} {b : Nat} (h : fieldA ts K a = .inl (x, b)) : x.1.length <= 70000 := by
  unfold fieldA at h
  cases hn : nameA ts a with
  | inr e => rw [hn] at h; cases h
  | inl p =>
    obtain ⟨s, c⟩ := p
    rw [hn] at h
    replace h : (wantA ts c [58]).go (fun _ a => (K a).go fun t a => .inl ((s, t), a)) = .inl (x, b) := h
    cases hw : wantA ts c [58] with
    | inr e => rw [hw] at h; cases h
    | inl p =>
      obtain ⟨u, c2⟩ := p
      rw [hw] at h
      replace h : (K c2).go (fun t a => .inl ((s, t), a)) = .inl (x, b) := h
      cases hk : K c2 with
      | inr e => rw [hk] at h; cases h
      | inl p =>
        rw [hk] at h
        injection h with h
        injection h with h
        rw [<- h]
        show s.length <= _
        rw [name_text hn]
        exact ok.txt a
theorem fields_facts (ok : ToksOk ts) {K : Nat -> Pr α} {l : List (List UInt8 × α)} (h : fieldsA ts K f a = .inl (l, b)) : l.length <= f /\ ∀ p ∈ l, p.1.length <= 70000 := by
  unfold fieldsA at h
  split at h
  · injection h with h
    injection h with h
    rw [<- h]
    exact ⟨Nat.zero_le _, fun _ h => nomatch h⟩
  · cases hm : manyA ts (fieldA ts K) [44] f a with
    | inr e => rw [hm] at h; cases h
    | inl p =>
      obtain ⟨l', c⟩ := p
      rw [hm] at h
      replace h : (wantA ts c [125]).go (fun _ b => .inl (l', b)) = .inl (l, b) := h
      cases hw : wantA ts c [125] with
      | inr e => rw [hw] at h; cases h
      | inl p =>
        rw [hw] at h
        injection h with h
        injection h with h
        rw [<- h]
        exact ⟨many_len f hm, many_all (Q := fun p => p.1.length <= 70000) (fun a x b h => field_text ok h) f hm⟩
/-- A full row of texts. -/
theorem rows_names {B : Nat} {o : Option Nat} {wx : World} {v : Value} {cs : List (List Value)} {xs : List (List UInt8)} (h : RowsC StrC B 9 1 o wx v cs xs) : ∃ (a : Option Addr) (cap : Nat), v = .slice a xs.length cap /\ xs.length <= cap /\ NamesF wx B a xs := by
  obtain ⟨a, cap, e, hcap, hr⟩ := h.form strC_k
  refine ⟨a, cap, e, hcap, ?_⟩
  rcases hr with hr | ⟨g, rfl, hg, hcl, hc⟩
  · exact .inl hr
  · refine .inr ⟨g, 0, rfl, hg, clean_lt hcl, fun i hi => ?_⟩
    obtain ⟨c, _, h2, h3⟩ := hc i hi
    have := h2 0 (by omega)
    rw [h3] at this
    simpa using this
theorem tyE_rec {l : List (List UInt8 × Ty)} {vf : Value} (h : FieldsE lo w vf l) (hl : l.length <= 8193) (hn : ∀ p ∈ l, p.1.length <= 70000) : ∃ a c a' c', vf = .tuple #[.slice a l.length c, .slice a' l.length c'] /\ TyE lo w (.agg #[.int .i64 5, .string ⟨#[]⟩, .slice a l.length c, .slice a' l.length c']) (mkT 5 [] (l.map (·.1)) (l.map (·.2))) := by
  obtain ⟨vn, vv, cn, cv, rfl, h1, h2⟩ := h
  obtain ⟨a, c, rfl, hc, hN⟩ := rows_names h1
  obtain ⟨a', c', m, rfl, hc', hK⟩ := rows_kids h2
  refine ⟨a, c, a', c', by simp, m + 1, 5, ⟨#[]⟩, a, c, a', c', _, _, by simp, rfl, by decide, by decide, ?_, ⟨hc, ?_⟩, ⟨hc', ?_⟩, hN, hK⟩
  · intro s hs
    obtain ⟨p, hp, rfl⟩ := List.mem_map.1 hs
    have := hn p hp
    unfold reachBytes
    omega
  · simp only [List.length_map]; unfold reachBytes; omega
  · simp only [List.length_map]; unfold reachBytes; omega
end
/-- The words of the base types. -/
abbrev baseL : List (List UInt8) := [[97, 110, 121], [110, 117, 108, 108], [98, 111, 111, 108], [105, 110, 116], [115, 116, 114]]
/-- prim, none of the words. -/
def primB (ts : List Tok) (K : Nat -> Pr Ty) (f a : Nat) : Pr Ty :=
  if seesA ts a [123] then (fieldsA ts K f (a + 1)).go fun l b => .inl (mkT 5 [] (l.map (·.1)) (l.map (·.2)), b)
  else if seesA ts a [40] then (K (a + 1)).go fun t a => (wantA ts a [41]).go fun _ a => .inl (t, a)
  else (nameA ts a).go fun s a => .inl (mkT 8 s [] [], a)
theorem sees_two {ts : List Tok} {a : Nat} {s s' : List UInt8} (h : seesA ts a s = true) (hn : s ≠ s') : seesA ts a s' = false := by
  unfold seesA at h ⊢
  simp only [Bool.and_eq_true, beq_iff_eq] at h
  rw [h.2]
  simp [hn]
theorem prim_word (ts : List Tok) (K : Nat -> Pr Ty) (f a : Nat) (i : Nat) (hi : whichV (tkA ts a) baseL = i) : primA ts K f a = .inl (mkT i [] [] [], a + 1) /\ i <= 4 /\ ∃ s, seesA ts a s = true := by
  unfold whichV at hi
  split at hi
  · rename_i hk
    have hk' : ((tkA ts a).kind == 2 || (tkA ts a).kind == 5) = true := by rcases hk with h | h <;> simp [h]
    unfold idxV at hi
    split at hi
    · rename_i j hj
      obtain ⟨hjl, hjt, _⟩ := List.findIdx?_eq_some_iff_getElem.1 hj
      have hij : j = i := by omega
      subst hij
      have htx : (tkA ts a).text = baseL[j] := (beq_iff_eq.1 hjt).symm
      have hsee : seesA ts a baseL[j] = true := by unfold seesA; rw [hk', htx]; simp
      refine ⟨?_, by simp at hjl; omega, _, hsee⟩
      unfold primA
      match j, hjl with
      | 0, _ =>
        have hs : seesA ts a [97, 110, 121] = true := hsee
        rw [if_pos (show seesA ts a (baseV 0) = true from hs)]
        rfl
      | 1, _ =>
        have hs : seesA ts a [110, 117, 108, 108] = true := hsee
        rw [if_neg (by rw [sees_two hs (show ([110, 117, 108, 108] : List UInt8) ≠ baseV 0 by decide)]; simp), if_pos (show seesA ts a (baseV 1) = true from hs)]
        rfl
      | 2, _ =>
        have hs : seesA ts a [98, 111, 111, 108] = true := hsee
        rw [if_neg (by rw [sees_two hs (show ([98, 111, 111, 108] : List UInt8) ≠ baseV 0 by decide)]; simp), if_neg (by rw [sees_two hs (show ([98, 111, 111, 108] : List UInt8) ≠ baseV 1 by decide)]; simp), if_pos (show seesA ts a (baseV 2) = true from hs)]
        rfl
      | 3, _ =>
        have hs : seesA ts a [105, 110, 116] = true := hsee
        rw [if_neg (by rw [sees_two hs (show ([105, 110, 116] : List UInt8) ≠ baseV 0 by decide)]; simp), if_neg (by rw [sees_two hs (show ([105, 110, 116] : List UInt8) ≠ baseV 1 by decide)]; simp), if_neg (by rw [sees_two hs (show ([105, 110, 116] : List UInt8) ≠ baseV 2 by decide)]; simp), if_pos (show seesA ts a (baseV 3) = true from hs)]
        rfl
      | 4, _ =>
        have hs : seesA ts a [115, 116, 114] = true := hsee
        rw [if_neg (by rw [sees_two hs (show ([115, 116, 114] : List UInt8) ≠ baseV 0 by decide)]; simp), if_neg (by rw [sees_two hs (show ([115, 116, 114] : List UInt8) ≠ baseV 1 by decide)]; simp), if_neg (by rw [sees_two hs (show ([115, 116, 114] : List UInt8) ≠ baseV 2 by decide)]; simp), if_neg (by rw [sees_two hs (show ([115, 116, 114] : List UInt8) ≠ baseV 3 by decide)]; simp), if_pos (show seesA ts a (baseV 4) = true from hs)]
        rfl
    · omega
  · omega
/-- It goes on at or behind where it began. -/
def UpP {α : Type} (a : Nat) (r : Pr α) : Prop := ∀ x b, r = .inl (x, b) -> a <= b
section
variable {α β : Type} {ts : List Tok} {a : Nat}
theorem up_go {r : Pr α} {k : α -> Nat -> Pr β} (h : UpP a r) (hk : ∀ x c, a <= c -> UpP a (k x c)) : UpP a (r.go k) := by
  intro y b hy
  match r, h with
  | .inl (x, c), h => exact hk x c (h x c rfl) y b hy
  | .inr e, _ => cases hy
theorem up_bad (e : Int) (c : Nat) : UpP a (badA ts e c : Pr α) := fun _ _ h => by cases h
theorem up_now {c : Nat} (h : a <= c) (x : α) : UpP a (.inl (x, c) : Pr α) := fun _ _ e => by
  injection e with e
  injection e with _ e
  omega
theorem up_ite {p : Prop} [Decidable p] {r s : Pr α} (h1 : UpP a r) (h2 : UpP a s) : UpP a (if p then r else s) := by split <;> assumption
theorem up_want {c : Nat} (h : a <= c) (s : List UInt8) : UpP a (wantA ts c s) := up_ite (up_now (by omega) _) (up_bad _ _)
theorem up_name {c : Nat} (h : a <= c) : UpP a (nameA ts c) := up_ite (up_now (by omega) _) (up_bad _ _)
theorem up_at {K : Nat -> Pr α} (hK : ∀ a x b, K a = .inl (x, b) -> a <= b) {c : Nat} (h : a <= c) : UpP a (K c) := fun x b e => Nat.le_trans h (hK c x b e)
theorem up_many {one : Nat -> Pr α} {sep : List UInt8} (h1 : ∀ a x b, one a = .inl (x, b) -> a <= b) : ∀ (f : Nat) {c : Nat}, a <= c -> UpP a (manyA ts one sep f c)
  | 0, c, _ => up_bad _ _
  | f + 1, c, h => up_go (up_at h1 h) fun x b hb => up_ite (up_go (up_many h1 f (by omega)) fun l b hb => up_now hb _) (up_now hb _)
theorem up_field {K : Nat -> Pr α} (hK : ∀ a x b, K a = .inl (x, b) -> a <= b) {c : Nat} (h : a <= c) : UpP a (fieldA ts K c) :=
  up_go (up_name h) fun _ _ h1 => up_go (up_want h1 _) fun _ _ h2 => up_go (up_at hK h2) fun _ _ h3 => up_now h3 _
theorem up_prim {K : Nat -> Pr Ty} (hK : ∀ a x b, K a = .inl (x, b) -> a <= b) (f : Nat) {c : Nat} (h : a <= c) : UpP a (primA ts K f c) := by
  unfold primA
  refine up_ite (up_now (by omega) _) (up_ite (up_now (by omega) _) (up_ite (up_now (by omega) _) (up_ite (up_now (by omega) _) (up_ite (up_now (by omega) _) (up_ite ?_ (up_ite (up_ite (up_now (by omega) _) ?_) ?_))))))
  · exact up_go (up_at hK (by omega)) fun _ _ h1 => up_go (up_want h1 _) fun _ _ h2 => up_now h2 _
  · exact up_go (up_many (fun a x b e => up_field hK (Nat.le_refl _) x b e) f (by omega)) fun _ _ h1 => up_go (up_want h1 _) fun _ _ h2 => up_now h2 _
  · exact up_go (up_name h) fun _ _ h1 => up_now h1 _
theorem prim_up {K : Nat -> Pr Ty} (hK : ∀ a x b, K a = .inl (x, b) -> a <= b) {f : Nat} {x : Ty} {b : Nat} (h : primA ts K f a = .inl (x, b)) : a <= b := up_prim hK f (Nat.le_refl _) x b h
theorem up_alt {K : Nat -> Pr Ty} (hK : ∀ a x b, K a = .inl (x, b) -> a <= b) (f : Nat) {c : Nat} (h : a <= c) : UpP a (altA ts K f c) := by
  unfold altA
  refine up_go (up_many (fun a x b e => up_prim hK f (Nat.le_refl _) x b e) f h) fun l b hb => ?_
  match l with
  | [] => exact up_now hb _
  | [t] => exact up_now hb _
  | _ :: _ :: _ => exact up_now hb _
theorem kind_up' (ts : List Tok) (f : Nat) : ∀ (n d c : Nat) (x : Ty) (b : Nat), kindA ts f n d c = .inl (x, b) -> c <= b
  | 0, _, _, _, _, h => by cases h
  | n + 1, d, c, x, b, h => by
    rw [kindA] at h
    have hn := kind_up' ts f n (d + 1)
    refine up_ite (a := c) (up_bad (ts := ts) _ _) (up_go (up_alt hn f (Nat.le_refl _)) fun t b hb => up_ite (up_go (up_at hn (by omega)) fun _ _ h2 => up_now h2 _) (up_now hb _)) x b h
theorem kind_up {f n d : Nat} {x : Ty} {b : Nat} (h : kindA ts f n d a = .inl (x, b)) : a <= b := kind_up' ts f n d a x b h
theorem many_some {one : Nat -> Pr α} {sep : List UInt8} {f c b : Nat} {l : List α} (h : manyA ts one sep f c = .inl (l, b)) : l ≠ [] := by
  intro e
  subst e
  cases f with
  | zero => cases h
  | succ f =>
    rw [manyA] at h
    cases ho : one c with
    | inr e => rw [ho] at h; cases h
    | inl p =>
      obtain ⟨x, c2⟩ := p
      rw [ho] at h
      replace h : (if seesA ts c2 sep then (manyA ts one sep f (c2 + 1)).go fun l a => .inl (x :: l, a) else .inl ([x], c2)) = .inl ([], b) := h
      split at h
      · cases hm : manyA ts one sep f (c2 + 1) with
        | inr e => rw [hm] at h; cases h
        | inl p => rw [hm] at h; injection h with h; injection h with h; cases h
      · injection h with h; injection h with h; cases h
end
theorem which_none {ts : List Tok} {a : Nat} {L : List (List UInt8)} (h : whichV (tkA ts a) L < 0) {s : List UInt8} (hs : s ∈ L) : seesA ts a s = false := by
  have h1 := which_any ts a L
  rw [show decide (0 <= whichV (tkA ts a) L) = false by simp; omega] at h1
  have := List.any_eq_false.1 h1.symm s hs
  simpa using this
theorem prim_other (ts : List Tok) (K : Nat -> Pr Ty) (f a : Nat) (h : whichV (tkA ts a) baseL < 0) : primA ts K f a = primB ts K f a := by
  unfold primA primB
  rw [if_neg (by rw [which_none h (s := baseV 0) (by decide)]; simp), if_neg (by rw [which_none h (s := baseV 1) (by decide)]; simp), if_neg (by rw [which_none h (s := baseV 2) (by decide)]; simp), if_neg (by rw [which_none h (s := baseV 3) (by decide)]; simp), if_neg (by rw [which_none h (s := baseV 4) (by decide)]; simp)]
  by_cases h1 : seesA ts a [123] = true
  · rw [if_neg (by rw [sees_two h1 (show ([123] : List UInt8) ≠ [40] by decide)]; simp), if_pos h1, if_pos h1]
    unfold fieldsA
    by_cases h2 : seesA ts (a + 1) [125] = true
    · rw [if_pos h2, if_pos h2]
      rfl
    · rw [if_neg h2, if_neg h2]
      cases manyA ts (fieldA ts K) [44] f (a + 1) with
      | inr e => rfl
      | inl p =>
        obtain ⟨l, b⟩ := p
        show Pr.go (wantA ts b [125]) _ = Pr.go (Pr.go (wantA ts b [125]) _) _
        cases wantA ts b [125] with
        | inr e => rfl
        | inl q => rfl
  · rw [if_neg h1, if_neg h1]
end Go.Proofs.YtlhmofphpfdjlaaGreatDoor
