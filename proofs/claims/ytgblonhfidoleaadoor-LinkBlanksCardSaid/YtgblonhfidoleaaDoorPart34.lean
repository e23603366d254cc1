/- Part. -/
import Derived.Test.YtgblonhfidoleaaDoorPart33
set_option maxRecDepth 100000
set_option maxHeartbeats 4000000
/- A variable of a function. -/
namespace Go.Proofs.YtgblonhfidoleaaDoor
open Go.Proofs.Tryd
open Go.RowKit
attribute [local go_sem ↓] Go.wp_at_zero Go.wp_at_succ
theorem varA_behind (ts : List Tok) (K : Nat -> Pr Ty) (a : Nat) : varA ts K a = (nameA ts a).go fun s b => (behindA ts K [60, 58] b).go fun x b => .inl ((s, x.1), b) := by
  unfold varA behindA
  cases nameA ts a with
  | inr e => rfl
  | inl p =>
    show (if seesA ts p.2 [60, 58] then _ else _) = Pr.go (if seesA ts p.2 [60, 58] then _ else _) _
    by_cases h : seesA ts p.2 [60, 58] = true
    · rw [if_pos h, if_pos h]
      cases K (p.2 + 1) <;> rfl
    · rw [if_neg h, if_neg h]
      rfl
/-- A variable in memory, by its five cells. -/
def VarC (lo : Nat) (w : World) (c : List Value) (x : List UInt8 × Ty) : Prop := ∃ (k : Int) (nm : ByteArray) (na : Option Addr) (nl nc : Nat) (ka : Option Addr) (kl kc : Nat), c = [.string ⟨x.1.toArray⟩, .int .i64 k, .string nm, .slice na nl nc, .slice ka kl kc] /\ TyE lo w (.agg #[.int .i64 k, .string nm, .slice na nl nc, .slice ka kl kc]) x.2
def VarE (lo : Nat) (w : World) (v : Value) (x : List UInt8 × Ty) : Prop := ∃ c : List Value, v = .agg c.toArray /\ VarC lo w c x
theorem varC_k : RepK VarC where
  keep := fun ⟨k, nm, na, nl, nc, ka, kl, kc, e, h⟩ hs hk => ⟨k, nm, na, nl, nc, ka, kl, kc, e, h.keep hs hk⟩
  lower := fun ⟨k, nm, na, nl, nc, ka, kl, kc, e, h⟩ hl => ⟨k, nm, na, nl, nc, ka, kl, kc, e, h.lower hl⟩
abbrev zVar : Obj := .cells #[.string ⟨#[]⟩, .int .i64 0, .string ⟨#[]⟩, .slice none 0 0, .slice none 0 0] 120
abbrev put5 (w : World) (b : Nat) (x0 x1 x2 x3 x4 : Value) : World := ((((w.setCell ⟨b, 0, none⟩ x0).setCell ⟨b, 1, none⟩ x1).setCell ⟨b, 2, none⟩ x2).setCell ⟨b, 3, none⟩ x3).setCell ⟨b, 4, none⟩ x4
section
variable {w w' : World} {b pb lo : Nat} {y0 y1 y2 y3 y4 : Value} {t : TypeId}
theorem put5_heap (h : w.heap[b]? = some (.cells #[y0, y1, y2, y3, y4] t)) (x0 x1 x2 x3 x4 : Value) : (put5 w b x0 x1 x2 x3 x4).heap[b]? = some (.cells #[x0, x1, x2, x3, x4] t) := by
  have h0 := cells_setCell (o := 0) (u := x0) h
  simp only [List.setIfInBounds_toArray, List.set_cons_zero] at h0
  have h1 := cells_setCell (o := 1) (u := x1) h0
  simp only [List.setIfInBounds_toArray, List.set_cons_zero, List.set_cons_succ] at h1
  have h2 := cells_setCell (o := 2) (u := x2) h1
  simp only [List.setIfInBounds_toArray, List.set_cons_zero, List.set_cons_succ] at h2
  have h3 := cells_setCell (o := 3) (u := x3) h2
  simp only [List.setIfInBounds_toArray, List.set_cons_zero, List.set_cons_succ] at h3
  have h4 := cells_setCell (o := 4) (u := x4) h3
  simp only [List.setIfInBounds_toArray, List.set_cons_zero, List.set_cons_succ] at h4
  exact h4
theorem stay_put5 (h : Stay pb w w') (hp : pb < w.heap.size) (hb : w.heap.size <= b) (x0 x1 x2 x3 x4 : Value) : Stay pb w (put5 w' b x0 x1 x2 x3 x4) :=
  ((((h.own hp hb 0 _).own hp hb 1 _).own hp hb 2 _).own hp hb 3 _).own hp hb 4 _
theorem ps_put5 {tb cap a d : Nat} {ts : List Tok} (h : Ps w pb tb cap ts a d) (hb : pb < b) (x0 x1 x2 x3 x4 : Value) : Ps (put5 w b x0 x1 x2 x3 x4) pb tb cap ts a d :=
  ((((h.other hb 0 _).other hb 1 _).other hb 2 _).other hb 3 _).other hb 4 _
theorem tyE_put5 {v : Value} {D : Ty} (h : TyE lo w v D) (hb : b < lo) (x0 x1 x2 x3 x4 : Value) : TyE lo (put5 w b x0 x1 x2 x3 x4) v D :=
  h.keep (by simp only [size_set]; exact Nat.le_refl _) fun i hi _ => by
    unfold put5
    have hne : i ≠ b := by omega
    rw [Below.heap_setCell _ _ _ _ hne, Below.heap_setCell _ _ _ _ hne, Below.heap_setCell _ _ _ _ hne, Below.heap_setCell _ _ _ _ hne, Below.heap_setCell _ _ _ _ hne]
theorem box5 (h : w.heap[b]? = some (.cells #[y0, y1, y2, y3, y4] t)) : (w.cell? ⟨b, 0, none⟩ = some y0 /\ w.cell? ⟨b, 1, none⟩ = some y1 /\ w.cell? ⟨b, 2, none⟩ = some y2 /\ w.cell? ⟨b, 3, none⟩ = some y3 /\ w.cell? ⟨b, 4, none⟩ = some y4) /\
    (w.frozen? ⟨b, 0, none⟩ = false /\ w.frozen? ⟨b, 1, none⟩ = false /\ w.frozen? ⟨b, 2, none⟩ = false /\ w.frozen? ⟨b, 3, none⟩ = false /\ w.frozen? ⟨b, 4, none⟩ = false) /\ b < w.heap.size := by
  refine ⟨⟨?_, ?_, ?_, ?_, ?_⟩, ⟨?_, ?_, ?_, ?_, ?_⟩, lt_of_block h⟩
  all_goals first | (rw [cell_of_row _ _ _ _ _ _ h]; rfl) | simp [World.frozen?, h]
end
theorem variable_c (pb tb cap d : Nat) (ts : List Tok) (K : Nat -> Pr Ty) (hK : Reads pb tb cap d ts TyE 62 K) (ok : ToksOk ts) (a : Nat) (w : World) (h : Ps w pb tb cap ts a d) :
    Calls prog 51 #[.pointer (some ⟨pb, 0, none⟩)] w (PPost pb tb cap ts d w VarE (varA ts K a)) := by
  have H := hideP h
  have OK := hideP ok
  have hp := h.ltp
  have HK1 := hideP hK
  have C0 := hideP (ctx_init h zVar)
  obtain ⟨R, hR⟩ : ∃ R : Pr (List UInt8 × Ty), R = (varA ts K a) := ⟨_, rfl⟩
  rw [<- hR]
  rw [varA_behind] at hR
  have HR1 := hideP hR
  clear h ok hR hK
  go_enter func51, ntmps51
  go_wp2_with fail
  refine (pname_c pb tb cap a d ts _ C0.out.ps OK.out).mono ?_
  intro e w2 hpost
  rcases ppost_or hpost with ⟨er, li, co, hr, rfl, hst⟩ | ⟨s, b2, v, hr, rfl, hst, hps, hv⟩
  · have HE : Hid (R = .inr (er, li, co)) := by rw [HR1.out, hr]; exact rfl
    have HF := hideP (C0.out.st.trans hst)
    clear hr hst hpost
    go_wp2_with fail
    exact ⟨rfl, HF.out, by rw [HE.out]⟩
  have HR2 : Hid (R = (behindA ts K [60, 58] b2).go fun x b => .inl ((s, x.1), b)) := by rw [HR1.out, hr]; exact rfl
  subst hv
  have C2 := hideP ((C0.out.step hst hps))
  clear hr hst hps hpost
  go_wp2_with fail
  refine (behind_c pb tb cap d ts [60, 58] K HK1.out OK.out b2 _ C2.out.ps).mono ?_
  intro e w3 hpost
  rcases ppost_or hpost with ⟨er, li, co, hr, rfl, hst⟩ | ⟨x, b3, v, hr, rfl, hst, hps, hv⟩
  · have HE : Hid (R = .inr (er, li, co)) := by rw [HR2.out, hr]; exact rfl
    have HF := hideP (C2.out.st.trans hst)
    clear hr hst hpost
    go_wp2_with fail
    exact ⟨rfl, HF.out, by rw [HE.out]⟩
  have HR3 : Hid (R = .inl ((s, x.1), b3)) := by rw [HR2.out, hr]; exact rfl
  obtain ⟨u3, rfl, hv⟩ := hv
  obtain ⟨k1, nm1, na1, nl1, nc1, ka1, kl1, kc1, rfl⟩ := hv.cells
  have C3 := hideP ((C2.out.step hst hps).addT hv C2.out.sz)
  clear hr hst hps hpost hv
  have C4 := hideP (C3.out.alloc (tyO k1 nm1 na1 nl1 nc1 ka1 kl1 kc1))
  obtain ⟨⟨r0, r1, r2, r3, r4⟩, ⟨f0, f1, f2, f3, f4⟩, hr1⟩ := box5 C4.out.b1
  obtain ⟨⟨q0, q1, q2, q3⟩, _, hq1⟩ := res_facts C4.out.b0
  have hne : ¬ w3.heap.size = w.heap.size := by have := C3.out.sz; omega
  go_wp2_with fail
  rw [HR3.out]
  refine bodyPost_ret (results_cell_row rfl _ _ w.heap.size 120 _ (0, 0) _ rfl (put5_heap C4.out.b1 _ _ _ _ _) underlying120 rfl (by kernel_rfl)) rfl ⟨stay_put5 C4.out.st hp (Nat.le_refl _) _ _ _ _ _, ps_put5 C4.out.ps hp _ _ _ _ _, _, rfl, [_, _, _, _, _], rfl, k1, nm1, na1, nl1, nc1, ka1, kl1, kc1, rfl, ?_⟩
  exact (tyE_put5 C4.out.t0 (Nat.lt_succ_self _) _ _ _ _ _).lower (Nat.le_succ _)
end Go.Proofs.YtgblonhfidoleaaDoor
/- A list of variables. -/
namespace Go.Proofs.YtgblonhfidoleaaDoor
open Go.Proofs.Tryd
open Go.RowKit
def VarsE (lo : Nat) (w : World) (v : Value) (xs : List (List UInt8 × Ty)) : Prop := ∃ cs, RowsC VarC lo 120 5 none w v cs xs
theorem info_var : (prog.info? 120).map (fun i => (i.zero, i.size, i.bytes)) = some (some (.agg #[.string ⟨#[]⟩, .int .i64 0, .string ⟨#[]⟩, .slice none 0 0, .slice none 0 0]), 5, 88) := by kernel_rfl
theorem listV_c (pb tb cap d : Nat) (ts : List Tok) (sep : List UInt8) (g : Nat) (one : Nat -> Pr (List UInt8 × Ty)) (hg : Reads pb tb cap d ts VarE g one)
    (f a : Nat) (hf : ts.length <= a + (f + 1)) (w : World) (h : Ps w pb tb cap ts a d) (ok : ToksOk ts) :
    Calls prog 50 #[.pointer (some ⟨pb, 0, none⟩), .string ⟨sep.toArray⟩, .func (.func g) #[] #[]] w (PPost pb tb cap ts d w VarsE (manyA ts one sep (f + 1) a)) := by
  have H := hideP h
  have OK := hideP ok
  have HG := hideP hg
  have hen := hg.enters
  clear h ok hg
  have HO := hideP (HG.out.calls a w H.out)
  have HF := hideP hf
  clear hf
  cases ho : one a with
  | inr x =>
    obtain ⟨er, li, co⟩ := x
    rw [many_bad ho]
    rw [ho] at HO
    clear ho
    go_enter func50, ntmps50
    go_wp2_with fail
    refine HO.out.mono ?_
    rintro e w1 ⟨hst, rfl⟩
    have HST := hideP hst
    clear hst
    go_wp2_with fail
    exact ⟨rfl, HST.out, rfl⟩
  | inl x =>
    obtain ⟨D0, a1⟩ := x
    have HM := hideP (many_start (ts := ts) (sep := sep) (f := f) ho)
    have HU := hideP (HG.out.up _ _ _ ho)
    rw [ho] at HO
    clear ho
    obtain ⟨R, hR⟩ : ∃ R, R = manyA ts one sep (f + 1) a := ⟨_, rfl⟩
    rw [<- hR] at HM ⊢
    clear hR
    obtain ⟨i0, hi, hz0, hz1, hz2⟩ := info_parts info_var
    go_enter func50, ntmps50
    go_wp2_with fail
    refine HO.out.mono ?_
    rintro e w1 ⟨hst, hps, v, rfl, hv⟩
    obtain ⟨_, rfl, k1, nm1, na1, nl1, nc1, ka1, kl1, kc1, rfl, hT⟩ := hv
    have hv : VarC _ _ _ _ := ⟨k1, nm1, na1, nl1, nc1, ka1, kl1, kc1, rfl, hT⟩
    have HR1 := hideP (rows_one (B := w.heap.size) (et := 120) (k := 5) (rep := VarC) (c := [.string ⟨D0.1.toArray⟩, .int .i64 k1, .string nm1, .slice na1 nl1 nc1, .slice ka1 kl1 kc1]) hv (Nat.le_refl _) hst.size rfl)
    have HST := hideP (hst.alloc H.out.ltp (.cells #[.string ⟨D0.1.toArray⟩, .int .i64 k1, .string nm1, .slice na1 nl1 nc1, .slice ka1 kl1 kc1] 120))
    have HP := hideP (hps.alloc (.cells #[.string ⟨D0.1.toArray⟩, .int .i64 k1, .string nm1, .slice na1 nl1 nc1, .slice ka1 kl1 kc1] 120))
    clear hst hps hv hT
    have HL0 : Hid (ts.length <= a1 + (f + 1)) := by have := HF.out; have := HU.out; show _ <= _; omega
    go_wp2_with fail
    go_loopg [7] (ts.length - a1) (fun gk s wr => ∃ (b m : Nat) (cs : List (List Value)) (acc : List (List UInt8 × Ty)), Hid (RowsC VarC w.heap.size 120 5 none wr s cs acc) /\ Hid (Stay pb w wr) /\ Hid (Ps wr pb tb cap ts b d) /\ Hid (ManyAt ts one sep R acc m b) /\ Hid (ts.length <= b + (m + 1)) /\ Hid (acc.length <= b + 1) /\ ts.length - b <= gk)
    case atStart => exact ⟨a1, f, _, _, HR1, HST, HP, HM, HL0, (show 1 <= a1 + 1 by omega), Nat.le_refl _⟩
    case round =>
      clear HR1 HST HP HM HL0 HU HO
      obtain ⟨b, m, cs, acc, HRw, HSt, HPs, HMa, HLe, HAc, hgk⟩ := hrel
      have HT := hideP (take_c pb tb cap b d ts sep wr HPs.out OK.out)
      cases hs : seesA ts b sep with
      | false =>
        have HE := hideP (many_end HMa.out hs)
        rw [hs, if_neg (by simp)] at HT
        clear hs
        go_wp2_with fail
        refine HT.out.mono ?_
        rintro e w2 ⟨rfl, hst, hps⟩
        have HST := hideP (HSt.out.trans hst)
        have HPS := hideP hps
        have HRW := hideP (HRw.out.stay hst H.out.ltp)
        clear hst hps
        go_wp2_with fail
        go_ret
        rw [HE.out]
        exact ⟨HST.out, HPS.out, _, rfl, _, HRW.out⟩
      | true =>
        have hbl : b + 1 < ts.length := sees_next OK.out.ends HPs.out.lt hs
        obtain ⟨m, rfl⟩ : ∃ q, m = q + 1 := ⟨m - 1, by have := HLe.out; omega⟩
        have HSe := hideP hs
        rw [hs, if_pos rfl] at HT
        clear hs
        go_wp2_with fail
        refine HT.out.mono ?_
        rintro e w2 ⟨rfl, hst, hps⟩
        have HST := hideP (HSt.out.trans hst)
        have HPS := hideP hps
        have HRW := hideP (HRw.out.stay hst H.out.ltp)
        clear hst hps
        have HO := hideP (HG.out.calls (b + 1) w2 HPS.out)
        cases ho : one (b + 1) with
        | inr x =>
          obtain ⟨er, li, co⟩ := x
          have HE := hideP (many_fail HMa.out HSe.out ho)
          rw [ho] at HO
          clear ho
          go_wp2_with fail
          refine HO.out.mono ?_
          rintro e w3 ⟨hst, rfl⟩
          have HST3 := hideP (HST.out.trans hst)
          clear hst
          go_wp2_with fail
          rw [HE.out]
          exact ⟨rfl, HST3.out, rfl⟩
        | inl x =>
          obtain ⟨D1, b1⟩ := x
          have HM2 := hideP (many_next HMa.out HSe.out ho)
          have HU2 := hideP (HG.out.up _ _ _ ho)
          rw [ho] at HO
          clear ho
          obtain ⟨av, cv, rfl⟩ := row_shape HRW.out.ow
          go_wp2_with fail
          refine HO.out.mono ?_
          rintro e w3 ⟨hst, hps, v, rfl, hv⟩
          obtain ⟨_, rfl, k1, nm1, na1, nl1, nc1, ka1, kl1, kc1, rfl, hT⟩ := hv
          have hv : VarC _ _ _ _ := ⟨k1, nm1, na1, nl1, nc1, ka1, kl1, kc1, rfl, hT⟩
          have HST3 := hideP (HST.out.trans hst)
          have HPS3 := hideP hps
          have HS23 := hideP hst
          have HV := hideP hv
          have HRW3 := hideP (HRW.out.stay hst H.out.ltp)
          clear hst hps hv hT
          have hac : acc.length <= 8193 := by have := HAc.out; have := OK.out.len; omega
          go_wp2_with (at_builtin; refine wpList_append_own_at _ rfl (.tmp 17) (.tmp 21) 46 rfl w.heap.size 120 i0 _ 5 88 underlying46 hi hz0 hz1 hz2 rfl (by decide) _ _ _ rfl (HRW3.out.ow.alloc _) ⟨_, 0, none⟩ 1 1 [.string ⟨D1.1.toArray⟩, .int .i64 k1, .string nm1, .slice na1 nl1 nc1, .slice ka1 kl1 kc1] rfl rfl (cells_newK _ _ _) (by simp [Value.oneCell']) (by unfold maxLen; omega) (by omega) (by have := HST3.out.size; simp; omega) ?_)
          intro v' w4 hown' hgrow _ hloc
          have HR4 : Hid (RowsC VarC w.heap.size 120 5 none w4 v' (cs ++ [[.string ⟨D1.1.toArray⟩, .int .i64 k1, .string nm1, .slice na1 nl1 nc1, .slice ka1 kl1 kc1]]) (acc ++ [D1])) :=
            HRW3.out.put hown' hgrow (hloc.imp_right fun e => ⟨_, e, by simp⟩) ((Stay.refl pb w3).alloc HPS3.out.ltp _) H.out.ltp rfl ((Made.new (rep := VarC) HV.out HST.out.size fun q hq => HRW.out.all q hq).stay ((Stay.refl pb w3).alloc HPS3.out.ltp _) H.out.ltp)
          have HST4 : Hid (Stay pb w w4) := (HST3.out.alloc H.out.ltp _).grown hgrow H.out.ltp fun q hq => (HRW3.out.own q hq).1
          have HPS4 : Hid (Ps w4 pb tb cap ts b1 d) := (HPS3.out.alloc _).grown hgrow fun q hq => Nat.lt_of_lt_of_le H.out.ltp (HRW3.out.own q hq).1
          clear hown' hgrow hloc
          go_wp2_with fail
          go_roundg (ts.length - b1)
          case measure => have := HU2.out; have := HPS4.out.lt; omega
          case rel => exact ⟨b1, m, _, _, HR4, HST4, HPS4, HM2, (by have := HLe.out; have := HU2.out; show _ <= _; omega), (by have := HAc.out; have := HU2.out; show (acc ++ [D1]).length <= _; simp; omega), Nat.le_refl _⟩
end Go.Proofs.YtgblonhfidoleaaDoor
