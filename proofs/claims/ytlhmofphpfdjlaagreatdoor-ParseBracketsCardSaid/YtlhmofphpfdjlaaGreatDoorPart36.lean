/- Part. -/
import Derived.Test.YtlhmofphpfdjlaaGreatDoorPart35
set_option maxRecDepth 100000
set_option maxHeartbeats 4000000
/- A list of variables. -/
namespace Go.Proofs.YtlhmofphpfdjlaaGreatDoor
open Go.Proofs.Tryz
open Go.RowKit
def VarsE (lo : Nat) (w : World) (v : Value) (xs : List (List UInt8 × Ty)) : Prop := ∃ cs, RowsC VarC lo 76 5 none w v cs xs
theorem info_var : (prog.info? 76).map (fun i => (i.zero, i.size, i.bytes)) = some (some (.agg #[.string ⟨#[]⟩, .int .i64 0, .string ⟨#[]⟩, .slice none 0 0, .slice none 0 0]), 5, 88) := by kernel_rfl
theorem listV_c (pb tb cap d : Nat) (ts : List Tok) (sep : List UInt8) (g : Nat) (one : Nat -> Pr (List UInt8 × Ty)) (hg : Reads pb tb cap d ts VarE g one)
    (f a : Nat) (hf : ts.length <= a + (f + 1)) (w : World) (h : Ps w pb tb cap ts a d) (ok : ToksOk ts) :
    Calls prog 64 #[.pointer (some ⟨pb, 0, none⟩), .string ⟨sep.toArray⟩, .func (.func g) #[] #[]] w (PPost pb tb cap ts d w VarsE (manyA ts one sep (f + 1) a)) := by
  have H := hideP h
  have OK := hideP ok
  have HG := hideP hg
  have hen := hg.enters
  clear h ok hg
  have HO := hideP (HG.out.calls a w H.out)
  have HF := hideP hf
  clear hf
  cases ho : one a with
  | inr x =>
    obtain ⟨er, li, co⟩ := x
    rw [many_bad ho]
    rw [ho] at HO
    clear ho
    go_enter func64, ntmps64
    go_wp2_with fail
    refine HO.out.mono ?_
    rintro e w1 ⟨hst, rfl⟩
    have HST := hideP hst
    clear hst
    go_wp2_with fail
    exact ⟨rfl, HST.out, rfl⟩
  | inl x =>
    obtain ⟨D0, a1⟩ := x
    have HM := hideP (many_start (ts := ts) (sep := sep) (f := f) ho)
    have HU := hideP (HG.out.up _ _ _ ho)
    rw [ho] at HO
    clear ho
    obtain ⟨R, hR⟩ : ∃ R, R = manyA ts one sep (f + 1) a := ⟨_, rfl⟩
    rw [<- hR] at HM ⊢
    clear hR
    obtain ⟨i0, hi, hz0, hz1, hz2⟩ := info_parts info_var
    go_enter func64, ntmps64
    go_wp2_with fail
    refine HO.out.mono ?_
    rintro e w1 ⟨hst, hps, v, rfl, hv⟩
    obtain ⟨_, rfl, k1, nm1, na1, nl1, nc1, ka1, kl1, kc1, rfl, hT⟩ := hv
    have hv : VarC _ _ _ _ := ⟨k1, nm1, na1, nl1, nc1, ka1, kl1, kc1, rfl, hT⟩
    have HR1 := hideP (rows_one (B := w.heap.size) (et := 76) (k := 5) (rep := VarC) (c := [.string ⟨D0.1.toArray⟩, .int .i64 k1, .string nm1, .slice na1 nl1 nc1, .slice ka1 kl1 kc1]) hv (Nat.le_refl _) hst.size rfl)
    have HST := hideP (hst.alloc H.out.ltp (.cells #[.string ⟨D0.1.toArray⟩, .int .i64 k1, .string nm1, .slice na1 nl1 nc1, .slice ka1 kl1 kc1] 76))
    have HP := hideP (hps.alloc (.cells #[.string ⟨D0.1.toArray⟩, .int .i64 k1, .string nm1, .slice na1 nl1 nc1, .slice ka1 kl1 kc1] 76))
    clear hst hps hv hT
    have HL0 : Hid (ts.length <= a1 + (f + 1)) := by have := HF.out; have := HU.out; show _ <= _; omega
    go_wp2_with fail
    go_loopg [7] (ts.length - a1) (fun gk s wr => ∃ (b m : Nat) (cs : List (List Value)) (acc : List (List UInt8 × Ty)), Hid (RowsC VarC w.heap.size 76 5 none wr s cs acc) /\ Hid (Stay pb w wr) /\ Hid (Ps wr pb tb cap ts b d) /\ Hid (ManyAt ts one sep R acc m b) /\ Hid (ts.length <= b + (m + 1)) /\ Hid (acc.length <= b + 1) /\ ts.length - b <= gk)
    case atStart => exact ⟨a1, f, _, _, HR1, HST, HP, HM, HL0, (show 1 <= a1 + 1 by omega), Nat.le_refl _⟩
    case round =>
      clear HR1 HST HP HM HL0 HU HO
      obtain ⟨b, m, cs, acc, HRw, HSt, HPs, HMa, HLe, HAc, hgk⟩ := hrel
      have HT := hideP (take_c pb tb cap b d ts sep wr HPs.out OK.out)
      cases hs : seesA ts b sep with
      | false =>
        have HE := hideP (many_end HMa.out hs)
        rw [hs, if_neg (by simp)] at HT
        clear hs
        go_wp2_with fail
        refine HT.out.mono ?_
        rintro e w2 ⟨rfl, hst, hps⟩
        have HST := hideP (HSt.out.trans hst)
        have HPS := hideP hps
        have HRW := hideP (HRw.out.stay hst H.out.ltp)
        clear hst hps
        go_wp2_with fail
        go_ret
        rw [HE.out]
        exact ⟨HST.out, HPS.out, _, rfl, _, HRW.out⟩
      | true =>
        have hbl : b + 1 < ts.length := sees_next OK.out.ends HPs.out.lt hs
        obtain ⟨m, rfl⟩ : ∃ q, m = q + 1 := ⟨m - 1, by have := HLe.out; omega⟩
        have HSe := hideP hs
        rw [hs, if_pos rfl] at HT
        clear hs
        go_wp2_with fail
        refine HT.out.mono ?_
        rintro e w2 ⟨rfl, hst, hps⟩
        have HST := hideP (HSt.out.trans hst)
        have HPS := hideP hps
        have HRW := hideP (HRw.out.stay hst H.out.ltp)
        clear hst hps
        have HO := hideP (HG.out.calls (b + 1) w2 HPS.out)
        cases ho : one (b + 1) with
        | inr x =>
          obtain ⟨er, li, co⟩ := x
          have HE := hideP (many_fail HMa.out HSe.out ho)
          rw [ho] at HO
          clear ho
          go_wp2_with fail
          refine HO.out.mono ?_
          rintro e w3 ⟨hst, rfl⟩
          have HST3 := hideP (HST.out.trans hst)
          clear hst
          go_wp2_with fail
          rw [HE.out]
          exact ⟨rfl, HST3.out, rfl⟩
        | inl x =>
          obtain ⟨D1, b1⟩ := x
          have HM2 := hideP (many_next HMa.out HSe.out ho)
          have HU2 := hideP (HG.out.up _ _ _ ho)
          rw [ho] at HO
          clear ho
          obtain ⟨av, cv, rfl⟩ := row_shape HRW.out.ow
          go_wp2_with fail
          refine HO.out.mono ?_
          rintro e w3 ⟨hst, hps, v, rfl, hv⟩
          obtain ⟨_, rfl, k1, nm1, na1, nl1, nc1, ka1, kl1, kc1, rfl, hT⟩ := hv
          have hv : VarC _ _ _ _ := ⟨k1, nm1, na1, nl1, nc1, ka1, kl1, kc1, rfl, hT⟩
          have HST3 := hideP (HST.out.trans hst)
          have HPS3 := hideP hps
          have HS23 := hideP hst
          have HV := hideP hv
          have HRW3 := hideP (HRW.out.stay hst H.out.ltp)
          clear hst hps hv hT
          have hac : acc.length <= 8193 := by have := HAc.out; have := OK.out.len; omega
          go_wp2_with (at_builtin; refine wpList_append_own_at _ rfl (.tmp 17) (.tmp 21) 38 rfl w.heap.size 76 i0 _ 5 88 underlying38 hi hz0 hz1 hz2 rfl (by decide) _ _ _ rfl (HRW3.out.ow.alloc _) ⟨_, 0, none⟩ 1 1 [.string ⟨D1.1.toArray⟩, .int .i64 k1, .string nm1, .slice na1 nl1 nc1, .slice ka1 kl1 kc1] rfl rfl (cells_newK _ _ _) (by simp [Value.oneCell']) (by unfold maxLen; omega) (by omega) (by have := HST3.out.size; simp; omega) ?_)
          intro v' w4 hown' hgrow _ hloc
          have HR4 : Hid (RowsC VarC w.heap.size 76 5 none w4 v' (cs ++ [[.string ⟨D1.1.toArray⟩, .int .i64 k1, .string nm1, .slice na1 nl1 nc1, .slice ka1 kl1 kc1]]) (acc ++ [D1])) :=
            HRW3.out.put hown' hgrow (hloc.imp_right fun e => ⟨_, e, by simp⟩) ((Stay.refl pb w3).alloc HPS3.out.ltp _) H.out.ltp rfl ((Made.new (rep := VarC) HV.out HST.out.size fun q hq => HRW.out.all q hq).stay ((Stay.refl pb w3).alloc HPS3.out.ltp _) H.out.ltp)
          have HST4 : Hid (Stay pb w w4) := (HST3.out.alloc H.out.ltp _).grown hgrow H.out.ltp fun q hq => (HRW3.out.own q hq).1
          have HPS4 : Hid (Ps w4 pb tb cap ts b1 d) := (HPS3.out.alloc _).grown hgrow fun q hq => Nat.lt_of_lt_of_le H.out.ltp (HRW3.out.own q hq).1
          clear hown' hgrow hloc
          go_wp2_with fail
          go_roundg (ts.length - b1)
          case measure => have := HU2.out; have := HPS4.out.lt; omega
          case rel => exact ⟨b1, m, _, _, HR4, HST4, HPS4, HM2, (by have := HLe.out; have := HU2.out; show _ <= _; omega), (by have := HAc.out; have := HU2.out; show (acc ++ [D1]).length <= _; simp; omega), Nat.le_refl _⟩
end Go.Proofs.YtlhmofphpfdjlaaGreatDoor
/- What is imported. -/
namespace Go.Proofs.YtlhmofphpfdjlaaGreatDoor
open Go.Proofs.Tryz
open Go.RowKit
attribute [local go_sem ↓] Go.wp_at_zero Go.wp_at_succ
abbrev impO (s : List UInt8) (na : Option Addr) (nl nc li co : Nat) : Obj := .cells #[.string ⟨s.toArray⟩, .slice na nl nc, .int .i64 li, .int .i64 co] 55
abbrev zImp : Obj := .cells #[.string ⟨#[]⟩, .slice none 0 0, .int .i64 0, .int .i64 0] 55
/-- One import. -/
def importA (ts : List Tok) (a : Nat) : Pr Ty := (wantA ts a [105, 109, 112, 111, 114, 116]).go fun _ b => (nameA ts b).go fun s b => (wantA ts b [58]).go fun _ b => (manyA ts (nameA ts) [44] ts.length b).go fun l b => (wantA ts b [59]).go fun _ b => .inl (mkI s l (lineA ts a) (colA ts a), b)
def ImpC (lo : Nat) (w : World) (c : List Value) (D : Ty) : Prop := ∃ (s : List UInt8) (l : List (List UInt8)) (na : Option Addr) (nc li co : Nat), c = [.string ⟨s.toArray⟩, .slice na l.length nc, .int .i64 li, .int .i64 co] /\ D = mkI s l li co /\ l.length <= 8193 /\ NamesF w lo na l
def ImpE (lo : Nat) (w : World) (v : Value) (D : Ty) : Prop := ∃ c : List Value, v = .agg c.toArray /\ ImpC lo w c D
theorem imported_c (pb tb cap d : Nat) (ts : List Tok) (ok : ToksOk ts) (a : Nat) (w : World) (h : Ps w pb tb cap ts a d) :
    Calls prog 35 #[.pointer (some ⟨pb, 0, none⟩)] w (PPost pb tb cap ts d w ImpE (importA ts a)) := by
  have H := hideP h
  have OK := hideP ok
  have hp := h.ltp
  have C0 := hideP (ctx_init h zImp)
  obtain ⟨R, hR⟩ : ∃ R : Pr Ty, R = (importA ts a) := ⟨_, rfl⟩
  rw [<- hR]
  unfold importA at hR
  have HR0 := hideP hR
  clear h ok hR
  go_enter func35, ntmps35
  go_wp2_with fail
  refine (must_c pb tb cap a d ts [105, 109, 112, 111, 114, 116] _ C0.out.ps OK.out).mono ?_
  intro e w1 hpost
  rcases ppost_or hpost with ⟨er, li, co, hr, rfl, hst⟩ | ⟨u, b1, v, hr, rfl, hst, hps, hv⟩
  · have HE : Hid (R = .inr (er, li, co)) := by rw [HR0.out, hr]; exact rfl
    have HF := hideP (C0.out.st.trans hst)
    clear hr hst hpost
    go_wp2_with fail
    exact ⟨rfl, HF.out, by rw [HE.out]⟩
  obtain ⟨t, ht⟩ : ∃ t, t = tkA ts a := ⟨_, rfl⟩
  have HR1 : Hid (R = (nameA ts b1).go fun s b => (wantA ts b [58]).go fun _ b => (manyA ts (nameA ts) [44] ts.length b).go fun l b => (wantA ts b [59]).go fun _ b => .inl (mkI s l t.line t.col, b)) := by rw [HR0.out, hr, ht]; exact rfl
  rw [<- ht] at hv
  subst hv
  have C1 := hideP ((C0.out.step hst hps))
  have C2 := hideP (C1.out.alloc (TOKO t))
  clear hr hst hps hpost ht
  go_wp2_with fail
  have hS0 : (((w1.alloc (TOKO t)).drew).cell? ⟨w1.heap.size, 0, none⟩ = some (.int .i64 t.kind) /\ ((w1.alloc (TOKO t)).drew).cell? ⟨w1.heap.size, 1, none⟩ = some (.string ⟨t.text.toArray⟩) /\ ((w1.alloc (TOKO t)).drew).cell? ⟨w1.heap.size, 2, none⟩ = some (.int .i64 t.line) /\ ((w1.alloc (TOKO t)).drew).cell? ⟨w1.heap.size, 3, none⟩ = some (.int .i64 t.col)) := (tokB (C2.out.drew.b0))
  have HS00 : Hid (∀ o, ((((w1.alloc (TOKO t)).alloc o).drew).cell? ⟨w1.heap.size, 0, none⟩ = some (.int .i64 t.kind) /\ (((w1.alloc (TOKO t)).alloc o).drew).cell? ⟨w1.heap.size, 1, none⟩ = some (.string ⟨t.text.toArray⟩) /\ (((w1.alloc (TOKO t)).alloc o).drew).cell? ⟨w1.heap.size, 2, none⟩ = some (.int .i64 t.line) /\ (((w1.alloc (TOKO t)).alloc o).drew).cell? ⟨w1.heap.size, 3, none⟩ = some (.int .i64 t.col))) := (fun o => tokB ((C2.out.alloc o).drew.has (w1.heap.size, TOKO t) (by simp)).1)
  have HC : Hid (∀ wa bx, Ctx pb tb cap d ts w wa b1 bx [] [] -> (w1.heap.size, TOKO t) ∈ bx -> Calls prog 62 #[.pointer (some ⟨pb, 0, none⟩)] wa fun e w9 => (∃ chain, e = .panicked chain /\ PPost pb tb cap ts d w ImpE R e w9) ∨ ∃ (s : List UInt8) (b2 : Nat), e = .returned (.string ⟨s.toArray⟩) /\ (w9.cell? ⟨w1.heap.size, 0, none⟩ = some (.int .i64 t.kind) /\ w9.cell? ⟨w1.heap.size, 1, none⟩ = some (.string ⟨t.text.toArray⟩) /\ w9.cell? ⟨w1.heap.size, 2, none⟩ = some (.int .i64 t.line) /\ w9.cell? ⟨w1.heap.size, 3, none⟩ = some (.int .i64 t.col)) /\ Hid (R = ((wantA ts b2 [58]).go fun _ b => (manyA ts (nameA ts) [44] ts.length b).go fun l b => (wantA ts b [59]).go fun _ b => .inl (mkI s l t.line t.col, b)) /\ Ctx pb tb cap d ts w w9 b2 bx [] [])) := by
    intro wa bx CA m0
    refine (pname_c pb tb cap b1 d ts _ CA.ps OK.out).mono ?_
    intro e w9 hpost
    rcases ppost_or hpost with ⟨er, li, co, hr, rfl, hst⟩ | ⟨s, b2, v, hr, rfl, hst, hps, hv⟩
    · exact .inl ⟨_, rfl, CA.st.trans hst, by rw [HR1.out, hr]; rfl⟩
    subst hv
    have CN := (CA.step hst hps)
    exact .inr ⟨s, b2, rfl, tokB ((CN).has (w1.heap.size, TOKO t) m0).1, by rw [HR1.out, hr]; rfl, CN⟩
  go_region_held (fun W => (W.cell? ⟨w1.heap.size, 0, none⟩ = some (.int .i64 t.kind) /\ W.cell? ⟨w1.heap.size, 1, none⟩ = some (.string ⟨t.text.toArray⟩) /\ W.cell? ⟨w1.heap.size, 2, none⟩ = some (.int .i64 t.line) /\ W.cell? ⟨w1.heap.size, 3, none⟩ = some (.int .i64 t.col))) (first | with_reducible assumption | with_reducible exact HS00.out _ | with_reducible exact HS3.out _ | with_reducible exact HS4.out _ _ _ _ | with_reducible exact HS5.out _ _ _ _) (first
    | (go_at_call 62; refine (HC.out _ _ C2.out.drew (by simp)).mono ?_; rintro e w9 (⟨ch, rfl, hf⟩ | ⟨s, b2, rfl, t5, HX⟩); exact ⟨rfl, hf⟩; have HS3 : Hid (∀ o, (((w9.alloc o)).cell? ⟨w1.heap.size, 0, none⟩ = some (.int .i64 t.kind) /\ ((w9.alloc o)).cell? ⟨w1.heap.size, 1, none⟩ = some (.string ⟨t.text.toArray⟩) /\ ((w9.alloc o)).cell? ⟨w1.heap.size, 2, none⟩ = some (.int .i64 t.line) /\ ((w9.alloc o)).cell? ⟨w1.heap.size, 3, none⟩ = some (.int .i64 t.col))) := (fun o => tokB ((HX.out.2.alloc o).has (w1.heap.size, TOKO t) (by simp)).1); have HBX := hideP (res_facts (HX.out.2.alloc zImp).b0); obtain ⟨⟨i0, i1, i2, i3⟩, ⟨j0, j1, j2, j3⟩, hil⟩ := HBX.out; have HNE : Hid (w1.heap.size ≠ w9.heap.size) := (by have := lt_of_block HX.out.2.b0; show _ ≠ _; omega); have HS5 : Hid (∀ v0 v1 v2 v3, (((((((w9.alloc zImp).setCell ⟨w9.heap.size, 0, none⟩ v0).setCell ⟨w9.heap.size, 1, none⟩ v1).setCell ⟨w9.heap.size, 2, none⟩ v2).setCell ⟨w9.heap.size, 3, none⟩ v3)).cell? ⟨w1.heap.size, 0, none⟩ = some (.int .i64 t.kind) /\ ((((((w9.alloc zImp).setCell ⟨w9.heap.size, 0, none⟩ v0).setCell ⟨w9.heap.size, 1, none⟩ v1).setCell ⟨w9.heap.size, 2, none⟩ v2).setCell ⟨w9.heap.size, 3, none⟩ v3)).cell? ⟨w1.heap.size, 1, none⟩ = some (.string ⟨t.text.toArray⟩) /\ ((((((w9.alloc zImp).setCell ⟨w9.heap.size, 0, none⟩ v0).setCell ⟨w9.heap.size, 1, none⟩ v1).setCell ⟨w9.heap.size, 2, none⟩ v2).setCell ⟨w9.heap.size, 3, none⟩ v3)).cell? ⟨w1.heap.size, 2, none⟩ = some (.int .i64 t.line) /\ ((((((w9.alloc zImp).setCell ⟨w9.heap.size, 0, none⟩ v0).setCell ⟨w9.heap.size, 1, none⟩ v1).setCell ⟨w9.heap.size, 2, none⟩ v2).setCell ⟨w9.heap.size, 3, none⟩ v3)).cell? ⟨w1.heap.size, 3, none⟩ = some (.int .i64 t.col))) := (fun v0 v1 v2 v3 => tokB ((other_set4 HNE.out v0 v1 v2 v3).trans ((HX.out.2.alloc zImp).has (w1.heap.size, TOKO t) (by simp)).1)))
    | (go_at_call 62; refine (HC.out _ _ (C2.out.alloc zImp).drew (by simp)).mono ?_; rintro e w9 (⟨ch, rfl, hf⟩ | ⟨s, b2, rfl, t5, HX⟩); exact ⟨rfl, hf⟩; have HBX := hideP (res_facts (show w9.heap[w1.heap.size + 1]? = some zImp from (by have h := HX.out.2.b0; simp only [World.size_alloc] at h; exact h))); obtain ⟨⟨i0, i1, i2, i3⟩, ⟨j0, j1, j2, j3⟩, hil⟩ := HBX.out; have HS4 : Hid (∀ v0 v1 v2 v3, ((((((w9.setCell ⟨w1.heap.size + 1, 0, none⟩ v0).setCell ⟨w1.heap.size + 1, 1, none⟩ v1).setCell ⟨w1.heap.size + 1, 2, none⟩ v2).setCell ⟨w1.heap.size + 1, 3, none⟩ v3)).cell? ⟨w1.heap.size, 0, none⟩ = some (.int .i64 t.kind) /\ (((((w9.setCell ⟨w1.heap.size + 1, 0, none⟩ v0).setCell ⟨w1.heap.size + 1, 1, none⟩ v1).setCell ⟨w1.heap.size + 1, 2, none⟩ v2).setCell ⟨w1.heap.size + 1, 3, none⟩ v3)).cell? ⟨w1.heap.size, 1, none⟩ = some (.string ⟨t.text.toArray⟩) /\ (((((w9.setCell ⟨w1.heap.size + 1, 0, none⟩ v0).setCell ⟨w1.heap.size + 1, 1, none⟩ v1).setCell ⟨w1.heap.size + 1, 2, none⟩ v2).setCell ⟨w1.heap.size + 1, 3, none⟩ v3)).cell? ⟨w1.heap.size, 2, none⟩ = some (.int .i64 t.line) /\ (((((w9.setCell ⟨w1.heap.size + 1, 0, none⟩ v0).setCell ⟨w1.heap.size + 1, 1, none⟩ v1).setCell ⟨w1.heap.size + 1, 2, none⟩ v2).setCell ⟨w1.heap.size + 1, 3, none⟩ v3)).cell? ⟨w1.heap.size, 3, none⟩ = some (.int .i64 t.col))) := (fun v0 v1 v2 v3 => tokB ((other_set4 (by omega) v0 v1 v2 v3).trans (HX.out.2.has (w1.heap.size, TOKO t) (by simp)).1))))
  · have C3 := hideP (HX.out.2.alloc (impO s none 0 0 t.line t.col))
    have HIb : Hid (w.heap.size + 1 <= w9.heap.size) := HX.out.2.sz
    have HR2 := hideP HX.out.1
    clear HX HS3 HS5 HBX i0 i1 i2 i3 j0 j1 j2 j3 hil HNE t5 HC HS00 hS0 C0 C1 C2 HR0 HR1
    generalize w9.alloc (impO s none 0 0 t.line t.col) = W3 at C3 ⊢
    generalize w9.heap.size = ib at C3 HIb ⊢
    go_wp2_with fail
    refine (must_c pb tb cap b2 d ts [58] _ C3.out.ps OK.out).mono ?_
    intro e w4 hpost
    rcases ppost_or hpost with ⟨er, li, co, hr, rfl, hst⟩ | ⟨u4, b4, v4, hr, rfl, hst, hps, hv⟩
    · have HE : Hid (R = .inr (er, li, co)) := by rw [HR2.out, hr]; exact rfl
      have HF := hideP (C3.out.st.trans hst)
      clear hr hst hpost
      go_wp2_with fail
      exact ⟨rfl, HF.out, by rw [HE.out]⟩
    obtain ⟨f, hf⟩ : ∃ f, ts.length = f + 1 := ⟨ts.length - 1, by have := OK.out.pos; omega⟩
    have HR3 : Hid (R = (manyA ts (nameA ts) [44] (f + 1) b4).go fun l b => (wantA ts b [59]).go fun _ b => .inl (mkI s l t.line t.col, b)) := by rw [HR2.out, hr, hf]; exact rfl
    have C4 := hideP (C3.out.step hst hps)
    clear hr hst hps hpost hv
    go_wp2_with fail
    refine (listS_c pb tb cap d ts [44] _ ⟨fun _ _ _ => by kernel_rfl⟩ f b4 (by omega) _ C4.out.ps OK.out).mono ?_
    intro e w5 hpost
    rcases ppost_or hpost with ⟨er, li, co, hr, rfl, hst⟩ | ⟨l, b5, v, hr, rfl, hst, hps, hv⟩
    · have HE : Hid (R = .inr (er, li, co)) := by rw [HR3.out, hr]; exact rfl
      have HF := hideP (C4.out.st.trans hst)
      clear hr hst hpost
      go_wp2_with fail
      exact ⟨rfl, HF.out, by rw [HE.out]⟩
    have HR4 : Hid (R = (wantA ts b5 [59]).go fun _ b => .inl (mkI s l t.line t.col, b)) := by rw [HR3.out, hr]; exact rfl
    have HLen : Hid (l.length <= 8193) := by have := many_len _ hr; have := OK.out.len; show _ <= _; omega
    obtain ⟨cs, hv⟩ := hv
    obtain ⟨na, nc, rfl, hnc, hnm⟩ := rows_names hv
    have HN5 := hideP hnm
    have HL4 : Hid (ib < w4.heap.size) := lt_of_block C4.out.b0
    have C5 := hideP (C4.out.step hst hps)
    clear hr hst hps hpost hv hnm
    obtain ⟨⟨i0, i1, i2, i3⟩, ⟨j0, j1, j2, j3⟩, hil⟩ := res_facts C5.out.b0
    go_wp2_with fail
    have C6 : Hid (Ctx pb tb cap d ts w (w5.setCell ⟨ib, 1, none⟩ (.slice na l.length nc)) b5 [(ib, impO s na l.length nc t.line t.col), (w.heap.size, zImp)] [] []) := by
      have := HIb.out
      refine ⟨C5.out.st.own hp (by omega) 1 _, C5.out.ps.other (by omega) 1 _, hp, by rw [size_set]; exact C5.out.sz, fun p hm => ?_, (fun _ h => nomatch h), (fun _ h => nomatch h)⟩
      rcases List.mem_cons.1 hm with rfl | hm
      · have h1 := cells_setCell (o := 1) (u := .slice na l.length nc) C5.out.b0
        simp only [List.setIfInBounds_toArray, List.set_cons_zero, List.set_cons_succ] at h1
        exact ⟨h1, by show pb < ib; omega⟩
      · rw [List.mem_singleton.1 hm]
        exact ⟨(Below.heap_setCell _ _ _ _ (by show w.heap.size ≠ ib; omega)).trans C5.out.b2, hp⟩
    have HN6 : Hid (NamesF (w5.setCell ⟨ib, 1, none⟩ (.slice na l.length nc)) w4.heap.size na l) := namesF_keep HN5.out (by rw [size_set]; exact Nat.le_refl _) fun i hi _ => Below.heap_setCell _ _ _ _ (by show i ≠ ib; have := HL4.out; omega)
    clear C5 HN5 i0 i1 i2 i3 j0 j1 j2 j3 hil
    generalize w5.setCell ⟨ib, 1, none⟩ (.slice na l.length nc) = W6 at C6 HN6 ⊢
    refine (must_c pb tb cap b5 d ts [59] _ C6.out.ps OK.out).mono ?_
    intro e w7 hpost
    rcases ppost_or hpost with ⟨er, li, co, hr, rfl, hst⟩ | ⟨u7, b7, v7, hr, rfl, hst, hps, hv⟩
    · have HE : Hid (R = .inr (er, li, co)) := by rw [HR4.out, hr]; exact rfl
      have HF := hideP (C6.out.st.trans hst)
      clear hr hst hpost
      go_wp2_with fail
      exact ⟨rfl, HF.out, by rw [HE.out]⟩
    have HR5 : Hid (R = .inl (mkI s l t.line t.col, b7)) := by rw [HR4.out, hr]; exact rfl
    have C7 := hideP (C6.out.step hst hps)
    have HN7 : Hid (NamesF w7 w4.heap.size na l) := namesF_keep HN6.out hst.size fun i hi hl => hst.keep i (by have := HL4.out; have := HIb.out; omega) hl
    clear hr hst hps hpost hv
    obtain ⟨⟨i0, i1, i2, i3⟩, _, hil⟩ := res_facts C7.out.b0
    obtain ⟨⟨r0, r1, r2, r3⟩, ⟨f0, f1, f2, f3⟩, hr1⟩ := res_facts C7.out.b1
    have hne : ¬ ib = w.heap.size := by have := HIb.out; omega
    go_wp2_with fail
    rw [HR5.out]
    refine bodyPost_ret (results_cell_row rfl _ _ w.heap.size 55 _ (0, 0) _ rfl (set4 C7.out.b1 _ _ _ _) underlying55 rfl (by kernel_rfl)) rfl ⟨stay_set4 C7.out.st hp (Nat.le_refl _) _ _ _ _, ps_set4 C7.out.ps hp _ _ _ _, _, rfl, [_, _, _, _], rfl, s, l, na, nc, t.line, t.col, rfl, rfl, HLen.out, ?_⟩
    refine namesF_lower (lo := w4.heap.size) (namesF_keep HN7.out (by rw [size_set4]; exact Nat.le_refl _) fun i hi _ => other_set4 (by have := HL4.out; have := HIb.out; omega) _ _ _ _) (by have := HL4.out; have := HIb.out; omega)
  · have C3 : Hid (Ctx pb tb cap d ts w ((((w9.setCell ⟨w1.heap.size + 1, 0, none⟩ (.string ⟨s.toArray⟩)).setCell ⟨w1.heap.size + 1, 1, none⟩ (.slice none 0 0)).setCell ⟨w1.heap.size + 1, 2, none⟩ (.int .i64 t.line)).setCell ⟨w1.heap.size + 1, 3, none⟩ (.int .i64 t.col)) b2 [(w1.heap.size + 1, impO s none 0 0 t.line t.col), (w1.heap.size, TOKO t), (w.heap.size, zImp)] [] []) := by
      have hx := HX.out.2
      simp only [World.size_alloc] at hx
      have := C1.out.sz
      refine ⟨stay_set4 hx.st hp (by omega) _ _ _ _, ps_set4 hx.ps (by omega) _ _ _ _, hp, by rw [size_set4]; exact hx.sz, fun p hm => ?_, (fun _ h => nomatch h), (fun _ h => nomatch h)⟩
      rcases List.mem_cons.1 hm with rfl | hm
      · exact ⟨set4 hx.b0 _ _ _ _, by show pb < _ + 1; omega⟩
      · rcases List.mem_cons.1 hm with rfl | hm
        · exact ⟨(other_set4 (by show _ ≠ _ + 1; omega) _ _ _ _).trans hx.b1, by show pb < _; omega⟩
        · rw [List.mem_singleton.1 hm]
          exact ⟨(other_set4 (by show _ ≠ _ + 1; omega) _ _ _ _).trans hx.b2, hp⟩
    have HIb : Hid (w.heap.size + 1 <= w1.heap.size + 1) := by have := C1.out.sz; show _ <= _; omega
    have HR2 := hideP HX.out.1
    clear HX HS4 HBX i0 i1 i2 i3 j0 j1 j2 j3 hil t5 HC HS00 hS0 C0 C1 C2 HR0 HR1
    generalize ((((w9.setCell ⟨w1.heap.size + 1, 0, none⟩ (.string ⟨s.toArray⟩)).setCell ⟨w1.heap.size + 1, 1, none⟩ (.slice none 0 0)).setCell ⟨w1.heap.size + 1, 2, none⟩ (.int .i64 t.line)).setCell ⟨w1.heap.size + 1, 3, none⟩ (.int .i64 t.col)) = W3 at C3 ⊢
    generalize w1.heap.size + 1 = ib at C3 HIb ⊢
    go_wp2_with fail
    refine (must_c pb tb cap b2 d ts [58] _ C3.out.ps OK.out).mono ?_
    intro e w4 hpost
    rcases ppost_or hpost with ⟨er, li, co, hr, rfl, hst⟩ | ⟨u4, b4, v4, hr, rfl, hst, hps, hv⟩
    · have HE : Hid (R = .inr (er, li, co)) := by rw [HR2.out, hr]; exact rfl
      have HF := hideP (C3.out.st.trans hst)
      clear hr hst hpost
      go_wp2_with fail
      exact ⟨rfl, HF.out, by rw [HE.out]⟩
    obtain ⟨f, hf⟩ : ∃ f, ts.length = f + 1 := ⟨ts.length - 1, by have := OK.out.pos; omega⟩
    have HR3 : Hid (R = (manyA ts (nameA ts) [44] (f + 1) b4).go fun l b => (wantA ts b [59]).go fun _ b => .inl (mkI s l t.line t.col, b)) := by rw [HR2.out, hr, hf]; exact rfl
    have C4 := hideP (C3.out.step hst hps)
    clear hr hst hps hpost hv
    go_wp2_with fail
    refine (listS_c pb tb cap d ts [44] _ ⟨fun _ _ _ => by kernel_rfl⟩ f b4 (by omega) _ C4.out.ps OK.out).mono ?_
    intro e w5 hpost
    rcases ppost_or hpost with ⟨er, li, co, hr, rfl, hst⟩ | ⟨l, b5, v, hr, rfl, hst, hps, hv⟩
    · have HE : Hid (R = .inr (er, li, co)) := by rw [HR3.out, hr]; exact rfl
      have HF := hideP (C4.out.st.trans hst)
      clear hr hst hpost
      go_wp2_with fail
      exact ⟨rfl, HF.out, by rw [HE.out]⟩
    have HR4 : Hid (R = (wantA ts b5 [59]).go fun _ b => .inl (mkI s l t.line t.col, b)) := by rw [HR3.out, hr]; exact rfl
    have HLen : Hid (l.length <= 8193) := by have := many_len _ hr; have := OK.out.len; show _ <= _; omega
    obtain ⟨cs, hv⟩ := hv
    obtain ⟨na, nc, rfl, hnc, hnm⟩ := rows_names hv
    have HN5 := hideP hnm
    have HL4 : Hid (ib < w4.heap.size) := lt_of_block C4.out.b0
    have C5 := hideP (C4.out.step hst hps)
    clear hr hst hps hpost hv hnm
    obtain ⟨⟨i0, i1, i2, i3⟩, ⟨j0, j1, j2, j3⟩, hil⟩ := res_facts C5.out.b0
    go_wp2_with fail
    have C6 : Hid (Ctx pb tb cap d ts w (w5.setCell ⟨ib, 1, none⟩ (.slice na l.length nc)) b5 [(ib, impO s na l.length nc t.line t.col), (w.heap.size, zImp)] [] []) := by
      have := HIb.out
      refine ⟨C5.out.st.own hp (by omega) 1 _, C5.out.ps.other (by omega) 1 _, hp, by rw [size_set]; exact C5.out.sz, fun p hm => ?_, (fun _ h => nomatch h), (fun _ h => nomatch h)⟩
      rcases List.mem_cons.1 hm with rfl | hm
      · have h1 := cells_setCell (o := 1) (u := .slice na l.length nc) C5.out.b0
        simp only [List.setIfInBounds_toArray, List.set_cons_zero, List.set_cons_succ] at h1
        exact ⟨h1, by show pb < ib; omega⟩
      · rw [List.mem_singleton.1 hm]
        exact ⟨(Below.heap_setCell _ _ _ _ (by show w.heap.size ≠ ib; omega)).trans C5.out.b2, hp⟩
    have HN6 : Hid (NamesF (w5.setCell ⟨ib, 1, none⟩ (.slice na l.length nc)) w4.heap.size na l) := namesF_keep HN5.out (by rw [size_set]; exact Nat.le_refl _) fun i hi _ => Below.heap_setCell _ _ _ _ (by show i ≠ ib; have := HL4.out; omega)
    clear C5 HN5 i0 i1 i2 i3 j0 j1 j2 j3 hil
    generalize w5.setCell ⟨ib, 1, none⟩ (.slice na l.length nc) = W6 at C6 HN6 ⊢
    refine (must_c pb tb cap b5 d ts [59] _ C6.out.ps OK.out).mono ?_
    intro e w7 hpost
    rcases ppost_or hpost with ⟨er, li, co, hr, rfl, hst⟩ | ⟨u7, b7, v7, hr, rfl, hst, hps, hv⟩
    · have HE : Hid (R = .inr (er, li, co)) := by rw [HR4.out, hr]; exact rfl
      have HF := hideP (C6.out.st.trans hst)
      clear hr hst hpost
      go_wp2_with fail
      exact ⟨rfl, HF.out, by rw [HE.out]⟩
    have HR5 : Hid (R = .inl (mkI s l t.line t.col, b7)) := by rw [HR4.out, hr]; exact rfl
    have C7 := hideP (C6.out.step hst hps)
    have HN7 : Hid (NamesF w7 w4.heap.size na l) := namesF_keep HN6.out hst.size fun i hi hl => hst.keep i (by have := HL4.out; have := HIb.out; omega) hl
    clear hr hst hps hpost hv
    obtain ⟨⟨i0, i1, i2, i3⟩, _, hil⟩ := res_facts C7.out.b0
    obtain ⟨⟨r0, r1, r2, r3⟩, ⟨f0, f1, f2, f3⟩, hr1⟩ := res_facts C7.out.b1
    have hne : ¬ ib = w.heap.size := by have := HIb.out; omega
    go_wp2_with fail
    rw [HR5.out]
    refine bodyPost_ret (results_cell_row rfl _ _ w.heap.size 55 _ (0, 0) _ rfl (set4 C7.out.b1 _ _ _ _) underlying55 rfl (by kernel_rfl)) rfl ⟨stay_set4 C7.out.st hp (Nat.le_refl _) _ _ _ _, ps_set4 C7.out.ps hp _ _ _ _, _, rfl, [_, _, _, _], rfl, s, l, na, nc, t.line, t.col, rfl, rfl, HLen.out, ?_⟩
    refine namesF_lower (lo := w4.heap.size) (namesF_keep HN7.out (by rw [size_set4]; exact Nat.le_refl _) fun i hi _ => other_set4 (by have := HL4.out; have := HIb.out; omega) _ _ _ _) (by have := HL4.out; have := HIb.out; omega)
end Go.Proofs.YtlhmofphpfdjlaaGreatDoor
