/- Part. -/
import Derived.Test.YtlhmofphpfdjlaaGreatDoorPart37
set_option maxRecDepth 100000
set_option maxHeartbeats 4000000
/- A function's declaration. -/
namespace Go.Proofs.YtlhmofphpfdjlaaGreatDoor
open Go.Proofs.Tryz
open Go.RowKit
attribute [local go_sem ↓] Go.wp_at_zero Go.wp_at_succ
abbrev dO (nm : ByteArray) (ex : Bool) (vs : Value) (pm : ByteArray) (tys : Value) (x : NV) (li co : Nat) : Obj :=
  .cells #[.string nm, .bool ex, vs, .string pm, tys, .int .i64 x.k, .string x.tx, .int .i64 x.N, .int .i64 x.li, .int .i64 x.co, .slice x.ta x.tl x.tc, .slice x.na x.nl x.nc, .slice x.ka x.kl x.kc, .int .i64 li, .int .i64 co] 40
abbrev zDec : Obj := .cells #[.string ⟨#[]⟩, .bool false, .slice none 0 0, .string ⟨#[]⟩, .slice none 0 0, .int .i64 0, .string ⟨#[]⟩, .int .i64 0, .int .i64 0, .int .i64 0, .slice none 0 0, .slice none 0 0, .slice none 0 0, .int .i64 0, .int .i64 0] 40
/-- While a declaration is read: its box, which lies at db, holds o. -/
structure DecX (pb tb cap d : Nat) (ts : List Tok) (w0 w : World) (b db : Nat) (cs : List Value) : Prop where
  st : Stay pb w0 w
  ps : Ps w pb tb cap ts b d
  hp : pb < w0.heap.size
  lo : w0.heap.size + 1 <= db
  res : w.heap[w0.heap.size]? = some zDec
  box : w.heap[db]? = some (.cells cs.toArray 40)
section
variable {pb tb cap d b b' db : Nat} {ts : List Tok} {w0 w w' : World} {cs : List Value}
theorem DecX.step (h : DecX pb tb cap d ts w0 w b db cs) (hst : Stay pb w w') (hps : Ps w' pb tb cap ts b' d) : DecX pb tb cap d ts w0 w' b' db cs where
  st := h.st.trans hst
  ps := hps
  hp := h.hp
  lo := h.lo
  res := (hst.keep _ h.hp (lt_of_block h.res)).trans h.res
  box := (hst.keep _ (by have := h.hp; have := h.lo; omega) (lt_of_block h.box)).trans h.box
theorem DecX.alloc (h : DecX pb tb cap d ts w0 w b db cs) (o : Obj) : DecX pb tb cap d ts w0 (w.alloc o) b db cs := h.step (Stay.of h.ps.ltp (bl_alloc _ _)) (h.ps.alloc _)
theorem DecX.drew (h : DecX pb tb cap d ts w0 w b db cs) : DecX pb tb cap d ts w0 w.drew b db cs := ⟨h.st.drew, h.ps.drew, h.hp, h.lo, h.res, h.box⟩
theorem DecX.set (h : DecX pb tb cap d ts w0 w b db cs) (o : Nat) (u : Value) : DecX pb tb cap d ts w0 (w.setCell ⟨db, o, none⟩ u) b db (cs.set o u) where
  st := h.st.own h.hp (by have := h.lo; omega) o u
  ps := h.ps.other (by have := h.hp; have := h.lo; omega) o u
  hp := h.hp
  lo := h.lo
  res := (Below.heap_setCell _ _ _ _ (by show w0.heap.size ≠ db; have := h.lo; omega)).trans h.res
  box := by
    have h1 := cells_setCell (o := o) (u := u) h.box
    simpa using h1
end
def DeclC (lo : Nat) (w : World) (c : List Value) (D : Ty) : Prop := ∃ (s : List UInt8) (ex : Bool) (vs : List (List UInt8 × Ty)) (va : Option Addr) (vc : Nat) (pm : List UInt8) (ta : Option Addr) (tc : Nat) (tys : List Ty) (x : NV) (B : Ty) (li co m : Nat),
  c = [.string ⟨s.toArray⟩, .bool ex, .slice va vs.length vc, .string ⟨pm.toArray⟩, .slice ta 2 tc, .int .i64 x.k, .string x.tx, .int .i64 x.N, .int .i64 x.li, .int .i64 x.co, .slice x.ta x.tl x.tc, .slice x.na x.nl x.nc, .slice x.ka x.kl x.kc, .int .i64 li, .int .i64 co] /\
  D = mkD s ex vs pm tys B li co /\ vs.length <= 8193 /\ tys.length = 2 /\ VarsF lo w va vs /\ KidsF w lo m ta tys /\ NdV lo w x B
def DecE (lo : Nat) (w : World) (v : Value) (D : Ty) : Prop := ∃ c : List Value, v = .agg c.toArray /\ DeclC lo w c D
theorem kids2 {lo g : Nat} {w : World} {a0 a1 a2 a3 e0 e1 e2 e3 : Value} {D1 D2 : Ty} {ty : TypeId} (h1 : TyE lo w (.agg #[a0, a1, a2, a3]) D1) (h2 : TyE lo w (.agg #[e0, e1, e2, e3]) D2) (hg : w.heap[g]? = some (.cells #[a0, a1, a2, a3, e0, e1, e2, e3] ty)) (hl : lo <= g) : ∃ m, KidsF w lo m (some ⟨g, 0, none⟩) [D1, D2] := by
  obtain ⟨m1, h1⟩ := h1
  obtain ⟨m2, h2⟩ := h2
  refine ⟨max m1 m2, .inr ⟨g, 0, rfl, hl, ⟨_, _, hg⟩, fun i hi => ?_⟩⟩
  match i, hi with
  | 0, _ => exact ⟨a0, a1, a2, a3, by rw [cell_of_row _ _ _ _ _ _ hg]; rfl, by rw [cell_of_row _ _ _ _ _ _ hg]; rfl, by rw [cell_of_row _ _ _ _ _ _ hg]; rfl, by rw [cell_of_row _ _ _ _ _ _ hg]; rfl, tyF_mono h1 (Nat.le_max_left _ _)⟩
  | 1, _ => exact ⟨e0, e1, e2, e3, by rw [cell_of_row _ _ _ _ _ _ hg]; rfl, by rw [cell_of_row _ _ _ _ _ _ hg]; rfl, by rw [cell_of_row _ _ _ _ _ _ hg]; rfl, by rw [cell_of_row _ _ _ _ _ _ hg]; rfl, tyF_mono h2 (Nat.le_max_right _ _)⟩
abbrev node5 (w : World) (b : Nat) (x : NV) : World := (((((((w.setCell ⟨b, 5, none⟩ (.int .i64 x.k)).setCell ⟨b, 6, none⟩ (.string x.tx)).setCell ⟨b, 7, none⟩ (.int .i64 x.N)).setCell ⟨b, 8, none⟩ (.int .i64 x.li)).setCell ⟨b, 9, none⟩ (.int .i64 x.co)).setCell ⟨b, 10, none⟩ (.slice x.ta x.tl x.tc)).setCell ⟨b, 11, none⟩ (.slice x.na x.nl x.nc)).setCell ⟨b, 12, none⟩ (.slice x.ka x.kl x.kc)
theorem node5_size (w : World) (b : Nat) (x : NV) : w.heap.size <= (node5 w b x).heap.size := by simp only [size_set]; exact Nat.le_refl _
theorem node5_other (w : World) {b i : Nat} (x : NV) (hi : i ≠ b) : (node5 w b x).heap[i]? = w.heap[i]? := by
  unfold node5
  rw [Below.heap_setCell _ _ _ _ hi, Below.heap_setCell _ _ _ _ hi, Below.heap_setCell _ _ _ _ hi, Below.heap_setCell _ _ _ _ hi, Below.heap_setCell _ _ _ _ hi, Below.heap_setCell _ _ _ _ hi, Below.heap_setCell _ _ _ _ hi, Below.heap_setCell _ _ _ _ hi]
theorem var_reads {pb tb cap d : Nat} {ts : List Tok} {K : Nat -> Pr Ty} (hK : Reads pb tb cap d ts TyE 17 K) (ok : ToksOk ts) : Reads pb tb cap d ts VarE 65 (varA ts K) where
  calls := fun a w h => variable_c pb tb cap d ts K hK ok a w h
  enters := fun w => enters_of func65 (by kernel_rfl) (by kernel_rfl) _ w
  up := fun a x b h => by
    unfold varA at h
    cases hn : nameA ts a with
    | inr e => rw [hn] at h; cases h
    | inl p =>
      obtain ⟨s, c⟩ := p
      have := name_up hn
      rw [hn] at h
      replace h : (if seesA ts c [60, 58] then (K (c + 1)).go fun t b => .inl ((s, t), b) else .inl ((s, mkT 0 [] [] []), c)) = .inl (x, b) := h
      split at h
      · cases hk : K (c + 1) with
        | inr e => rw [hk] at h; cases h
        | inl q =>
          have h2 := hK.up _ _ _ hk
          rw [hk] at h
          injection h with h
          injection h with _ h
          omega
      · injection h with h
        injection h with _ h
        omega
theorem decl_c (pb tb cap : Nat) (ts : List Tok) (ok : ToksOk ts) (a : Nat) (w : World) (h : Ps w pb tb cap ts a 0) :
    Calls prog 36 #[.pointer (some ⟨pb, 0, none⟩)] w (PPost pb tb cap ts 0 w DecE (declA ts a)) := by
  have H := hideP h
  have OK := hideP ok
  have hp := h.ltp
  have HK1 := hideP (kind_reads pb tb cap 0 ts ok (Nat.zero_le _))
  have C0 := hideP (ctx_init h zDec)
  obtain ⟨R, hR⟩ : ∃ R : Pr Ty, R = (declA ts a) := ⟨_, rfl⟩
  rw [<- hR]
  rw [declA_eq] at hR
  obtain ⟨ex, hex⟩ : ∃ ex, ex = seesA ts a [101, 120, 112, 111, 114, 116] := ⟨_, rfl⟩
  have HTk := hideP (fun wx hx => take_c pb tb cap a 0 ts [101, 120, 112, 111, 114, 116] wx hx ok)
  rw [<- hex] at hR HTk
  generalize (if ex = true then a + 1 else a) = a1 at hR HTk
  obtain ⟨K, hK⟩ : ∃ K, K = kindA ts ts.length 101 0 := ⟨_, rfl⟩
  rw [<- hK] at hR HK1
  have HVr := hideP (var_reads HK1.out ok)
  clear hK hex
  have HR0 := hideP hR
  clear h ok hR
  go_enter func36, ntmps36
  go_wp2_with fail
  refine (HTk.out _ C0.out.ps).mono ?_
  rintro e w1 ⟨rfl, hst, hps⟩
  have C1 := hideP (C0.out.step hst hps)
  clear hst hps
  go_wp2_with fail
  have X1 : Hid (DecX pb tb cap 0 ts w (w1.alloc (dO ⟨#[]⟩ ex (.slice none 0 0) ⟨#[]⟩ (.slice none 0 0) zNV 0 0)) a1 w1.heap.size [.string ⟨#[]⟩, .bool ex, .slice none 0 0, .string ⟨#[]⟩, .slice none 0 0, .int .i64 0, .string ⟨#[]⟩, .int .i64 0, .int .i64 0, .int .i64 0, .slice none 0 0, .slice none 0 0, .slice none 0 0, .int .i64 0, .int .i64 0]) :=
    ⟨(C1.out.alloc _).st, (C1.out.alloc _).ps, hp, C1.out.sz, (C1.out.alloc _).b1, (C1.out.alloc _).b0⟩
  obtain ⟨db, hdb⟩ : ∃ db, db = w1.heap.size := ⟨_, rfl⟩
  rw [<- hdb] at X1 ⊢
  refine (must_c pb tb cap a1 0 ts [102, 110] _ X1.out.ps OK.out).mono ?_
  intro e w2 hpost
  rcases ppost_or hpost with ⟨er, li, co, hr, rfl, hst⟩ | ⟨u, b2, v, hr, rfl, hst, hps, hv⟩
  · have HE : Hid (R = .inr (er, li, co)) := by rw [HR0.out, hr]; exact rfl
    have HF := hideP (X1.out.st.trans hst)
    clear hr hst hpost
    go_wp2_with fail
    exact ⟨rfl, HF.out, by rw [HE.out]⟩
  obtain ⟨t, ht⟩ : ∃ t, t = tkA ts a1 := ⟨_, rfl⟩
  have HR1 : Hid (R = (nameA ts b2).go fun s b => (varsA ts K ts.length b).go fun vs b => (paramA ts K b).go fun h b => (behindA ts K [58] b).go fun y b => (wantA ts b [61]).go fun _ b => (deepA ts ts.length 101 false 0 b).go fun x b => (wantA ts b [59]).go fun _ b => .inl (mkD s ex vs h.1 [h.2, y.1] x t.line t.col, b)) := by rw [HR0.out, hr, ht]; exact rfl
  rw [<- ht] at hv
  subst hv
  have X2 := hideP ((X1.out.step hst hps).alloc (TOKO t))
  have HTb : Hid ((w2.alloc (TOKO t)).heap[w2.heap.size]? = some (TOKO t)) := heap_alloc_last _ _
  have HDl : Hid (db < w2.heap.size) := lt_of_block (X1.out.step hst hps).box
  clear hr hst hps hpost ht X1 HTk C0 C1 HR0 hdb
  obtain ⟨⟨k0, k1, k2, k3⟩, _, hkl⟩ := res_facts HTb.out
  obtain ⟨⟨c0, c1, c2, c3, c4, c5, c6, c7, c8, c9, c10, c11, c12, c13, c14⟩, ⟨z0, z1, z2, z3, z4, z5, z6, z7, z8, z9, z10, z11, z12, z13, z14⟩, hcl⟩ := box15 X2.out.box
  have hne : ¬ w2.heap.size = db := by have := HDl.out; omega
  go_wp2_with fail
  go_region
  have X3 : Hid (DecX pb tb cap 0 ts w (((w2.alloc (TOKO t)).setCell ⟨db, 13, none⟩ (.int .i64 t.line)).setCell ⟨db, 14, none⟩ (.int .i64 t.col)).drew b2 db [.string ⟨#[]⟩, .bool ex, .slice none 0 0, .string ⟨#[]⟩, .slice none 0 0, .int .i64 0, .string ⟨#[]⟩, .int .i64 0, .int .i64 0, .int .i64 0, .slice none 0 0, .slice none 0 0, .slice none 0 0, .int .i64 t.line, .int .i64 t.col]) := ((X2.out.set 13 _).set 14 _).drew
  clear k0 k1 k2 k3 hkl c0 c1 c2 c3 c4 c5 c6 c7 c8 c9 c10 c11 c12 c13 c14 z0 z1 z2 z3 z4 z5 z6 z7 z8 z9 z10 z11 z12 z13 z14 hcl hne X2 HTb
  generalize (((w2.alloc (TOKO t)).setCell ⟨db, 13, none⟩ (.int .i64 t.line)).setCell ⟨db, 14, none⟩ (.int .i64 t.col)).drew = W3 at X3 ⊢
  generalize w2.heap.size = tb2 at HDl ⊢
  go_wp2_with fail
  refine (pname_c pb tb cap b2 0 ts _ X3.out.ps OK.out).mono ?_
  intro e w3 hpost
  rcases ppost_or hpost with ⟨er, li, co, hr, rfl, hst⟩ | ⟨s, b3, v, hr, rfl, hst, hps, hv⟩
  · have HE : Hid (R = .inr (er, li, co)) := by rw [HR1.out, hr]; exact rfl
    have HF := hideP (X3.out.st.trans hst)
    clear hr hst hpost
    go_wp2_with fail
    exact ⟨rfl, HF.out, by rw [HE.out]⟩
  have HR2 : Hid (R = (varsA ts K ts.length b3).go fun vs b => (paramA ts K b).go fun h b => (behindA ts K [58] b).go fun y b => (wantA ts b [61]).go fun _ b => (deepA ts ts.length 101 false 0 b).go fun x b => (wantA ts b [59]).go fun _ b => .inl (mkD s ex vs h.1 [h.2, y.1] x t.line t.col, b)) := by rw [HR1.out, hr]; exact rfl
  subst hv
  have X4 := hideP (X3.out.step hst hps)
  clear hr hst hps hpost X3
  obtain ⟨⟨c0, c1, c2, c3, c4, c5, c6, c7, c8, c9, c10, c11, c12, c13, c14⟩, ⟨z0, z1, z2, z3, z4, z5, z6, z7, z8, z9, z10, z11, z12, z13, z14⟩, hcl⟩ := box15 X4.out.box
  go_wp2_with fail
  have X5 : Hid (DecX pb tb cap 0 ts w (w3.setCell ⟨db, 0, none⟩ (.string ⟨s.toArray⟩)) b3 db [.string ⟨s.toArray⟩, .bool ex, .slice none 0 0, .string ⟨#[]⟩, .slice none 0 0, .int .i64 0, .string ⟨#[]⟩, .int .i64 0, .int .i64 0, .int .i64 0, .slice none 0 0, .slice none 0 0, .slice none 0 0, .int .i64 t.line, .int .i64 t.col]) := X4.out.set 0 _
  clear c0 c1 c2 c3 c4 c5 c6 c7 c8 c9 c10 c11 c12 c13 c14 z0 z1 z2 z3 z4 z5 z6 z7 z8 z9 z10 z11 z12 z13 z14 hcl X4
  generalize w3.setCell ⟨db, 0, none⟩ (.string ⟨s.toArray⟩) = W5 at X5 ⊢
  have HT := hideP (take_c pb tb cap b3 0 ts [91] _ X5.out.ps OK.out)
  obtain ⟨f, hf⟩ : ∃ f, ts.length = f + 1 := ⟨ts.length - 1, by have := OK.out.pos; omega⟩
  cases hs : seesA ts b3 [91] with
  | false =>
    rw [hs, if_neg (by simp)] at HT
    have HR4 : Hid (R = (paramA ts K b3).go fun h b => (behindA ts K [58] b).go fun y b => (wantA ts b [61]).go fun _ b => (deepA ts ts.length 101 false 0 b).go fun x b => (wantA ts b [59]).go fun _ b => .inl (mkD s ex [] h.1 [h.2, y.1] x t.line t.col, b)) := by rw [HR2.out, varsA, if_neg (by simp [hs])]; exact rfl
    clear hs
    refine (HT.out).mono ?_
    rintro e w6 ⟨rfl, hst, hps⟩
    have X8 := hideP (X5.out.step hst hps)
    clear hst hps HT X5 HR2 HR1
    have HVf : Hid (VarsF (db + 1) w6 none []) := .inl rfl
    have HVl : Hid (([] : List (List UInt8 × Ty)).length <= 8193) := Nat.zero_le _
    go_wp2_with fail
    refine (param_c pb tb cap 0 ts K HK1.out OK.out b3 _ X8.out.ps).mono ?_
    intro e w9 hpost
    rcases ppost_or hpost with ⟨er, li, co, hr, rfl, hst⟩ | ⟨h, b6, v, hr, rfl, hst, hps, hv⟩
    · have HE : Hid (R = .inr (er, li, co)) := by rw [HR4.out, hr]; exact rfl
      have HF := hideP (X8.out.st.trans hst)
      clear hr hst hpost
      go_wp2_with fail
      exact ⟨rfl, HF.out, by rw [HE.out]⟩
    have HR5 : Hid (R = (behindA ts K [58] b6).go fun y b => (wantA ts b [61]).go fun _ b => (deepA ts ts.length 101 false 0 b).go fun x b => (wantA ts b [59]).go fun _ b => .inl (mkD s ex [] h.1 [h.2, y.1] x t.line t.col, b)) := by rw [HR4.out, hr]; exact rfl
    obtain ⟨u9, rfl, hv⟩ := hv
    obtain ⟨k1, nm1, na1, nl1, nc1, ka1, kl1, kc1, rfl⟩ := hv.cells
    have hd8 := lt_of_block X8.out.box
    have hd9 := hst.size
    have HT9 := hideP ((hv.lower (show db + 1 <= w6.heap.size by omega)).alloc (tyO k1 nm1 na1 nl1 nc1 ka1 kl1 kc1))
    have HV9 : Hid (VarsF (db + 1) (w9.alloc (tyO k1 nm1 na1 nl1 nc1 ka1 kl1 kc1)) none []) := varsF_keep (varsF_keep HVf.out hst.size fun i hi hl => hst.keep i (by have := X8.out.lo; omega) hl) (by simp) fun i _ hl => Below.heap_alloc _ _ _ hl
    have X9 := hideP ((X8.out.step hst hps).alloc (tyO k1 nm1 na1 nl1 nc1 ka1 kl1 kc1))
    have HB9 : Hid ((w9.alloc (tyO k1 nm1 na1 nl1 nc1 ka1 kl1 kc1)).heap[w9.heap.size]? = some (tyO k1 nm1 na1 nl1 nc1 ka1 kl1 kc1)) := heap_alloc_last _ _
    have hg9 : db < w9.heap.size := by omega
    clear hr hst hps hpost hv X8 HVf HR4 hd8 hd9
    go_wp2_with fail
    generalize w9.alloc (tyO k1 nm1 na1 nl1 nc1 ka1 kl1 kc1) = W9 at HT9 HV9 X9 HB9 ⊢
    generalize w9.heap.size = tb9 at HB9 hg9 ⊢
    refine (behind_c pb tb cap 0 ts [58] K HK1.out OK.out b6 _ X9.out.ps).mono ?_
    intro e w10 hpost
    rcases ppost_or hpost with ⟨er, li, co, hr, rfl, hst⟩ | ⟨y, b7, v, hr, rfl, hst, hps, hv⟩
    · have HE : Hid (R = .inr (er, li, co)) := by rw [HR5.out, hr]; exact rfl
      have HF := hideP (X9.out.st.trans hst)
      clear hr hst hpost
      go_wp2_with fail
      exact ⟨rfl, HF.out, by rw [HE.out]⟩
    have HR6 : Hid (R = (wantA ts b7 [61]).go fun _ b => (deepA ts ts.length 101 false 0 b).go fun x b => (wantA ts b [59]).go fun _ b => .inl (mkD s ex [] h.1 [h.2, y.1] x t.line t.col, b)) := by rw [HR5.out, hr]; exact rfl
    obtain ⟨u10, rfl, hv⟩ := hv
    obtain ⟨k2, nm2, na2, nl2, nc2, ka2, kl2, kc2, rfl⟩ := hv.cells
    have hd9 := lt_of_block X9.out.box
    have ht9 := lt_of_block HB9.out
    have hd10 := hst.size
    have HU10 := hideP ((hv.lower (show db + 1 <= W9.heap.size by omega)).alloc (tyO k2 nm2 na2 nl2 nc2 ka2 kl2 kc2))
    have HT10 := hideP ((HT9.out.stay hst (by have := X9.out.lo; omega)).alloc (tyO k2 nm2 na2 nl2 nc2 ka2 kl2 kc2))
    have HV10 : Hid (VarsF (db + 1) (w10.alloc (tyO k2 nm2 na2 nl2 nc2 ka2 kl2 kc2)) none []) := varsF_keep (varsF_keep HV9.out hst.size fun i hi hl => hst.keep i (by have := X9.out.lo; omega) hl) (by simp) fun i _ hl => Below.heap_alloc _ _ _ hl
    have HB10 : Hid ((w10.alloc (tyO k2 nm2 na2 nl2 nc2 ka2 kl2 kc2)).heap[tb9]? = some (tyO k1 nm1 na1 nl1 nc1 ka1 kl1 kc1)) := (Below.heap_alloc _ _ _ (by omega)).trans ((hst.keep tb9 (by have := X9.out.lo; omega) ht9).trans HB9.out)
    have HC10 : Hid ((w10.alloc (tyO k2 nm2 na2 nl2 nc2 ka2 kl2 kc2)).heap[w10.heap.size]? = some (tyO k2 nm2 na2 nl2 nc2 ka2 kl2 kc2)) := heap_alloc_last _ _
    have X10 := hideP ((X9.out.step hst hps).alloc (tyO k2 nm2 na2 nl2 nc2 ka2 kl2 kc2))
    have hg10 : db < w10.heap.size := by omega
    clear hr hst hps hpost hv X9 HV9 HR5 hd9 hd10 HT9 HB9
    obtain ⟨⟨p0, p1, p2, p3⟩, _, hpl⟩ := res_facts HB10.out
    obtain ⟨⟨q0, q1, q2, q3⟩, _, hql⟩ := res_facts HC10.out
    obtain ⟨⟨c0, c1, c2, c3, c4, c5, c6, c7, c8, c9, c10, c11, c12, c13, c14⟩, ⟨z0, z1, z2, z3, z4, z5, z6, z7, z8, z9, z10, z11, z12, z13, z14⟩, hcl⟩ := box15 X10.out.box
    have hne9 : ¬ tb9 = db := by omega
    have hne10 : ¬ w10.heap.size = db := by omega
    go_wp2_with fail
    clear p0 p1 p2 p3 hpl q0 q1 q2 q3 hql c0 c1 c2 c3 c4 c5 c6 c7 c8 c9 c10 c11 c12 c13 c14 z0 z1 z2 z3 z4 z5 z6 z7 z8 z9 z10 z11 z12 z13 z14 hcl
    generalize w10.alloc (tyO k2 nm2 na2 nl2 nc2 ka2 kl2 kc2) = W10 at HU10 HT10 HV10 HB10 HC10 X10 ⊢
    generalize w10.heap.size = tb10 at HC10 hg10 hne10 ⊢
    obtain ⟨⟨p0, p1, p2, p3⟩, _, hpl⟩ := res_facts HB10.out
    obtain ⟨⟨q0, q1, q2, q3⟩, _, hql⟩ := res_facts HC10.out
    obtain ⟨⟨c0, c1, c2, c3, c4, c5, c6, c7, c8, c9, c10, c11, c12, c13, c14⟩, ⟨z0, z1, z2, z3, z4, z5, z6, z7, z8, z9, z10, z11, z12, z13, z14⟩, hcl⟩ := box15 X10.out.box
    go_region
    have X11 : Hid (DecX pb tb cap 0 ts w (((W10.setCell ⟨db, 3, none⟩ (.string ⟨h.1.toArray⟩)).setCell ⟨db, 4, none⟩ (.slice (some ⟨W10.heap.size, 0, none⟩) 2 2)).alloc (.cells #[.int .i64 k1, .string nm1, .slice na1 nl1 nc1, .slice ka1 kl1 kc1, .int .i64 k2, .string nm2, .slice na2 nl2 nc2, .slice ka2 kl2 kc2] 44)).drew b7 db [.string ⟨s.toArray⟩, .bool ex, .slice none 0 0, .string ⟨h.1.toArray⟩, .slice (some ⟨W10.heap.size, 0, none⟩) 2 2, .int .i64 0, .string ⟨#[]⟩, .int .i64 0, .int .i64 0, .int .i64 0, .slice none 0 0, .slice none 0 0, .slice none 0 0, .int .i64 t.line, .int .i64 t.col]) := (((X10.out.set 3 _).set 4 _).alloc _).drew
    have hkp : ∀ (o : Obj) i, db + 1 <= i -> i < W10.heap.size -> (((W10.setCell ⟨db, 3, none⟩ (.string ⟨h.1.toArray⟩)).setCell ⟨db, 4, none⟩ (.slice (some ⟨W10.heap.size, 0, none⟩) 2 2)).alloc o).drew.heap[i]? = W10.heap[i]? := fun o i hi hl => by
      rw [heap_drew, Below.heap_alloc _ _ _ (by rw [size_set, size_set]; exact hl), Below.heap_setCell _ _ _ _ (by show i ≠ db; omega), Below.heap_setCell _ _ _ _ (by show i ≠ db; omega)]
    have hks : ∀ (o : Obj), W10.heap.size <= (((W10.setCell ⟨db, 3, none⟩ (.string ⟨h.1.toArray⟩)).setCell ⟨db, 4, none⟩ (.slice (some ⟨W10.heap.size, 0, none⟩) 2 2)).alloc o).drew.heap.size := fun o => by rw [heap_drew, World.size_alloc, size_set, size_set]; omega
    have hkr : ∀ (o : Obj), (((W10.setCell ⟨db, 3, none⟩ (.string ⟨h.1.toArray⟩)).setCell ⟨db, 4, none⟩ (.slice (some ⟨W10.heap.size, 0, none⟩) 2 2)).alloc o).drew.heap[W10.heap.size]? = some o := fun o => by
      have := heap_alloc_last ((W10.setCell ⟨db, 3, none⟩ (.string ⟨h.1.toArray⟩)).setCell ⟨db, 4, none⟩ (.slice (some ⟨W10.heap.size, 0, none⟩) 2 2)) o
      rw [size_set, size_set] at this
      exact this
    have HV11 := hideP (varsF_keep HV10.out (hks _) (hkp (.cells #[.int .i64 k1, .string nm1, .slice na1 nl1 nc1, .slice ka1 kl1 kc1, .int .i64 k2, .string nm2, .slice na2 nl2 nc2, .slice ka2 kl2 kc2] 44)))
    have HKi11 := hideP (kids2 (HT10.out.keep (hks _) (hkp _)) (HU10.out.keep (hks _) (hkp _)) (hkr (.cells #[.int .i64 k1, .string nm1, .slice na1 nl1 nc1, .slice ka1 kl1 kc1, .int .i64 k2, .string nm2, .slice na2 nl2 nc2, .slice ka2 kl2 kc2] 44)) (show db + 1 <= W10.heap.size from hcl))
    clear hkp hks hkr HV10 HT10 HU10 HB10 HC10 X10 p0 p1 p2 p3 hpl q0 q1 q2 q3 hql c0 c1 c2 c3 c4 c5 c6 c7 c8 c9 c10 c11 c12 c13 c14 z0 z1 z2 z3 z4 z5 z6 z7 z8 z9 z10 z11 z12 z13 z14 hcl hne9 hne10 hg10 hg9
    generalize (((W10.setCell ⟨db, 3, none⟩ (.string ⟨h.1.toArray⟩)).setCell ⟨db, 4, none⟩ (.slice (some ⟨W10.heap.size, 0, none⟩) 2 2)).alloc (.cells #[.int .i64 k1, .string nm1, .slice na1 nl1 nc1, .slice ka1 kl1 kc1, .int .i64 k2, .string nm2, .slice na2 nl2 nc2, .slice ka2 kl2 kc2] 44)).drew = W11 at X11 HV11 HKi11 ⊢
    generalize W10.heap.size = kb at X11 HKi11 ⊢
    obtain ⟨m, hki⟩ := HKi11.out
    have HKi := hideP hki
    clear hki HKi11
    go_wp2_with fail
    refine (must_c pb tb cap b7 0 ts [61] _ X11.out.ps OK.out).mono ?_
    intro e w12 hpost
    rcases ppost_or hpost with ⟨er, li, co, hr, rfl, hst⟩ | ⟨u12, b8, v12, hr, rfl, hst, hps, hv⟩
    · have HE : Hid (R = .inr (er, li, co)) := by rw [HR6.out, hr]; exact rfl
      have HF := hideP (X11.out.st.trans hst)
      clear hr hst hpost
      go_wp2_with fail
      exact ⟨rfl, HF.out, by rw [HE.out]⟩
    have HR7 : Hid (R = (deepA ts ts.length 101 false 0 b8).go fun x b => (wantA ts b [59]).go fun _ b => .inl (mkD s ex [] h.1 [h.2, y.1] x t.line t.col, b)) := by rw [HR6.out, hr]; exact rfl
    have X12 := hideP (X11.out.step hst hps)
    have HV12 := hideP (varsF_keep HV11.out hst.size fun i hi hl => hst.keep i (by have := X11.out.lo; omega) hl)
    have HK12 := hideP (kidsF_keep HKi.out hst.size fun i hi hl => hst.keep i (by have := X11.out.lo; omega) hl)
    clear hr hst hps hpost hv X11 HV11 HKi HR6
    go_wp2_with fail
    refine (deep_c pb tb cap ts OK.out 101 0 rfl (by omega) b8 _ X12.out.ps).1.mono ?_
    intro e w13 hpost
    rcases ppost_or hpost with ⟨er, li, co, hr, rfl, hst⟩ | ⟨B, b9, v13, hr, rfl, hst, hps, x, rfl, hv⟩
    · have HE : Hid (R = .inr (er, li, co)) := by rw [HR7.out, hr]; exact rfl
      have HF := hideP (X12.out.st.trans hst)
      clear hr hst hpost
      go_wp2_with fail
      exact ⟨rfl, HF.out, by rw [HE.out]⟩
    have HR8 : Hid (R = (wantA ts b9 [59]).go fun _ b => .inl (mkD s ex [] h.1 [h.2, y.1] B t.line t.col, b)) := by rw [HR7.out, hr]; exact rfl
    have X13 := hideP (X12.out.step hst hps)
    have HV13 := hideP (varsF_keep HV12.out hst.size fun i hi hl => hst.keep i (by have := X12.out.lo; omega) hl)
    have HK13 := hideP (kidsF_keep HK12.out hst.size fun i hi hl => hst.keep i (by have := X12.out.lo; omega) hl)
    have hd12 := lt_of_block X12.out.box
    have HN13 := hideP (hv.lower (show db + 1 <= w12.heap.size by omega))
    clear hr hst hps hpost hv X12 HV12 HK12 HR7 hd12
    obtain ⟨⟨c0, c1, c2, c3, c4, c5, c6, c7, c8, c9, c10, c11, c12, c13, c14⟩, ⟨z0, z1, z2, z3, z4, z5, z6, z7, z8, z9, z10, z11, z12, z13, z14⟩, hcl⟩ := box15 X13.out.box
    go_wp2_with fail
    have X14 : Hid (DecX pb tb cap 0 ts w ((((((((w13.setCell ⟨db, 5, none⟩ (.int .i64 x.k)).setCell ⟨db, 6, none⟩ (.string x.tx)).setCell ⟨db, 7, none⟩ (.int .i64 x.N)).setCell ⟨db, 8, none⟩ (.int .i64 x.li)).setCell ⟨db, 9, none⟩ (.int .i64 x.co)).setCell ⟨db, 10, none⟩ (.slice x.ta x.tl x.tc)).setCell ⟨db, 11, none⟩ (.slice x.na x.nl x.nc)).setCell ⟨db, 12, none⟩ (.slice x.ka x.kl x.kc)) b9 db [.string ⟨s.toArray⟩, .bool ex, .slice none 0 0, .string ⟨h.1.toArray⟩, .slice (some ⟨kb, 0, none⟩) 2 2, .int .i64 x.k, .string x.tx, .int .i64 x.N, .int .i64 x.li, .int .i64 x.co, .slice x.ta x.tl x.tc, .slice x.na x.nl x.nc, .slice x.ka x.kl x.kc, .int .i64 t.line, .int .i64 t.col]) := (((((((X13.out.set 5 _).set 6 _).set 7 _).set 8 _).set 9 _).set 10 _).set 11 _).set 12 _
    have HV14 : Hid (VarsF (db + 1) ((((((((w13.setCell ⟨db, 5, none⟩ (.int .i64 x.k)).setCell ⟨db, 6, none⟩ (.string x.tx)).setCell ⟨db, 7, none⟩ (.int .i64 x.N)).setCell ⟨db, 8, none⟩ (.int .i64 x.li)).setCell ⟨db, 9, none⟩ (.int .i64 x.co)).setCell ⟨db, 10, none⟩ (.slice x.ta x.tl x.tc)).setCell ⟨db, 11, none⟩ (.slice x.na x.nl x.nc)).setCell ⟨db, 12, none⟩ (.slice x.ka x.kl x.kc)) none []) := varsF_keep HV13.out (node5_size w13 db x) fun i hi _ => node5_other w13 x (show i ≠ db by omega)
    have HK14 : Hid (KidsF ((((((((w13.setCell ⟨db, 5, none⟩ (.int .i64 x.k)).setCell ⟨db, 6, none⟩ (.string x.tx)).setCell ⟨db, 7, none⟩ (.int .i64 x.N)).setCell ⟨db, 8, none⟩ (.int .i64 x.li)).setCell ⟨db, 9, none⟩ (.int .i64 x.co)).setCell ⟨db, 10, none⟩ (.slice x.ta x.tl x.tc)).setCell ⟨db, 11, none⟩ (.slice x.na x.nl x.nc)).setCell ⟨db, 12, none⟩ (.slice x.ka x.kl x.kc)) (db + 1) m (some ⟨kb, 0, none⟩) [h.2, y.1]) := kidsF_keep HK13.out (node5_size w13 db x) fun i hi _ => node5_other w13 x (show i ≠ db by omega)
    have HN14 : Hid (NdV (db + 1) ((((((((w13.setCell ⟨db, 5, none⟩ (.int .i64 x.k)).setCell ⟨db, 6, none⟩ (.string x.tx)).setCell ⟨db, 7, none⟩ (.int .i64 x.N)).setCell ⟨db, 8, none⟩ (.int .i64 x.li)).setCell ⟨db, 9, none⟩ (.int .i64 x.co)).setCell ⟨db, 10, none⟩ (.slice x.ta x.tl x.tc)).setCell ⟨db, 11, none⟩ (.slice x.na x.nl x.nc)).setCell ⟨db, 12, none⟩ (.slice x.ka x.kl x.kc)) x B) := HN13.out.keep (node5_size w13 db x) fun i hi _ => node5_other w13 x (show i ≠ db by omega)
    clear c0 c1 c2 c3 c4 c5 c6 c7 c8 c9 c10 c11 c12 c13 c14 z0 z1 z2 z3 z4 z5 z6 z7 z8 z9 z10 z11 z12 z13 z14 hcl X13 HV13 HK13 HN13
    generalize (((((((w13.setCell ⟨db, 5, none⟩ (.int .i64 x.k)).setCell ⟨db, 6, none⟩ (.string x.tx)).setCell ⟨db, 7, none⟩ (.int .i64 x.N)).setCell ⟨db, 8, none⟩ (.int .i64 x.li)).setCell ⟨db, 9, none⟩ (.int .i64 x.co)).setCell ⟨db, 10, none⟩ (.slice x.ta x.tl x.tc)).setCell ⟨db, 11, none⟩ (.slice x.na x.nl x.nc)).setCell ⟨db, 12, none⟩ (.slice x.ka x.kl x.kc) = W14 at X14 HV14 HK14 HN14 ⊢
    refine (must_c pb tb cap b9 0 ts [59] _ X14.out.ps OK.out).mono ?_
    intro e w15 hpost
    rcases ppost_or hpost with ⟨er, li, co, hr, rfl, hst⟩ | ⟨u15, b10, v15, hr, rfl, hst, hps, hv⟩
    · have HE : Hid (R = .inr (er, li, co)) := by rw [HR8.out, hr]; exact rfl
      have HF := hideP (X14.out.st.trans hst)
      clear hr hst hpost
      go_wp2_with fail
      exact ⟨rfl, HF.out, by rw [HE.out]⟩
    have HR9 : Hid (R = .inl (mkD s ex [] h.1 [h.2, y.1] B t.line t.col, b10)) := by rw [HR8.out, hr]; exact rfl
    have X15 := hideP (X14.out.step hst hps)
    have HV15 := hideP (varsF_keep HV14.out hst.size fun i hi hl => hst.keep i (by have := X14.out.lo; omega) hl)
    have HK15 := hideP (kidsF_keep HK14.out hst.size fun i hi hl => hst.keep i (by have := X14.out.lo; omega) hl)
    have HN15 := hideP (HN14.out.stay hst (by have := X14.out.lo; omega))
    clear hr hst hps hpost hv X14 HV14 HK14 HN14 HR8
    obtain ⟨⟨c0, c1, c2, c3, c4, c5, c6, c7, c8, c9, c10, c11, c12, c13, c14⟩, _, hcl⟩ := box15 X15.out.box
    obtain ⟨⟨r0, r1, r2, r3, r4, r5, r6, r7, r8, r9, r10, r11, r12, r13, r14⟩, ⟨z0, z1, z2, z3, z4, z5, z6, z7, z8, z9, z10, z11, z12, z13, z14⟩, hrl⟩ := box15 X15.out.res
    have hne : ¬ db = w.heap.size := by have := X15.out.lo; omega
    go_wp2_with fail
    rw [HR9.out]
    refine bodyPost_ret (results_cell_row rfl _ _ w.heap.size 40 _ (0, 0) _ rfl (put15_heap X15.out.res _ _ _ _ _ _ _ _ _ _ _ _ _ _ _) underlying40 rfl (by kernel_rfl)) rfl ⟨stay_put15 X15.out.st hp (Nat.le_refl _) _ _ _ _ _ _ _ _ _ _ _ _ _ _ _, ps_put15 X15.out.ps hp _ _ _ _ _ _ _ _ _ _ _ _ _ _ _, _, rfl, [_, _, _, _, _, _, _, _, _, _, _, _, _, _, _], rfl, s, ex, [], none, 0, h.1, some ⟨kb, 0, none⟩, 2, [h.2, y.1], x, B, t.line, t.col, m, rfl, rfl, HVl.out, rfl, ?_, ?_, ?_⟩
    · exact varsF_lower (varsF_keep HV15.out (Nat.le_of_eq (put15_size _ _ _ _ _ _ _ _ _ _ _ _ _ _ _).symm) fun i hi _ => put15_other (by have := X15.out.lo; omega) _ _ _ _ _ _ _ _ _ _ _ _ _ _ _) (by have := X15.out.lo; omega)
    · exact kidsF_lower (kidsF_keep HK15.out (Nat.le_of_eq (put15_size _ _ _ _ _ _ _ _ _ _ _ _ _ _ _).symm) fun i hi _ => put15_other (by have := X15.out.lo; omega) _ _ _ _ _ _ _ _ _ _ _ _ _ _ _) (by have := X15.out.lo; omega)
    · exact (HN15.out.keep (Nat.le_of_eq (put15_size _ _ _ _ _ _ _ _ _ _ _ _ _ _ _).symm) fun i hi _ => put15_other (by have := X15.out.lo; omega) _ _ _ _ _ _ _ _ _ _ _ _ _ _ _).lower (by have := X15.out.lo; omega)
  | true =>
    rw [hs, if_pos rfl] at HT
    have HR3 : Hid (R = (manyA ts (varA ts K) [44] (f + 1) (b3 + 1)).go fun l b => (wantA ts b [93]).go fun _ b => (paramA ts K b).go fun h b => (behindA ts K [58] b).go fun y b => (wantA ts b [61]).go fun _ b => (deepA ts ts.length 101 false 0 b).go fun x b => (wantA ts b [59]).go fun _ b => .inl (mkD s ex l h.1 [h.2, y.1] x t.line t.col, b)) := by
      rw [HR2.out, varsA, if_pos hs, <- hf]
      cases manyA ts (varA ts K) [44] ts.length (b3 + 1) with
      | inr e => rfl
      | inl p =>
        show Pr.go (Pr.go (wantA ts p.2 [93]) _) _ = Pr.go (wantA ts p.2 [93]) _
        cases wantA ts p.2 [93] <;> rfl
    clear hs
    refine (HT.out).mono ?_
    rintro e w6 ⟨rfl, hst, hps⟩
    have X6 := hideP (X5.out.step hst hps)
    clear hst hps HT X5 HR2 HR1
    go_wp2_with fail
    refine (listV_c pb tb cap 0 ts [44] _ (varA ts K) HVr.out f (b3 + 1) (by omega) _ X6.out.ps OK.out).mono ?_
    intro e w7 hpost
    rcases ppost_or hpost with ⟨er, li, co, hr, rfl, hst⟩ | ⟨vs, b4, v, hr, rfl, hst, hps, hv⟩
    · have HE : Hid (R = .inr (er, li, co)) := by rw [HR3.out, hr]; exact rfl
      have HF := hideP (X6.out.st.trans hst)
      clear hr hst hpost
      go_wp2_with fail
      exact ⟨rfl, HF.out, by rw [HE.out]⟩
    have HR35 : Hid (R = (wantA ts b4 [93]).go fun _ b => (paramA ts K b).go fun h b => (behindA ts K [58] b).go fun y b => (wantA ts b [61]).go fun _ b => (deepA ts ts.length 101 false 0 b).go fun x b => (wantA ts b [59]).go fun _ b => .inl (mkD s ex vs h.1 [h.2, y.1] x t.line t.col, b)) := by rw [HR3.out, hr]; exact rfl
    have HVl : Hid (vs.length <= 8193) := by have := many_len _ hr; have := OK.out.len; show _ <= _; omega
    obtain ⟨va, vc, rfl, hvc, hvf⟩ := varsE_f hv
    have hd6 := lt_of_block X6.out.box
    have HV7 := hideP (varsF_lower hvf (show db + 1 <= w6.heap.size by omega))
    have X7 := hideP (X6.out.step hst hps)
    clear hr hst hps hpost hv hvf X6 hd6 HR3
    obtain ⟨⟨c0, c1, c2, c3, c4, c5, c6, c7, c8, c9, c10, c11, c12, c13, c14⟩, ⟨z0, z1, z2, z3, z4, z5, z6, z7, z8, z9, z10, z11, z12, z13, z14⟩, hcl⟩ := box15 X7.out.box
    go_wp2_with fail
    have X75 : Hid (DecX pb tb cap 0 ts w (w7.setCell ⟨db, 2, none⟩ (.slice va vs.length vc)) b4 db [.string ⟨s.toArray⟩, .bool ex, .slice va vs.length vc, .string ⟨#[]⟩, .slice none 0 0, .int .i64 0, .string ⟨#[]⟩, .int .i64 0, .int .i64 0, .int .i64 0, .slice none 0 0, .slice none 0 0, .slice none 0 0, .int .i64 t.line, .int .i64 t.col]) := X7.out.set 2 _
    have HV75 : Hid (VarsF (db + 1) (w7.setCell ⟨db, 2, none⟩ (.slice va vs.length vc)) va vs) := varsF_keep HV7.out (by rw [size_set]; exact Nat.le_refl _) fun i hi _ => Below.heap_setCell _ _ _ _ (by show i ≠ db; omega)
    clear c0 c1 c2 c3 c4 c5 c6 c7 c8 c9 c10 c11 c12 c13 c14 z0 z1 z2 z3 z4 z5 z6 z7 z8 z9 z10 z11 z12 z13 z14 hcl X7 HV7
    generalize w7.setCell ⟨db, 2, none⟩ (.slice va vs.length vc) = W75 at X75 HV75 ⊢
    refine (must_c pb tb cap b4 0 ts [93] _ X75.out.ps OK.out).mono ?_
    intro e w6 hpost
    rcases ppost_or hpost with ⟨er, li, co, hr, rfl, hst⟩ | ⟨u5, b5, v5, hr, rfl, hst, hps, hv⟩
    · have HE : Hid (R = .inr (er, li, co)) := by rw [HR35.out, hr]; exact rfl
      have HF := hideP (X75.out.st.trans hst)
      clear hr hst hpost
      go_wp2_with fail
      exact ⟨rfl, HF.out, by rw [HE.out]⟩
    have HR4 : Hid (R = (paramA ts K b5).go fun h b => (behindA ts K [58] b).go fun y b => (wantA ts b [61]).go fun _ b => (deepA ts ts.length 101 false 0 b).go fun x b => (wantA ts b [59]).go fun _ b => .inl (mkD s ex vs h.1 [h.2, y.1] x t.line t.col, b)) := by rw [HR35.out, hr]; exact rfl
    have X8 := hideP (X75.out.step hst hps)
    have HVf : Hid (VarsF (db + 1) w6 va vs) := varsF_keep HV75.out hst.size fun i hi hl => hst.keep i (by have := X75.out.lo; omega) hl
    clear hr hst hps hpost hv X75 HV75 HR35
    go_wp2_with fail
    refine (param_c pb tb cap 0 ts K HK1.out OK.out b5 _ X8.out.ps).mono ?_
    intro e w9 hpost
    rcases ppost_or hpost with ⟨er, li, co, hr, rfl, hst⟩ | ⟨h, b6, v, hr, rfl, hst, hps, hv⟩
    · have HE : Hid (R = .inr (er, li, co)) := by rw [HR4.out, hr]; exact rfl
      have HF := hideP (X8.out.st.trans hst)
      clear hr hst hpost
      go_wp2_with fail
      exact ⟨rfl, HF.out, by rw [HE.out]⟩
    have HR5 : Hid (R = (behindA ts K [58] b6).go fun y b => (wantA ts b [61]).go fun _ b => (deepA ts ts.length 101 false 0 b).go fun x b => (wantA ts b [59]).go fun _ b => .inl (mkD s ex vs h.1 [h.2, y.1] x t.line t.col, b)) := by rw [HR4.out, hr]; exact rfl
    obtain ⟨u9, rfl, hv⟩ := hv
    obtain ⟨k1, nm1, na1, nl1, nc1, ka1, kl1, kc1, rfl⟩ := hv.cells
    have hd8 := lt_of_block X8.out.box
    have hd9 := hst.size
    have HT9 := hideP ((hv.lower (show db + 1 <= w6.heap.size by omega)).alloc (tyO k1 nm1 na1 nl1 nc1 ka1 kl1 kc1))
    have HV9 : Hid (VarsF (db + 1) (w9.alloc (tyO k1 nm1 na1 nl1 nc1 ka1 kl1 kc1)) va vs) := varsF_keep (varsF_keep HVf.out hst.size fun i hi hl => hst.keep i (by have := X8.out.lo; omega) hl) (by simp) fun i _ hl => Below.heap_alloc _ _ _ hl
    have X9 := hideP ((X8.out.step hst hps).alloc (tyO k1 nm1 na1 nl1 nc1 ka1 kl1 kc1))
    have HB9 : Hid ((w9.alloc (tyO k1 nm1 na1 nl1 nc1 ka1 kl1 kc1)).heap[w9.heap.size]? = some (tyO k1 nm1 na1 nl1 nc1 ka1 kl1 kc1)) := heap_alloc_last _ _
    have hg9 : db < w9.heap.size := by omega
    clear hr hst hps hpost hv X8 HVf HR4 hd8 hd9
    go_wp2_with fail
    generalize w9.alloc (tyO k1 nm1 na1 nl1 nc1 ka1 kl1 kc1) = W9 at HT9 HV9 X9 HB9 ⊢
    generalize w9.heap.size = tb9 at HB9 hg9 ⊢
    refine (behind_c pb tb cap 0 ts [58] K HK1.out OK.out b6 _ X9.out.ps).mono ?_
    intro e w10 hpost
    rcases ppost_or hpost with ⟨er, li, co, hr, rfl, hst⟩ | ⟨y, b7, v, hr, rfl, hst, hps, hv⟩
    · have HE : Hid (R = .inr (er, li, co)) := by rw [HR5.out, hr]; exact rfl
      have HF := hideP (X9.out.st.trans hst)
      clear hr hst hpost
      go_wp2_with fail
      exact ⟨rfl, HF.out, by rw [HE.out]⟩
    have HR6 : Hid (R = (wantA ts b7 [61]).go fun _ b => (deepA ts ts.length 101 false 0 b).go fun x b => (wantA ts b [59]).go fun _ b => .inl (mkD s ex vs h.1 [h.2, y.1] x t.line t.col, b)) := by rw [HR5.out, hr]; exact rfl
    obtain ⟨u10, rfl, hv⟩ := hv
    obtain ⟨k2, nm2, na2, nl2, nc2, ka2, kl2, kc2, rfl⟩ := hv.cells
    have hd9 := lt_of_block X9.out.box
    have ht9 := lt_of_block HB9.out
    have hd10 := hst.size
    have HU10 := hideP ((hv.lower (show db + 1 <= W9.heap.size by omega)).alloc (tyO k2 nm2 na2 nl2 nc2 ka2 kl2 kc2))
    have HT10 := hideP ((HT9.out.stay hst (by have := X9.out.lo; omega)).alloc (tyO k2 nm2 na2 nl2 nc2 ka2 kl2 kc2))
    have HV10 : Hid (VarsF (db + 1) (w10.alloc (tyO k2 nm2 na2 nl2 nc2 ka2 kl2 kc2)) va vs) := varsF_keep (varsF_keep HV9.out hst.size fun i hi hl => hst.keep i (by have := X9.out.lo; omega) hl) (by simp) fun i _ hl => Below.heap_alloc _ _ _ hl
    have HB10 : Hid ((w10.alloc (tyO k2 nm2 na2 nl2 nc2 ka2 kl2 kc2)).heap[tb9]? = some (tyO k1 nm1 na1 nl1 nc1 ka1 kl1 kc1)) := (Below.heap_alloc _ _ _ (by omega)).trans ((hst.keep tb9 (by have := X9.out.lo; omega) ht9).trans HB9.out)
    have HC10 : Hid ((w10.alloc (tyO k2 nm2 na2 nl2 nc2 ka2 kl2 kc2)).heap[w10.heap.size]? = some (tyO k2 nm2 na2 nl2 nc2 ka2 kl2 kc2)) := heap_alloc_last _ _
    have X10 := hideP ((X9.out.step hst hps).alloc (tyO k2 nm2 na2 nl2 nc2 ka2 kl2 kc2))
    have hg10 : db < w10.heap.size := by omega
    clear hr hst hps hpost hv X9 HV9 HR5 hd9 hd10 HT9 HB9
    obtain ⟨⟨p0, p1, p2, p3⟩, _, hpl⟩ := res_facts HB10.out
    obtain ⟨⟨q0, q1, q2, q3⟩, _, hql⟩ := res_facts HC10.out
    obtain ⟨⟨c0, c1, c2, c3, c4, c5, c6, c7, c8, c9, c10, c11, c12, c13, c14⟩, ⟨z0, z1, z2, z3, z4, z5, z6, z7, z8, z9, z10, z11, z12, z13, z14⟩, hcl⟩ := box15 X10.out.box
    have hne9 : ¬ tb9 = db := by omega
    have hne10 : ¬ w10.heap.size = db := by omega
    go_wp2_with fail
    clear p0 p1 p2 p3 hpl q0 q1 q2 q3 hql c0 c1 c2 c3 c4 c5 c6 c7 c8 c9 c10 c11 c12 c13 c14 z0 z1 z2 z3 z4 z5 z6 z7 z8 z9 z10 z11 z12 z13 z14 hcl
    generalize w10.alloc (tyO k2 nm2 na2 nl2 nc2 ka2 kl2 kc2) = W10 at HU10 HT10 HV10 HB10 HC10 X10 ⊢
    generalize w10.heap.size = tb10 at HC10 hg10 hne10 ⊢
    obtain ⟨⟨p0, p1, p2, p3⟩, _, hpl⟩ := res_facts HB10.out
    obtain ⟨⟨q0, q1, q2, q3⟩, _, hql⟩ := res_facts HC10.out
    obtain ⟨⟨c0, c1, c2, c3, c4, c5, c6, c7, c8, c9, c10, c11, c12, c13, c14⟩, ⟨z0, z1, z2, z3, z4, z5, z6, z7, z8, z9, z10, z11, z12, z13, z14⟩, hcl⟩ := box15 X10.out.box
    go_region
    have X11 : Hid (DecX pb tb cap 0 ts w (((W10.setCell ⟨db, 3, none⟩ (.string ⟨h.1.toArray⟩)).setCell ⟨db, 4, none⟩ (.slice (some ⟨W10.heap.size, 0, none⟩) 2 2)).alloc (.cells #[.int .i64 k1, .string nm1, .slice na1 nl1 nc1, .slice ka1 kl1 kc1, .int .i64 k2, .string nm2, .slice na2 nl2 nc2, .slice ka2 kl2 kc2] 44)).drew b7 db [.string ⟨s.toArray⟩, .bool ex, .slice va vs.length vc, .string ⟨h.1.toArray⟩, .slice (some ⟨W10.heap.size, 0, none⟩) 2 2, .int .i64 0, .string ⟨#[]⟩, .int .i64 0, .int .i64 0, .int .i64 0, .slice none 0 0, .slice none 0 0, .slice none 0 0, .int .i64 t.line, .int .i64 t.col]) := (((X10.out.set 3 _).set 4 _).alloc _).drew
    have hkp : ∀ (o : Obj) i, db + 1 <= i -> i < W10.heap.size -> (((W10.setCell ⟨db, 3, none⟩ (.string ⟨h.1.toArray⟩)).setCell ⟨db, 4, none⟩ (.slice (some ⟨W10.heap.size, 0, none⟩) 2 2)).alloc o).drew.heap[i]? = W10.heap[i]? := fun o i hi hl => by
      rw [heap_drew, Below.heap_alloc _ _ _ (by rw [size_set, size_set]; exact hl), Below.heap_setCell _ _ _ _ (by show i ≠ db; omega), Below.heap_setCell _ _ _ _ (by show i ≠ db; omega)]
    have hks : ∀ (o : Obj), W10.heap.size <= (((W10.setCell ⟨db, 3, none⟩ (.string ⟨h.1.toArray⟩)).setCell ⟨db, 4, none⟩ (.slice (some ⟨W10.heap.size, 0, none⟩) 2 2)).alloc o).drew.heap.size := fun o => by rw [heap_drew, World.size_alloc, size_set, size_set]; omega
    have hkr : ∀ (o : Obj), (((W10.setCell ⟨db, 3, none⟩ (.string ⟨h.1.toArray⟩)).setCell ⟨db, 4, none⟩ (.slice (some ⟨W10.heap.size, 0, none⟩) 2 2)).alloc o).drew.heap[W10.heap.size]? = some o := fun o => by
      have := heap_alloc_last ((W10.setCell ⟨db, 3, none⟩ (.string ⟨h.1.toArray⟩)).setCell ⟨db, 4, none⟩ (.slice (some ⟨W10.heap.size, 0, none⟩) 2 2)) o
      rw [size_set, size_set] at this
      exact this
    have HV11 := hideP (varsF_keep HV10.out (hks _) (hkp (.cells #[.int .i64 k1, .string nm1, .slice na1 nl1 nc1, .slice ka1 kl1 kc1, .int .i64 k2, .string nm2, .slice na2 nl2 nc2, .slice ka2 kl2 kc2] 44)))
    have HKi11 := hideP (kids2 (HT10.out.keep (hks _) (hkp _)) (HU10.out.keep (hks _) (hkp _)) (hkr (.cells #[.int .i64 k1, .string nm1, .slice na1 nl1 nc1, .slice ka1 kl1 kc1, .int .i64 k2, .string nm2, .slice na2 nl2 nc2, .slice ka2 kl2 kc2] 44)) (show db + 1 <= W10.heap.size from hcl))
    clear hkp hks hkr HV10 HT10 HU10 HB10 HC10 X10 p0 p1 p2 p3 hpl q0 q1 q2 q3 hql c0 c1 c2 c3 c4 c5 c6 c7 c8 c9 c10 c11 c12 c13 c14 z0 z1 z2 z3 z4 z5 z6 z7 z8 z9 z10 z11 z12 z13 z14 hcl hne9 hne10 hg10 hg9
    generalize (((W10.setCell ⟨db, 3, none⟩ (.string ⟨h.1.toArray⟩)).setCell ⟨db, 4, none⟩ (.slice (some ⟨W10.heap.size, 0, none⟩) 2 2)).alloc (.cells #[.int .i64 k1, .string nm1, .slice na1 nl1 nc1, .slice ka1 kl1 kc1, .int .i64 k2, .string nm2, .slice na2 nl2 nc2, .slice ka2 kl2 kc2] 44)).drew = W11 at X11 HV11 HKi11 ⊢
    generalize W10.heap.size = kb at X11 HKi11 ⊢
    obtain ⟨m, hki⟩ := HKi11.out
    have HKi := hideP hki
    clear hki HKi11
    go_wp2_with fail
    refine (must_c pb tb cap b7 0 ts [61] _ X11.out.ps OK.out).mono ?_
    intro e w12 hpost
    rcases ppost_or hpost with ⟨er, li, co, hr, rfl, hst⟩ | ⟨u12, b8, v12, hr, rfl, hst, hps, hv⟩
    · have HE : Hid (R = .inr (er, li, co)) := by rw [HR6.out, hr]; exact rfl
      have HF := hideP (X11.out.st.trans hst)
      clear hr hst hpost
      go_wp2_with fail
      exact ⟨rfl, HF.out, by rw [HE.out]⟩
    have HR7 : Hid (R = (deepA ts ts.length 101 false 0 b8).go fun x b => (wantA ts b [59]).go fun _ b => .inl (mkD s ex vs h.1 [h.2, y.1] x t.line t.col, b)) := by rw [HR6.out, hr]; exact rfl
    have X12 := hideP (X11.out.step hst hps)
    have HV12 := hideP (varsF_keep HV11.out hst.size fun i hi hl => hst.keep i (by have := X11.out.lo; omega) hl)
    have HK12 := hideP (kidsF_keep HKi.out hst.size fun i hi hl => hst.keep i (by have := X11.out.lo; omega) hl)
    clear hr hst hps hpost hv X11 HV11 HKi HR6
    go_wp2_with fail
    refine (deep_c pb tb cap ts OK.out 101 0 rfl (by omega) b8 _ X12.out.ps).1.mono ?_
    intro e w13 hpost
    rcases ppost_or hpost with ⟨er, li, co, hr, rfl, hst⟩ | ⟨B, b9, v13, hr, rfl, hst, hps, x, rfl, hv⟩
    · have HE : Hid (R = .inr (er, li, co)) := by rw [HR7.out, hr]; exact rfl
      have HF := hideP (X12.out.st.trans hst)
      clear hr hst hpost
      go_wp2_with fail
      exact ⟨rfl, HF.out, by rw [HE.out]⟩
    have HR8 : Hid (R = (wantA ts b9 [59]).go fun _ b => .inl (mkD s ex vs h.1 [h.2, y.1] B t.line t.col, b)) := by rw [HR7.out, hr]; exact rfl
    have X13 := hideP (X12.out.step hst hps)
    have HV13 := hideP (varsF_keep HV12.out hst.size fun i hi hl => hst.keep i (by have := X12.out.lo; omega) hl)
    have HK13 := hideP (kidsF_keep HK12.out hst.size fun i hi hl => hst.keep i (by have := X12.out.lo; omega) hl)
    have hd12 := lt_of_block X12.out.box
    have HN13 := hideP (hv.lower (show db + 1 <= w12.heap.size by omega))
    clear hr hst hps hpost hv X12 HV12 HK12 HR7 hd12
    obtain ⟨⟨c0, c1, c2, c3, c4, c5, c6, c7, c8, c9, c10, c11, c12, c13, c14⟩, ⟨z0, z1, z2, z3, z4, z5, z6, z7, z8, z9, z10, z11, z12, z13, z14⟩, hcl⟩ := box15 X13.out.box
    go_wp2_with fail
    have X14 : Hid (DecX pb tb cap 0 ts w ((((((((w13.setCell ⟨db, 5, none⟩ (.int .i64 x.k)).setCell ⟨db, 6, none⟩ (.string x.tx)).setCell ⟨db, 7, none⟩ (.int .i64 x.N)).setCell ⟨db, 8, none⟩ (.int .i64 x.li)).setCell ⟨db, 9, none⟩ (.int .i64 x.co)).setCell ⟨db, 10, none⟩ (.slice x.ta x.tl x.tc)).setCell ⟨db, 11, none⟩ (.slice x.na x.nl x.nc)).setCell ⟨db, 12, none⟩ (.slice x.ka x.kl x.kc)) b9 db [.string ⟨s.toArray⟩, .bool ex, .slice va vs.length vc, .string ⟨h.1.toArray⟩, .slice (some ⟨kb, 0, none⟩) 2 2, .int .i64 x.k, .string x.tx, .int .i64 x.N, .int .i64 x.li, .int .i64 x.co, .slice x.ta x.tl x.tc, .slice x.na x.nl x.nc, .slice x.ka x.kl x.kc, .int .i64 t.line, .int .i64 t.col]) := (((((((X13.out.set 5 _).set 6 _).set 7 _).set 8 _).set 9 _).set 10 _).set 11 _).set 12 _
    have HV14 : Hid (VarsF (db + 1) ((((((((w13.setCell ⟨db, 5, none⟩ (.int .i64 x.k)).setCell ⟨db, 6, none⟩ (.string x.tx)).setCell ⟨db, 7, none⟩ (.int .i64 x.N)).setCell ⟨db, 8, none⟩ (.int .i64 x.li)).setCell ⟨db, 9, none⟩ (.int .i64 x.co)).setCell ⟨db, 10, none⟩ (.slice x.ta x.tl x.tc)).setCell ⟨db, 11, none⟩ (.slice x.na x.nl x.nc)).setCell ⟨db, 12, none⟩ (.slice x.ka x.kl x.kc)) va vs) := varsF_keep HV13.out (node5_size w13 db x) fun i hi _ => node5_other w13 x (show i ≠ db by omega)
    have HK14 : Hid (KidsF ((((((((w13.setCell ⟨db, 5, none⟩ (.int .i64 x.k)).setCell ⟨db, 6, none⟩ (.string x.tx)).setCell ⟨db, 7, none⟩ (.int .i64 x.N)).setCell ⟨db, 8, none⟩ (.int .i64 x.li)).setCell ⟨db, 9, none⟩ (.int .i64 x.co)).setCell ⟨db, 10, none⟩ (.slice x.ta x.tl x.tc)).setCell ⟨db, 11, none⟩ (.slice x.na x.nl x.nc)).setCell ⟨db, 12, none⟩ (.slice x.ka x.kl x.kc)) (db + 1) m (some ⟨kb, 0, none⟩) [h.2, y.1]) := kidsF_keep HK13.out (node5_size w13 db x) fun i hi _ => node5_other w13 x (show i ≠ db by omega)
    have HN14 : Hid (NdV (db + 1) ((((((((w13.setCell ⟨db, 5, none⟩ (.int .i64 x.k)).setCell ⟨db, 6, none⟩ (.string x.tx)).setCell ⟨db, 7, none⟩ (.int .i64 x.N)).setCell ⟨db, 8, none⟩ (.int .i64 x.li)).setCell ⟨db, 9, none⟩ (.int .i64 x.co)).setCell ⟨db, 10, none⟩ (.slice x.ta x.tl x.tc)).setCell ⟨db, 11, none⟩ (.slice x.na x.nl x.nc)).setCell ⟨db, 12, none⟩ (.slice x.ka x.kl x.kc)) x B) := HN13.out.keep (node5_size w13 db x) fun i hi _ => node5_other w13 x (show i ≠ db by omega)
    clear c0 c1 c2 c3 c4 c5 c6 c7 c8 c9 c10 c11 c12 c13 c14 z0 z1 z2 z3 z4 z5 z6 z7 z8 z9 z10 z11 z12 z13 z14 hcl X13 HV13 HK13 HN13
    generalize (((((((w13.setCell ⟨db, 5, none⟩ (.int .i64 x.k)).setCell ⟨db, 6, none⟩ (.string x.tx)).setCell ⟨db, 7, none⟩ (.int .i64 x.N)).setCell ⟨db, 8, none⟩ (.int .i64 x.li)).setCell ⟨db, 9, none⟩ (.int .i64 x.co)).setCell ⟨db, 10, none⟩ (.slice x.ta x.tl x.tc)).setCell ⟨db, 11, none⟩ (.slice x.na x.nl x.nc)).setCell ⟨db, 12, none⟩ (.slice x.ka x.kl x.kc) = W14 at X14 HV14 HK14 HN14 ⊢
    refine (must_c pb tb cap b9 0 ts [59] _ X14.out.ps OK.out).mono ?_
    intro e w15 hpost
    rcases ppost_or hpost with ⟨er, li, co, hr, rfl, hst⟩ | ⟨u15, b10, v15, hr, rfl, hst, hps, hv⟩
    · have HE : Hid (R = .inr (er, li, co)) := by rw [HR8.out, hr]; exact rfl
      have HF := hideP (X14.out.st.trans hst)
      clear hr hst hpost
      go_wp2_with fail
      exact ⟨rfl, HF.out, by rw [HE.out]⟩
    have HR9 : Hid (R = .inl (mkD s ex vs h.1 [h.2, y.1] B t.line t.col, b10)) := by rw [HR8.out, hr]; exact rfl
    have X15 := hideP (X14.out.step hst hps)
    have HV15 := hideP (varsF_keep HV14.out hst.size fun i hi hl => hst.keep i (by have := X14.out.lo; omega) hl)
    have HK15 := hideP (kidsF_keep HK14.out hst.size fun i hi hl => hst.keep i (by have := X14.out.lo; omega) hl)
    have HN15 := hideP (HN14.out.stay hst (by have := X14.out.lo; omega))
    clear hr hst hps hpost hv X14 HV14 HK14 HN14 HR8
    obtain ⟨⟨c0, c1, c2, c3, c4, c5, c6, c7, c8, c9, c10, c11, c12, c13, c14⟩, _, hcl⟩ := box15 X15.out.box
    obtain ⟨⟨r0, r1, r2, r3, r4, r5, r6, r7, r8, r9, r10, r11, r12, r13, r14⟩, ⟨z0, z1, z2, z3, z4, z5, z6, z7, z8, z9, z10, z11, z12, z13, z14⟩, hrl⟩ := box15 X15.out.res
    have hne : ¬ db = w.heap.size := by have := X15.out.lo; omega
    go_wp2_with fail
    rw [HR9.out]
    refine bodyPost_ret (results_cell_row rfl _ _ w.heap.size 40 _ (0, 0) _ rfl (put15_heap X15.out.res _ _ _ _ _ _ _ _ _ _ _ _ _ _ _) underlying40 rfl (by kernel_rfl)) rfl ⟨stay_put15 X15.out.st hp (Nat.le_refl _) _ _ _ _ _ _ _ _ _ _ _ _ _ _ _, ps_put15 X15.out.ps hp _ _ _ _ _ _ _ _ _ _ _ _ _ _ _, _, rfl, [_, _, _, _, _, _, _, _, _, _, _, _, _, _, _], rfl, s, ex, vs, va, vc, h.1, some ⟨kb, 0, none⟩, 2, [h.2, y.1], x, B, t.line, t.col, m, rfl, rfl, HVl.out, rfl, ?_, ?_, ?_⟩
    · exact varsF_lower (varsF_keep HV15.out (Nat.le_of_eq (put15_size _ _ _ _ _ _ _ _ _ _ _ _ _ _ _).symm) fun i hi _ => put15_other (by have := X15.out.lo; omega) _ _ _ _ _ _ _ _ _ _ _ _ _ _ _) (by have := X15.out.lo; omega)
    · exact kidsF_lower (kidsF_keep HK15.out (Nat.le_of_eq (put15_size _ _ _ _ _ _ _ _ _ _ _ _ _ _ _).symm) fun i hi _ => put15_other (by have := X15.out.lo; omega) _ _ _ _ _ _ _ _ _ _ _ _ _ _ _) (by have := X15.out.lo; omega)
    · exact (HN15.out.keep (Nat.le_of_eq (put15_size _ _ _ _ _ _ _ _ _ _ _ _ _ _ _).symm) fun i hi _ => put15_other (by have := X15.out.lo; omega) _ _ _ _ _ _ _ _ _ _ _ _ _ _ _).lower (by have := X15.out.lo; omega)
end Go.Proofs.YtlhmofphpfdjlaaGreatDoor
