/- Part. -/
import Derived.Test.YtbnjllkkhhkkaaaGreatDoorPart15
set_option maxRecDepth 100000
set_option maxHeartbeats 4000000
namespace Go.Proofs.YtbnjllkkhhkkaaaGreatDoor
open Tryz
open Go.RowKit
attribute [local go_sem ↓] Go.wp_at_zero Go.wp_at_succ
abbrev dO (nm : ByteArray) (ex : Bool) (vs : Value) (pm : ByteArray) (tys : Value) (x : NV) (li co : Nat) : Obj :=
 .cells #[.string nm, .bool ex, vs, .string pm, tys, .int .i64 x.k, .string x.tx, .int .i64 x.N, .int .i64 x.li, .int .i64 x.co, .slice x.ta x.tl x.tc, .slice x.na x.nl x.nc, .slice x.ka x.kl x.kc, .int .i64 li, .int .i64 co] 52
abbrev zDec : Obj := .cells #[.string ⟨#[]⟩, .bool false, .slice none 0 0, .string ⟨#[]⟩, .slice none 0 0, .int .i64 0, .string ⟨#[]⟩, .int .i64 0, .int .i64 0, .int .i64 0, .slice none 0 0, .slice none 0 0, .slice none 0 0, .int .i64 0, .int .i64 0] 52
structure Vs (pb tb cap d : Nat) (ts : List Tok) (w0 w : World) (b db : Nat) (cs : List Value) : Prop where
 st : Zj pb w0 w
 ps : Ps w pb tb cap ts b d
 hp : pb < w0.heap.size
 lo : w0.heap.size + 1 ≤ db
 res : w.heap[w0.heap.size]? = some zDec
 box : w.heap[db]? = some (.cells cs.toArray 52)
section
variable {pb tb cap d b b' db : Nat} {ts : List Tok} {w0 w w' : World} {cs : List Value}
theorem Vs.step (h : Vs pb tb cap d ts w0 w b db cs) (hst : Zj pb w w') (hps : Ps w' pb tb cap ts b' d) : Vs pb tb cap d ts w0 w' b' db cs where
 st := h.st.trans hst
 ps := hps
 hp := h.hp
 lo := h.lo
 res := (hst.keep _ h.hp (xB h.res)).trans h.res
 box := (hst.keep _ (by have := h.hp; have := h.lo; omega) (xB h.box)).trans h.box
theorem Vs.alloc (h : Vs pb tb cap d ts w0 w b db cs) (o : Obj) : Vs pb tb cap d ts w0 (w.alloc o) b db cs := h.step (Zj.of h.ps.ltp (Zl _ _)) (h.ps.alloc _)
theorem Vs.drew (h : Vs pb tb cap d ts w0 w b db cs) : Vs pb tb cap d ts w0 w.drew b db cs := ⟨h.st.drew, h.ps.drew, h.hp, h.lo, h.res, h.box⟩
theorem Vs.set (h : Vs pb tb cap d ts w0 w b db cs) (o : Nat) (u : Value) : Vs pb tb cap d ts w0 (w.setCell ⟨db, o, none⟩ u) b db (cs.set o u) where
 st := h.st.own h.hp (by have := h.lo; omega) o u
 ps := h.ps.other (by have := h.hp; have := h.lo; omega) o u
 hp := h.hp
 lo := h.lo
 res := (xH (by show w0.heap.size ≠ db; have := h.lo; omega)).trans h.res
 box := by
  have h1 := Z9 (o := o) (u := u) h.box
  simpa using h1
end
def Qp (lo : Nat) (w : World) (c : List Value) (D : Ty) : Prop := ∃ (s : List UInt8) (ex : Bool) (vs : List (List UInt8 × Ty)) (va : Option Addr) (vc : Nat) (pm : List UInt8) (ta : Option Addr) (tc : Nat) (tys : List Ty) (x : NV) (B : Ty) (li co m : Nat),
 c = [.string ⟨s.toArray⟩, .bool ex, .slice va vs.length vc, .string ⟨pm.toArray⟩, .slice ta 2 tc, .int .i64 x.k, .string x.tx, .int .i64 x.N, .int .i64 x.li, .int .i64 x.co, .slice x.ta x.tl x.tc, .slice x.na x.nl x.nc, .slice x.ka x.kl x.kc, .int .i64 li, .int .i64 co] ∧
 D = Vq s ex vs pm tys B li co ∧ vs.length ≤ 8193 ∧ tys.length = 2 ∧ U1 lo w va vs ∧ Xw w lo m ta tys ∧ Zv lo w x B
def DecE (lo : Nat) (w : World) (v : Value) (D : Ty) : Prop := ∃ c : List Value, v = .agg c.toArray ∧ Qp lo w c D
theorem F4 {lo g : Nat} {w : World} {a0 a1 a2 a3 e0 e1 e2 e3 : Value} {D1 D2 : Ty} {ty : TypeId} (h1 : Zt lo w (.agg #[a0, a1, a2, a3]) D1) (h2 : Zt lo w (.agg #[e0, e1, e2, e3]) D2) (hg : w.heap[g]? = some (.cells #[a0, a1, a2, a3, e0, e1, e2, e3] ty)) (hl : lo ≤ g) : ∃ m, Xw w lo m (some ⟨g, 0, none⟩) [D1, D2] := by
 obtain ⟨m1, h1⟩ := h1
 obtain ⟨m2, h2⟩ := h2
 refine ⟨max m1 m2, .inr ⟨g, 0, rfl, hl, ⟨_, _, hg⟩, fun i hi => ?_⟩⟩
 match i, hi with
 | 0, _ => exact ⟨a0, a1, a2, a3, by rw [cell_of_row _ _ _ _ _ _ hg]; rfl, by rw [cell_of_row _ _ _ _ _ _ hg]; rfl, by rw [cell_of_row _ _ _ _ _ _ hg]; rfl, by rw [cell_of_row _ _ _ _ _ _ hg]; rfl, Pw h1 (Nat.le_max_left _ _)⟩
 | 1, _ => exact ⟨e0, e1, e2, e3, by rw [cell_of_row _ _ _ _ _ _ hg]; rfl, by rw [cell_of_row _ _ _ _ _ _ hg]; rfl, by rw [cell_of_row _ _ _ _ _ _ hg]; rfl, by rw [cell_of_row _ _ _ _ _ _ hg]; rfl, Pw h2 (Nat.le_max_right _ _)⟩
abbrev Ju (w : World) (b : Nat) (x : NV) : World := (((((((w.setCell ⟨b, 5, none⟩ (.int .i64 x.k)).setCell ⟨b, 6, none⟩ (.string x.tx)).setCell ⟨b, 7, none⟩ (.int .i64 x.N)).setCell ⟨b, 8, none⟩ (.int .i64 x.li)).setCell ⟨b, 9, none⟩ (.int .i64 x.co)).setCell ⟨b, 10, none⟩ (.slice x.ta x.tl x.tc)).setCell ⟨b, 11, none⟩ (.slice x.na x.nl x.nc)).setCell ⟨b, 12, none⟩ (.slice x.ka x.kl x.kc)
theorem Nv (w : World) (b : Nat) (x : NV) : w.heap.size ≤ (Ju w b x).heap.size := by simp only [Zw]; exact xR
theorem Bk (w : World) {b i : Nat} (x : NV) (hi : i ≠ b) : (Ju w b x).heap[i]? = w.heap[i]? := by
 unfold Ju
 rw [xH hi, xH hi, xH hi, xH hi, xH hi, xH hi, xH hi, xH hi]
theorem O8 {pb tb cap d : Nat} {ts : List Tok} {K : Nat → Pr Ty} (hK : Yg pb tb cap d ts Zt 30 K) (ok : Z0 ts) : Yg pb tb cap d ts VarE 145 (Qa ts K) where
 calls := fun a w h => zfw pb tb cap d ts K hK ok a w h
 enters := fun w => V8 func145 (by kernel_rfl) (by kernel_rfl) _ w
 up := fun a x b h => by
  unfold Qa at h
  cases hn : Zm ts a with
  | inr e => rw [hn] at h; cases h
  | inl p =>
   obtain ⟨s, c⟩ := p
   have := Pb hn
   rw [hn] at h
   replace h : (if Zc ts c [60, 58] then (K (c + 1)).go fun t b => .inl ((s, t), b) else .inl ((s, Z6 0 [] [] []), c)) = .inl (x, b) := h
   split at h
   ·cases hk : K (c + 1) with
    | inr e => rw [hk] at h; cases h
    | inl q =>
     have h2 := hK.up _ _ _ hk
     rw [hk] at h
     injection h with h
     injection h with _ h
     omega
   ·injection h with h
    injection h with _ h
    omega
theorem decl_c (pb tb cap : Nat) (ts : List Tok) (ok : Z0 ts) (a : Nat) (w : World) (h : Ps w pb tb cap ts a 0) :
  Calls prog 85 #[.pointer (some ⟨pb, 0, none⟩)] w (Zs pb tb cap ts 0 w DecE (Qy ts a)) := by
 have H := Za h
 have OK := Za ok
 have hp := h.ltp
 have HK1 := Za (Gz pb tb cap 0 ts ok (xZ _))
 have C0 := Za (Xa h zDec)
 obtain ⟨R, hR⟩ : ∃ R : Pr Ty, R = (Qy ts a) := ⟨_, rfl⟩
 rw [← hR]
 rw [Ga] at hR
 obtain ⟨ex, hex⟩ := xE (Zc ts a [101, 120, 112, 111, 114, 116])
 have HTk := Za (fun wx hx => Xb pb tb cap a 0 ts [101, 120, 112, 111, 114, 116] wx hx ok)
 rw [← hex] at hR HTk
 generalize (if ex = true then a + 1 else a) = a1 at hR HTk
 obtain ⟨K, hK⟩ := xE (Yk ts ts.length 101 0)
 rw [← hK] at hR HK1
 have HVr := Za (O8 HK1.o ok)
 clear hK hex
 have HR0 := Za hR
 clear h ok hR
 go_enter func85, ntmps85
 go_wp2_with fail
 refine (HTk.o _ C0.o.ps).mono ?_
 rintro e w1 ⟨rfl, hst, hps⟩
 have C1 := Za (C0.o.step hst hps)
 clear hst hps
 go_wp2_with fail
 have X1 : xQ (Vs pb tb cap 0 ts w (w1.alloc (dO ⟨#[]⟩ ex (.slice none 0 0) ⟨#[]⟩ (.slice none 0 0) Ze 0 0)) a1 w1.heap.size [.string ⟨#[]⟩, .bool ex, .slice none 0 0, .string ⟨#[]⟩, .slice none 0 0, .int .i64 0, .string ⟨#[]⟩, .int .i64 0, .int .i64 0, .int .i64 0, .slice none 0 0, .slice none 0 0, .slice none 0 0, .int .i64 0, .int .i64 0]) :=
  ⟨(C1.o.alloc _).st, (C1.o.alloc _).ps, hp, C1.o.sz, (C1.o.alloc _).b1, (C1.o.alloc _).b0⟩
 obtain ⟨db, hdb⟩ := xE w1.heap.size
 rw [← hdb] at X1 ⊢
 refine (Y6 pb tb cap a1 0 ts [102, 110] _ X1.o.ps OK.o).mono ?_
 intro e w2 zhm
 rcases Zy zhm with ⟨er, li, co, hr, rfl, hst⟩ | ⟨u, b2, v, hr, rfl, hst, hps, hv⟩
 ·have HE : xQ (R = .inr (er, li, co)) := by rw [HR0.o, hr]; exact rfl
  have HF := Za (X1.o.st.trans hst)
  clear hr hst zhm
  go_wp2_with fail
  exact ⟨rfl, HF.o, by rw [HE.o]⟩
 obtain ⟨t, ht⟩ := xE (Zg ts a1)
 have HR1 : xQ (R = (Zm ts b2).go fun s b => (M0 ts K ts.length b).go fun vs b => (Ue ts K b).go fun h b => (Y2 ts K [58] b).go fun y b => (Zb ts b [61]).go fun _ b => (Yw ts ts.length 101 false 0 b).go fun x b => (Zb ts b [59]).go fun _ b => .inl (Vq s ex vs h.1 [h.2, y.1] x t.line t.col, b)) := by rw [HR0.o, hr, ht]; exact rfl
 rw [← ht] at hv
 subst hv
 have X2 := Za ((X1.o.step hst hps).alloc (Zk t))
 have HTb : xQ ((w2.alloc (Zk t)).heap[w2.heap.size]? = some (Zk t)) := xL _ _
 have HDl : xQ (db < w2.heap.size) := xB (X1.o.step hst hps).box
 clear hr hst hps zhm ht X1 HTk C0 C1 HR0 hdb
 obtain ⟨⟨k0, k1, k2, k3⟩, _, hkl⟩ := Zr HTb.o
 obtain ⟨⟨c0, c1, c2, c3, c4, c5, c6, c7, c8, c9, c10, c11, c12, c13, c14⟩, ⟨z0, z1, z2, z3, z4, z5, z6, z7, z8, z9, z10, z11, z12, z13, z14⟩, hcl⟩ := Tn X2.o.box
 have hne : ¬ w2.heap.size = db := by have := HDl.o; omega
 go_wp2_with fail
 go_region
 have X3 : xQ (Vs pb tb cap 0 ts w (((w2.alloc (Zk t)).setCell ⟨db, 13, none⟩ (.int .i64 t.line)).setCell ⟨db, 14, none⟩ (.int .i64 t.col)).drew b2 db [.string ⟨#[]⟩, .bool ex, .slice none 0 0, .string ⟨#[]⟩, .slice none 0 0, .int .i64 0, .string ⟨#[]⟩, .int .i64 0, .int .i64 0, .int .i64 0, .slice none 0 0, .slice none 0 0, .slice none 0 0, .int .i64 t.line, .int .i64 t.col]) := ((X2.o.set 13 _).set 14 _).drew
 clear k0 k1 k2 k3 hkl c0 c1 c2 c3 c4 c5 c6 c7 c8 c9 c10 c11 c12 c13 c14 z0 z1 z2 z3 z4 z5 z6 z7 z8 z9 z10 z11 z12 z13 z14 hcl hne X2 HTb
 generalize (((w2.alloc (Zk t)).setCell ⟨db, 13, none⟩ (.int .i64 t.line)).setCell ⟨db, 14, none⟩ (.int .i64 t.col)).drew = W3 at X3 ⊢
 generalize w2.heap.size = tb2 at HDl ⊢
 go_wp2_with fail
 refine (Ts pb tb cap b2 0 ts _ X3.o.ps OK.o).mono ?_
 intro e w3 zhm
 rcases Zy zhm with ⟨er, li, co, hr, rfl, hst⟩ | ⟨s, b3, v, hr, rfl, hst, hps, hv⟩
 ·have HE : xQ (R = .inr (er, li, co)) := by rw [HR1.o, hr]; exact rfl
  have HF := Za (X3.o.st.trans hst)
  clear hr hst zhm
  go_wp2_with fail
  exact ⟨rfl, HF.o, by rw [HE.o]⟩
 have HR2 : xQ (R = (M0 ts K ts.length b3).go fun vs b => (Ue ts K b).go fun h b => (Y2 ts K [58] b).go fun y b => (Zb ts b [61]).go fun _ b => (Yw ts ts.length 101 false 0 b).go fun x b => (Zb ts b [59]).go fun _ b => .inl (Vq s ex vs h.1 [h.2, y.1] x t.line t.col, b)) := by rw [HR1.o, hr]; exact rfl
 subst hv
 have X4 := Za (X3.o.step hst hps)
 clear hr hst hps zhm X3
 obtain ⟨⟨c0, c1, c2, c3, c4, c5, c6, c7, c8, c9, c10, c11, c12, c13, c14⟩, ⟨z0, z1, z2, z3, z4, z5, z6, z7, z8, z9, z10, z11, z12, z13, z14⟩, hcl⟩ := Tn X4.o.box
 go_wp2_with fail
 have X5 : xQ (Vs pb tb cap 0 ts w (w3.setCell ⟨db, 0, none⟩ (.string ⟨s.toArray⟩)) b3 db [.string ⟨s.toArray⟩, .bool ex, .slice none 0 0, .string ⟨#[]⟩, .slice none 0 0, .int .i64 0, .string ⟨#[]⟩, .int .i64 0, .int .i64 0, .int .i64 0, .slice none 0 0, .slice none 0 0, .slice none 0 0, .int .i64 t.line, .int .i64 t.col]) := X4.o.set 0 _
 clear c0 c1 c2 c3 c4 c5 c6 c7 c8 c9 c10 c11 c12 c13 c14 z0 z1 z2 z3 z4 z5 z6 z7 z8 z9 z10 z11 z12 z13 z14 hcl X4
 generalize w3.setCell ⟨db, 0, none⟩ (.string ⟨s.toArray⟩) = W5 at X5 ⊢
 have HT := Za (Xb pb tb cap b3 0 ts [91] _ X5.o.ps OK.o)
 obtain ⟨f, hf⟩ : ∃ f, ts.length = f + 1 := ⟨ts.length - 1, by have := OK.o.pos; omega⟩
 cases hs : Zc ts b3 [91] with
 | false =>
  rw [hs, if_neg (by simp)] at HT
  have HR4 : xQ (R = (Ue ts K b3).go fun h b => (Y2 ts K [58] b).go fun y b => (Zb ts b [61]).go fun _ b => (Yw ts ts.length 101 false 0 b).go fun x b => (Zb ts b [59]).go fun _ b => .inl (Vq s ex [] h.1 [h.2, y.1] x t.line t.col, b)) := by rw [HR2.o, M0, if_neg (by simp [hs])]; exact rfl
  clear hs
  refine (HT.o).mono ?_
  rintro e w6 ⟨rfl, hst, hps⟩
  have X8 := Za (X5.o.step hst hps)
  clear hst hps HT X5 HR2 HR1
  have HVf : xQ (U1 (db + 1) w6 none []) := .inl rfl
  have HVl : xQ (([] : List (List UInt8 × Ty)).length ≤ 8193) := xZ _
  go_wp2_with fail
  refine (Hg pb tb cap 0 ts K HK1.o OK.o b3 _ X8.o.ps).mono ?_
  intro e w9 zhm
  rcases Zy zhm with ⟨er, li, co, hr, rfl, hst⟩ | ⟨h, b6, v, hr, rfl, hst, hps, hv⟩
  ·have HE : xQ (R = .inr (er, li, co)) := by rw [HR4.o, hr]; exact rfl
   have HF := Za (X8.o.st.trans hst)
   clear hr hst zhm
   go_wp2_with fail
   exact ⟨rfl, HF.o, by rw [HE.o]⟩
  have HR5 : xQ (R = (Y2 ts K [58] b6).go fun y b => (Zb ts b [61]).go fun _ b => (Yw ts ts.length 101 false 0 b).go fun x b => (Zb ts b [59]).go fun _ b => .inl (Vq s ex [] h.1 [h.2, y.1] x t.line t.col, b)) := by rw [HR4.o, hr]; exact rfl
  obtain ⟨u9, rfl, hv⟩ := hv
  obtain ⟨k1, nm1, na1, nl1, nc1, ka1, kl1, kc1, rfl⟩ := hv.cells
  have hd8 := xB X8.o.box
  have hd9 := hst.size
  have HT9 := Za ((hv.lower (show db + 1 ≤ w6.heap.size by omega)).alloc (Zq k1 nm1 na1 nl1 nc1 ka1 kl1 kc1))
  have HV9 : xQ (U1 (db + 1) (w9.alloc (Zq k1 nm1 na1 nl1 nc1 ka1 kl1 kc1)) none []) := Wu (Wu HVf.o hst.size fun i hi hl => hst.keep i (by have := X8.o.lo; omega) hl) (by simp) fun i _ hl => xA hl
  have X9 := Za ((X8.o.step hst hps).alloc (Zq k1 nm1 na1 nl1 nc1 ka1 kl1 kc1))
  have HB9 : xQ ((w9.alloc (Zq k1 nm1 na1 nl1 nc1 ka1 kl1 kc1)).heap[w9.heap.size]? = some (Zq k1 nm1 na1 nl1 nc1 ka1 kl1 kc1)) := xL _ _
  have hg9 : db < w9.heap.size := by omega
  clear hr hst hps zhm hv X8 HVf HR4 hd8 hd9
  go_wp2_with fail
  generalize w9.alloc (Zq k1 nm1 na1 nl1 nc1 ka1 kl1 kc1) = W9 at HT9 HV9 X9 HB9 ⊢
  generalize w9.heap.size = tb9 at HB9 hg9 ⊢
  refine (Nw pb tb cap 0 ts [58] K HK1.o OK.o b6 _ X9.o.ps).mono ?_
  intro e w10 zhm
  rcases Zy zhm with ⟨er, li, co, hr, rfl, hst⟩ | ⟨y, b7, v, hr, rfl, hst, hps, hv⟩
  ·have HE : xQ (R = .inr (er, li, co)) := by rw [HR5.o, hr]; exact rfl
   have HF := Za (X9.o.st.trans hst)
   clear hr hst zhm
   go_wp2_with fail
   exact ⟨rfl, HF.o, by rw [HE.o]⟩
  have HR6 : xQ (R = (Zb ts b7 [61]).go fun _ b => (Yw ts ts.length 101 false 0 b).go fun x b => (Zb ts b [59]).go fun _ b => .inl (Vq s ex [] h.1 [h.2, y.1] x t.line t.col, b)) := by rw [HR5.o, hr]; exact rfl
  obtain ⟨u10, rfl, hv⟩ := hv
  obtain ⟨k2, nm2, na2, nl2, nc2, ka2, kl2, kc2, rfl⟩ := hv.cells
  have hd9 := xB X9.o.box
  have ht9 := xB HB9.o
  have hd10 := hst.size
  have HU10 := Za ((hv.lower (show db + 1 ≤ W9.heap.size by omega)).alloc (Zq k2 nm2 na2 nl2 nc2 ka2 kl2 kc2))
  have HT10 := Za ((HT9.o.stay hst (by have := X9.o.lo; omega)).alloc (Zq k2 nm2 na2 nl2 nc2 ka2 kl2 kc2))
  have HV10 : xQ (U1 (db + 1) (w10.alloc (Zq k2 nm2 na2 nl2 nc2 ka2 kl2 kc2)) none []) := Wu (Wu HV9.o hst.size fun i hi hl => hst.keep i (by have := X9.o.lo; omega) hl) (by simp) fun i _ hl => xA hl
  have HB10 : xQ ((w10.alloc (Zq k2 nm2 na2 nl2 nc2 ka2 kl2 kc2)).heap[tb9]? = some (Zq k1 nm1 na1 nl1 nc1 ka1 kl1 kc1)) := (xA (by omega)).trans ((hst.keep tb9 (by have := X9.o.lo; omega) ht9).trans HB9.o)
  have HC10 : xQ ((w10.alloc (Zq k2 nm2 na2 nl2 nc2 ka2 kl2 kc2)).heap[w10.heap.size]? = some (Zq k2 nm2 na2 nl2 nc2 ka2 kl2 kc2)) := xL _ _
  have X10 := Za ((X9.o.step hst hps).alloc (Zq k2 nm2 na2 nl2 nc2 ka2 kl2 kc2))
  have hg10 : db < w10.heap.size := by omega
  clear hr hst hps zhm hv X9 HV9 HR5 hd9 hd10 HT9 HB9
  obtain ⟨⟨p0, p1, p2, p3⟩, _, hpl⟩ := Zr HB10.o
  obtain ⟨⟨q0, q1, q2, q3⟩, _, hql⟩ := Zr HC10.o
  obtain ⟨⟨c0, c1, c2, c3, c4, c5, c6, c7, c8, c9, c10, c11, c12, c13, c14⟩, ⟨z0, z1, z2, z3, z4, z5, z6, z7, z8, z9, z10, z11, z12, z13, z14⟩, hcl⟩ := Tn X10.o.box
  have hne9 : ¬ tb9 = db := by omega
  have hne10 : ¬ w10.heap.size = db := by omega
  go_wp2_with fail
  clear p0 p1 p2 p3 hpl q0 q1 q2 q3 hql c0 c1 c2 c3 c4 c5 c6 c7 c8 c9 c10 c11 c12 c13 c14 z0 z1 z2 z3 z4 z5 z6 z7 z8 z9 z10 z11 z12 z13 z14 hcl
  generalize w10.alloc (Zq k2 nm2 na2 nl2 nc2 ka2 kl2 kc2) = W10 at HU10 HT10 HV10 HB10 HC10 X10 ⊢
  generalize w10.heap.size = tb10 at HC10 hg10 hne10 ⊢
  obtain ⟨⟨p0, p1, p2, p3⟩, _, hpl⟩ := Zr HB10.o
  obtain ⟨⟨q0, q1, q2, q3⟩, _, hql⟩ := Zr HC10.o
  obtain ⟨⟨c0, c1, c2, c3, c4, c5, c6, c7, c8, c9, c10, c11, c12, c13, c14⟩, ⟨z0, z1, z2, z3, z4, z5, z6, z7, z8, z9, z10, z11, z12, z13, z14⟩, hcl⟩ := Tn X10.o.box
  go_region
  have X11 : xQ (Vs pb tb cap 0 ts w (((W10.setCell ⟨db, 3, none⟩ (.string ⟨h.1.toArray⟩)).setCell ⟨db, 4, none⟩ (.slice (some ⟨W10.heap.size, 0, none⟩) 2 2)).alloc (.cells #[.int .i64 k1, .string nm1, .slice na1 nl1 nc1, .slice ka1 kl1 kc1, .int .i64 k2, .string nm2, .slice na2 nl2 nc2, .slice ka2 kl2 kc2] 36)).drew b7 db [.string ⟨s.toArray⟩, .bool ex, .slice none 0 0, .string ⟨h.1.toArray⟩, .slice (some ⟨W10.heap.size, 0, none⟩) 2 2, .int .i64 0, .string ⟨#[]⟩, .int .i64 0, .int .i64 0, .int .i64 0, .slice none 0 0, .slice none 0 0, .slice none 0 0, .int .i64 t.line, .int .i64 t.col]) := (((X10.o.set 3 _).set 4 _).alloc _).drew
  have hkp : ∀ (o : Obj) i, db + 1 ≤ i → i < W10.heap.size → (((W10.setCell ⟨db, 3, none⟩ (.string ⟨h.1.toArray⟩)).setCell ⟨db, 4, none⟩ (.slice (some ⟨W10.heap.size, 0, none⟩) 2 2)).alloc o).drew.heap[i]? = W10.heap[i]? := fun o i hi hl => by
   rw [T4, xA (by rw [Zw, Zw]; exact hl), xH (by show i ≠ db; omega), xH (by show i ≠ db; omega)]
  have hks : ∀ (o : Obj), W10.heap.size ≤ (((W10.setCell ⟨db, 3, none⟩ (.string ⟨h.1.toArray⟩)).setCell ⟨db, 4, none⟩ (.slice (some ⟨W10.heap.size, 0, none⟩) 2 2)).alloc o).drew.heap.size := fun o => by rw [T4, xS, Zw, Zw]; omega
  have hkr : ∀ (o : Obj), (((W10.setCell ⟨db, 3, none⟩ (.string ⟨h.1.toArray⟩)).setCell ⟨db, 4, none⟩ (.slice (some ⟨W10.heap.size, 0, none⟩) 2 2)).alloc o).drew.heap[W10.heap.size]? = some o := fun o => by
   have := xL ((W10.setCell ⟨db, 3, none⟩ (.string ⟨h.1.toArray⟩)).setCell ⟨db, 4, none⟩ (.slice (some ⟨W10.heap.size, 0, none⟩) 2 2)) o
   rw [Zw, Zw] at this
   exact this
  have HV11 := Za (Wu HV10.o (hks _) (hkp (.cells #[.int .i64 k1, .string nm1, .slice na1 nl1 nc1, .slice ka1 kl1 kc1, .int .i64 k2, .string nm2, .slice na2 nl2 nc2, .slice ka2 kl2 kc2] 36)))
  have zhw := Za (F4 (HT10.o.keep (hks _) (hkp _)) (HU10.o.keep (hks _) (hkp _)) (hkr (.cells #[.int .i64 k1, .string nm1, .slice na1 nl1 nc1, .slice ka1 kl1 kc1, .int .i64 k2, .string nm2, .slice na2 nl2 nc2, .slice ka2 kl2 kc2] 36)) (show db + 1 ≤ W10.heap.size from hcl))
  clear hkp hks hkr HV10 HT10 HU10 HB10 HC10 X10 p0 p1 p2 p3 hpl q0 q1 q2 q3 hql c0 c1 c2 c3 c4 c5 c6 c7 c8 c9 c10 c11 c12 c13 c14 z0 z1 z2 z3 z4 z5 z6 z7 z8 z9 z10 z11 z12 z13 z14 hcl hne9 hne10 hg10 hg9
  generalize (((W10.setCell ⟨db, 3, none⟩ (.string ⟨h.1.toArray⟩)).setCell ⟨db, 4, none⟩ (.slice (some ⟨W10.heap.size, 0, none⟩) 2 2)).alloc (.cells #[.int .i64 k1, .string nm1, .slice na1 nl1 nc1, .slice ka1 kl1 kc1, .int .i64 k2, .string nm2, .slice na2 nl2 nc2, .slice ka2 kl2 kc2] 36)).drew = W11 at X11 HV11 zhw ⊢
  generalize W10.heap.size = kb at X11 zhw ⊢
  obtain ⟨m, hki⟩ := zhw.o
  have HKi := Za hki
  clear hki zhw
  go_wp2_with fail
  refine (Y6 pb tb cap b7 0 ts [61] _ X11.o.ps OK.o).mono ?_
  intro e w12 zhm
  rcases Zy zhm with ⟨er, li, co, hr, rfl, hst⟩ | ⟨u12, b8, v12, hr, rfl, hst, hps, hv⟩
  ·have HE : xQ (R = .inr (er, li, co)) := by rw [HR6.o, hr]; exact rfl
   have HF := Za (X11.o.st.trans hst)
   clear hr hst zhm
   go_wp2_with fail
   exact ⟨rfl, HF.o, by rw [HE.o]⟩
  have HR7 : xQ (R = (Yw ts ts.length 101 false 0 b8).go fun x b => (Zb ts b [59]).go fun _ b => .inl (Vq s ex [] h.1 [h.2, y.1] x t.line t.col, b)) := by rw [HR6.o, hr]; exact rfl
  have X12 := Za (X11.o.step hst hps)
  have HV12 := Za (Wu HV11.o hst.size fun i hi hl => hst.keep i (by have := X11.o.lo; omega) hl)
  have HK12 := Za (Vv HKi.o hst.size fun i hi hl => hst.keep i (by have := X11.o.lo; omega) hl)
  clear hr hst hps zhm hv X11 HV11 HKi HR6
  go_wp2_with fail
  refine (Bz pb tb cap ts OK.o 101 0 rfl (by omega) b8 _ X12.o.ps).1.mono ?_
  intro e w13 zhm
  rcases Zy zhm with ⟨er, li, co, hr, rfl, hst⟩ | ⟨B, b9, v13, hr, rfl, hst, hps, x, rfl, hv⟩
  ·have HE : xQ (R = .inr (er, li, co)) := by rw [HR7.o, hr]; exact rfl
   have HF := Za (X12.o.st.trans hst)
   clear hr hst zhm
   go_wp2_with fail
   exact ⟨rfl, HF.o, by rw [HE.o]⟩
  have HR8 : xQ (R = (Zb ts b9 [59]).go fun _ b => .inl (Vq s ex [] h.1 [h.2, y.1] B t.line t.col, b)) := by rw [HR7.o, hr]; exact rfl
  have X13 := Za (X12.o.step hst hps)
  have HV13 := Za (Wu HV12.o hst.size fun i hi hl => hst.keep i (by have := X12.o.lo; omega) hl)
  have HK13 := Za (Vv HK12.o hst.size fun i hi hl => hst.keep i (by have := X12.o.lo; omega) hl)
  have hd12 := xB X12.o.box
  have HN13 := Za (hv.lower (show db + 1 ≤ w12.heap.size by omega))
  clear hr hst hps zhm hv X12 HV12 HK12 HR7 hd12
  obtain ⟨⟨c0, c1, c2, c3, c4, c5, c6, c7, c8, c9, c10, c11, c12, c13, c14⟩, ⟨z0, z1, z2, z3, z4, z5, z6, z7, z8, z9, z10, z11, z12, z13, z14⟩, hcl⟩ := Tn X13.o.box
  go_wp2_with fail
  have X14 : xQ (Vs pb tb cap 0 ts w ((((((((w13.setCell ⟨db, 5, none⟩ (.int .i64 x.k)).setCell ⟨db, 6, none⟩ (.string x.tx)).setCell ⟨db, 7, none⟩ (.int .i64 x.N)).setCell ⟨db, 8, none⟩ (.int .i64 x.li)).setCell ⟨db, 9, none⟩ (.int .i64 x.co)).setCell ⟨db, 10, none⟩ (.slice x.ta x.tl x.tc)).setCell ⟨db, 11, none⟩ (.slice x.na x.nl x.nc)).setCell ⟨db, 12, none⟩ (.slice x.ka x.kl x.kc)) b9 db [.string ⟨s.toArray⟩, .bool ex, .slice none 0 0, .string ⟨h.1.toArray⟩, .slice (some ⟨kb, 0, none⟩) 2 2, .int .i64 x.k, .string x.tx, .int .i64 x.N, .int .i64 x.li, .int .i64 x.co, .slice x.ta x.tl x.tc, .slice x.na x.nl x.nc, .slice x.ka x.kl x.kc, .int .i64 t.line, .int .i64 t.col]) := (((((((X13.o.set 5 _).set 6 _).set 7 _).set 8 _).set 9 _).set 10 _).set 11 _).set 12 _
  have HV14 : xQ (U1 (db + 1) ((((((((w13.setCell ⟨db, 5, none⟩ (.int .i64 x.k)).setCell ⟨db, 6, none⟩ (.string x.tx)).setCell ⟨db, 7, none⟩ (.int .i64 x.N)).setCell ⟨db, 8, none⟩ (.int .i64 x.li)).setCell ⟨db, 9, none⟩ (.int .i64 x.co)).setCell ⟨db, 10, none⟩ (.slice x.ta x.tl x.tc)).setCell ⟨db, 11, none⟩ (.slice x.na x.nl x.nc)).setCell ⟨db, 12, none⟩ (.slice x.ka x.kl x.kc)) none []) := Wu HV13.o (Nv w13 db x) fun i hi _ => Bk w13 x (show i ≠ db by omega)
  have HK14 : xQ (Xw ((((((((w13.setCell ⟨db, 5, none⟩ (.int .i64 x.k)).setCell ⟨db, 6, none⟩ (.string x.tx)).setCell ⟨db, 7, none⟩ (.int .i64 x.N)).setCell ⟨db, 8, none⟩ (.int .i64 x.li)).setCell ⟨db, 9, none⟩ (.int .i64 x.co)).setCell ⟨db, 10, none⟩ (.slice x.ta x.tl x.tc)).setCell ⟨db, 11, none⟩ (.slice x.na x.nl x.nc)).setCell ⟨db, 12, none⟩ (.slice x.ka x.kl x.kc)) (db + 1) m (some ⟨kb, 0, none⟩) [h.2, y.1]) := Vv HK13.o (Nv w13 db x) fun i hi _ => Bk w13 x (show i ≠ db by omega)
  have HN14 : xQ (Zv (db + 1) ((((((((w13.setCell ⟨db, 5, none⟩ (.int .i64 x.k)).setCell ⟨db, 6, none⟩ (.string x.tx)).setCell ⟨db, 7, none⟩ (.int .i64 x.N)).setCell ⟨db, 8, none⟩ (.int .i64 x.li)).setCell ⟨db, 9, none⟩ (.int .i64 x.co)).setCell ⟨db, 10, none⟩ (.slice x.ta x.tl x.tc)).setCell ⟨db, 11, none⟩ (.slice x.na x.nl x.nc)).setCell ⟨db, 12, none⟩ (.slice x.ka x.kl x.kc)) x B) := HN13.o.keep (Nv w13 db x) fun i hi _ => Bk w13 x (show i ≠ db by omega)
  clear c0 c1 c2 c3 c4 c5 c6 c7 c8 c9 c10 c11 c12 c13 c14 z0 z1 z2 z3 z4 z5 z6 z7 z8 z9 z10 z11 z12 z13 z14 hcl X13 HV13 HK13 HN13
  generalize (((((((w13.setCell ⟨db, 5, none⟩ (.int .i64 x.k)).setCell ⟨db, 6, none⟩ (.string x.tx)).setCell ⟨db, 7, none⟩ (.int .i64 x.N)).setCell ⟨db, 8, none⟩ (.int .i64 x.li)).setCell ⟨db, 9, none⟩ (.int .i64 x.co)).setCell ⟨db, 10, none⟩ (.slice x.ta x.tl x.tc)).setCell ⟨db, 11, none⟩ (.slice x.na x.nl x.nc)).setCell ⟨db, 12, none⟩ (.slice x.ka x.kl x.kc) = W14 at X14 HV14 HK14 HN14 ⊢
  refine (Y6 pb tb cap b9 0 ts [59] _ X14.o.ps OK.o).mono ?_
  intro e w15 zhm
  rcases Zy zhm with ⟨er, li, co, hr, rfl, hst⟩ | ⟨u15, b10, v15, hr, rfl, hst, hps, hv⟩
  ·have HE : xQ (R = .inr (er, li, co)) := by rw [HR8.o, hr]; exact rfl
   have HF := Za (X14.o.st.trans hst)
   clear hr hst zhm
   go_wp2_with fail
   exact ⟨rfl, HF.o, by rw [HE.o]⟩
  have HR9 : xQ (R = .inl (Vq s ex [] h.1 [h.2, y.1] B t.line t.col, b10)) := by rw [HR8.o, hr]; exact rfl
  have X15 := Za (X14.o.step hst hps)
  have HV15 := Za (Wu HV14.o hst.size fun i hi hl => hst.keep i (by have := X14.o.lo; omega) hl)
  have HK15 := Za (Vv HK14.o hst.size fun i hi hl => hst.keep i (by have := X14.o.lo; omega) hl)
  have HN15 := Za (HN14.o.stay hst (by have := X14.o.lo; omega))
  clear hr hst hps zhm hv X14 HV14 HK14 HN14 HR8
  obtain ⟨⟨c0, c1, c2, c3, c4, c5, c6, c7, c8, c9, c10, c11, c12, c13, c14⟩, _, hcl⟩ := Tn X15.o.box
  obtain ⟨⟨r0, r1, r2, r3, r4, r5, r6, r7, r8, r9, r10, r11, r12, r13, r14⟩, ⟨z0, z1, z2, z3, z4, z5, z6, z7, z8, z9, z10, z11, z12, z13, z14⟩, hrl⟩ := Tn X15.o.res
  have hne : ¬ db = w.heap.size := by have := X15.o.lo; omega
  go_wp2_with fail
  rw [HR9.o]
  refine bodyPost_ret (results_cell_row rfl _ _ w.heap.size 52 _ (0, 0) _ rfl (Gr X15.o.res _ _ _ _ _ _ _ _ _ _ _ _ _ _ _) underlying52 rfl (by kernel_rfl)) rfl ⟨Fe X15.o.st hp (xR) _ _ _ _ _ _ _ _ _ _ _ _ _ _ _, Ro X15.o.ps hp _ _ _ _ _ _ _ _ _ _ _ _ _ _ _, _, rfl, [_, _, _, _, _, _, _, _, _, _, _, _, _, _, _], rfl, s, ex, [], none, 0, h.1, some ⟨kb, 0, none⟩, 2, [h.2, y.1], x, B, t.line, t.col, m, rfl, rfl, HVl.o, rfl, ?_, ?_, ?_⟩
  ·exact Jc (Wu HV15.o (Nat.le_of_eq (Ny _ _ _ _ _ _ _ _ _ _ _ _ _ _ _).symm) fun i hi _ => Bg (by have := X15.o.lo; omega) _ _ _ _ _ _ _ _ _ _ _ _ _ _ _) (by have := X15.o.lo; omega)
  ·exact Ba (Vv HK15.o (Nat.le_of_eq (Ny _ _ _ _ _ _ _ _ _ _ _ _ _ _ _).symm) fun i hi _ => Bg (by have := X15.o.lo; omega) _ _ _ _ _ _ _ _ _ _ _ _ _ _ _) (by have := X15.o.lo; omega)
  ·exact (HN15.o.keep (Nat.le_of_eq (Ny _ _ _ _ _ _ _ _ _ _ _ _ _ _ _).symm) fun i hi _ => Bg (by have := X15.o.lo; omega) _ _ _ _ _ _ _ _ _ _ _ _ _ _ _).lower (by have := X15.o.lo; omega)
 | true =>
  rw [hs, if_pos rfl] at HT
  have HR3 : xQ (R = (Z1 ts (Qa ts K) [44] (f + 1) (b3 + 1)).go fun l b => (Zb ts b [93]).go fun _ b => (Ue ts K b).go fun h b => (Y2 ts K [58] b).go fun y b => (Zb ts b [61]).go fun _ b => (Yw ts ts.length 101 false 0 b).go fun x b => (Zb ts b [59]).go fun _ b => .inl (Vq s ex l h.1 [h.2, y.1] x t.line t.col, b)) := by
   rw [HR2.o, M0, if_pos hs, ← hf]
   cases Z1 ts (Qa ts K) [44] ts.length (b3 + 1) with
   | inr e => rfl
   | inl p =>
    show Pr.go (Pr.go (Zb ts p.2 [93]) _) _ = Pr.go (Zb ts p.2 [93]) _
    cases Zb ts p.2 [93] <;> rfl
  clear hs
  refine (HT.o).mono ?_
  rintro e w6 ⟨rfl, hst, hps⟩
  have X6 := Za (X5.o.step hst hps)
  clear hst hps HT X5 HR2 HR1
  go_wp2_with fail
  refine (zbf pb tb cap 0 ts [44] _ (Qa ts K) HVr.o f (b3 + 1) (by omega) _ X6.o.ps OK.o).mono ?_
  intro e w7 zhm
  rcases Zy zhm with ⟨er, li, co, hr, rfl, hst⟩ | ⟨vs, b4, v, hr, rfl, hst, hps, hv⟩
  ·have HE : xQ (R = .inr (er, li, co)) := by rw [HR3.o, hr]; exact rfl
   have HF := Za (X6.o.st.trans hst)
   clear hr hst zhm
   go_wp2_with fail
   exact ⟨rfl, HF.o, by rw [HE.o]⟩
  have HR35 : xQ (R = (Zb ts b4 [93]).go fun _ b => (Ue ts K b).go fun h b => (Y2 ts K [58] b).go fun y b => (Zb ts b [61]).go fun _ b => (Yw ts ts.length 101 false 0 b).go fun x b => (Zb ts b [59]).go fun _ b => .inl (Vq s ex vs h.1 [h.2, y.1] x t.line t.col, b)) := by rw [HR3.o, hr]; exact rfl
  have HVl : xQ (vs.length ≤ 8193) := by have := Nb _ hr; have := OK.o.len; show _ ≤ _; omega
  obtain ⟨va, vc, rfl, hvc, hvf⟩ := zfr hv
  have hd6 := xB X6.o.box
  have HV7 := Za (Jc hvf (show db + 1 ≤ w6.heap.size by omega))
  have X7 := Za (X6.o.step hst hps)
  clear hr hst hps zhm hv hvf X6 hd6 HR3
  obtain ⟨⟨c0, c1, c2, c3, c4, c5, c6, c7, c8, c9, c10, c11, c12, c13, c14⟩, ⟨z0, z1, z2, z3, z4, z5, z6, z7, z8, z9, z10, z11, z12, z13, z14⟩, hcl⟩ := Tn X7.o.box
  go_wp2_with fail
  have X75 : xQ (Vs pb tb cap 0 ts w (w7.setCell ⟨db, 2, none⟩ (.slice va vs.length vc)) b4 db [.string ⟨s.toArray⟩, .bool ex, .slice va vs.length vc, .string ⟨#[]⟩, .slice none 0 0, .int .i64 0, .string ⟨#[]⟩, .int .i64 0, .int .i64 0, .int .i64 0, .slice none 0 0, .slice none 0 0, .slice none 0 0, .int .i64 t.line, .int .i64 t.col]) := X7.o.set 2 _
  have HV75 : xQ (U1 (db + 1) (w7.setCell ⟨db, 2, none⟩ (.slice va vs.length vc)) va vs) := Wu HV7.o (by rw [Zw]; exact xR) fun i hi _ => xH (by show i ≠ db; omega)
  clear c0 c1 c2 c3 c4 c5 c6 c7 c8 c9 c10 c11 c12 c13 c14 z0 z1 z2 z3 z4 z5 z6 z7 z8 z9 z10 z11 z12 z13 z14 hcl X7 HV7
  generalize w7.setCell ⟨db, 2, none⟩ (.slice va vs.length vc) = W75 at X75 HV75 ⊢
  refine (Y6 pb tb cap b4 0 ts [93] _ X75.o.ps OK.o).mono ?_
  intro e w6 zhm
  rcases Zy zhm with ⟨er, li, co, hr, rfl, hst⟩ | ⟨u5, b5, v5, hr, rfl, hst, hps, hv⟩
  ·have HE : xQ (R = .inr (er, li, co)) := by rw [HR35.o, hr]; exact rfl
   have HF := Za (X75.o.st.trans hst)
   clear hr hst zhm
   go_wp2_with fail
   exact ⟨rfl, HF.o, by rw [HE.o]⟩
  have HR4 : xQ (R = (Ue ts K b5).go fun h b => (Y2 ts K [58] b).go fun y b => (Zb ts b [61]).go fun _ b => (Yw ts ts.length 101 false 0 b).go fun x b => (Zb ts b [59]).go fun _ b => .inl (Vq s ex vs h.1 [h.2, y.1] x t.line t.col, b)) := by rw [HR35.o, hr]; exact rfl
  have X8 := Za (X75.o.step hst hps)
  have HVf : xQ (U1 (db + 1) w6 va vs) := Wu HV75.o hst.size fun i hi hl => hst.keep i (by have := X75.o.lo; omega) hl
  clear hr hst hps zhm hv X75 HV75 HR35
  go_wp2_with fail
  refine (Hg pb tb cap 0 ts K HK1.o OK.o b5 _ X8.o.ps).mono ?_
  intro e w9 zhm
  rcases Zy zhm with ⟨er, li, co, hr, rfl, hst⟩ | ⟨h, b6, v, hr, rfl, hst, hps, hv⟩
  ·have HE : xQ (R = .inr (er, li, co)) := by rw [HR4.o, hr]; exact rfl
   have HF := Za (X8.o.st.trans hst)
   clear hr hst zhm
   go_wp2_with fail
   exact ⟨rfl, HF.o, by rw [HE.o]⟩
  have HR5 : xQ (R = (Y2 ts K [58] b6).go fun y b => (Zb ts b [61]).go fun _ b => (Yw ts ts.length 101 false 0 b).go fun x b => (Zb ts b [59]).go fun _ b => .inl (Vq s ex vs h.1 [h.2, y.1] x t.line t.col, b)) := by rw [HR4.o, hr]; exact rfl
  obtain ⟨u9, rfl, hv⟩ := hv
  obtain ⟨k1, nm1, na1, nl1, nc1, ka1, kl1, kc1, rfl⟩ := hv.cells
  have hd8 := xB X8.o.box
  have hd9 := hst.size
  have HT9 := Za ((hv.lower (show db + 1 ≤ w6.heap.size by omega)).alloc (Zq k1 nm1 na1 nl1 nc1 ka1 kl1 kc1))
  have HV9 : xQ (U1 (db + 1) (w9.alloc (Zq k1 nm1 na1 nl1 nc1 ka1 kl1 kc1)) va vs) := Wu (Wu HVf.o hst.size fun i hi hl => hst.keep i (by have := X8.o.lo; omega) hl) (by simp) fun i _ hl => xA hl
  have X9 := Za ((X8.o.step hst hps).alloc (Zq k1 nm1 na1 nl1 nc1 ka1 kl1 kc1))
  have HB9 : xQ ((w9.alloc (Zq k1 nm1 na1 nl1 nc1 ka1 kl1 kc1)).heap[w9.heap.size]? = some (Zq k1 nm1 na1 nl1 nc1 ka1 kl1 kc1)) := xL _ _
  have hg9 : db < w9.heap.size := by omega
  clear hr hst hps zhm hv X8 HVf HR4 hd8 hd9
  go_wp2_with fail
  generalize w9.alloc (Zq k1 nm1 na1 nl1 nc1 ka1 kl1 kc1) = W9 at HT9 HV9 X9 HB9 ⊢
  generalize w9.heap.size = tb9 at HB9 hg9 ⊢
  refine (Nw pb tb cap 0 ts [58] K HK1.o OK.o b6 _ X9.o.ps).mono ?_
  intro e w10 zhm
  rcases Zy zhm with ⟨er, li, co, hr, rfl, hst⟩ | ⟨y, b7, v, hr, rfl, hst, hps, hv⟩
  ·have HE : xQ (R = .inr (er, li, co)) := by rw [HR5.o, hr]; exact rfl
   have HF := Za (X9.o.st.trans hst)
   clear hr hst zhm
   go_wp2_with fail
   exact ⟨rfl, HF.o, by rw [HE.o]⟩
  have HR6 : xQ (R = (Zb ts b7 [61]).go fun _ b => (Yw ts ts.length 101 false 0 b).go fun x b => (Zb ts b [59]).go fun _ b => .inl (Vq s ex vs h.1 [h.2, y.1] x t.line t.col, b)) := by rw [HR5.o, hr]; exact rfl
  obtain ⟨u10, rfl, hv⟩ := hv
  obtain ⟨k2, nm2, na2, nl2, nc2, ka2, kl2, kc2, rfl⟩ := hv.cells
  have hd9 := xB X9.o.box
  have ht9 := xB HB9.o
  have hd10 := hst.size
  have HU10 := Za ((hv.lower (show db + 1 ≤ W9.heap.size by omega)).alloc (Zq k2 nm2 na2 nl2 nc2 ka2 kl2 kc2))
  have HT10 := Za ((HT9.o.stay hst (by have := X9.o.lo; omega)).alloc (Zq k2 nm2 na2 nl2 nc2 ka2 kl2 kc2))
  have HV10 : xQ (U1 (db + 1) (w10.alloc (Zq k2 nm2 na2 nl2 nc2 ka2 kl2 kc2)) va vs) := Wu (Wu HV9.o hst.size fun i hi hl => hst.keep i (by have := X9.o.lo; omega) hl) (by simp) fun i _ hl => xA hl
  have HB10 : xQ ((w10.alloc (Zq k2 nm2 na2 nl2 nc2 ka2 kl2 kc2)).heap[tb9]? = some (Zq k1 nm1 na1 nl1 nc1 ka1 kl1 kc1)) := (xA (by omega)).trans ((hst.keep tb9 (by have := X9.o.lo; omega) ht9).trans HB9.o)
  have HC10 : xQ ((w10.alloc (Zq k2 nm2 na2 nl2 nc2 ka2 kl2 kc2)).heap[w10.heap.size]? = some (Zq k2 nm2 na2 nl2 nc2 ka2 kl2 kc2)) := xL _ _
  have X10 := Za ((X9.o.step hst hps).alloc (Zq k2 nm2 na2 nl2 nc2 ka2 kl2 kc2))
  have hg10 : db < w10.heap.size := by omega
  clear hr hst hps zhm hv X9 HV9 HR5 hd9 hd10 HT9 HB9
  obtain ⟨⟨p0, p1, p2, p3⟩, _, hpl⟩ := Zr HB10.o
  obtain ⟨⟨q0, q1, q2, q3⟩, _, hql⟩ := Zr HC10.o
  obtain ⟨⟨c0, c1, c2, c3, c4, c5, c6, c7, c8, c9, c10, c11, c12, c13, c14⟩, ⟨z0, z1, z2, z3, z4, z5, z6, z7, z8, z9, z10, z11, z12, z13, z14⟩, hcl⟩ := Tn X10.o.box
  have hne9 : ¬ tb9 = db := by omega
  have hne10 : ¬ w10.heap.size = db := by omega
  go_wp2_with fail
  clear p0 p1 p2 p3 hpl q0 q1 q2 q3 hql c0 c1 c2 c3 c4 c5 c6 c7 c8 c9 c10 c11 c12 c13 c14 z0 z1 z2 z3 z4 z5 z6 z7 z8 z9 z10 z11 z12 z13 z14 hcl
  generalize w10.alloc (Zq k2 nm2 na2 nl2 nc2 ka2 kl2 kc2) = W10 at HU10 HT10 HV10 HB10 HC10 X10 ⊢
  generalize w10.heap.size = tb10 at HC10 hg10 hne10 ⊢
  obtain ⟨⟨p0, p1, p2, p3⟩, _, hpl⟩ := Zr HB10.o
  obtain ⟨⟨q0, q1, q2, q3⟩, _, hql⟩ := Zr HC10.o
  obtain ⟨⟨c0, c1, c2, c3, c4, c5, c6, c7, c8, c9, c10, c11, c12, c13, c14⟩, ⟨z0, z1, z2, z3, z4, z5, z6, z7, z8, z9, z10, z11, z12, z13, z14⟩, hcl⟩ := Tn X10.o.box
  go_region
  have X11 : xQ (Vs pb tb cap 0 ts w (((W10.setCell ⟨db, 3, none⟩ (.string ⟨h.1.toArray⟩)).setCell ⟨db, 4, none⟩ (.slice (some ⟨W10.heap.size, 0, none⟩) 2 2)).alloc (.cells #[.int .i64 k1, .string nm1, .slice na1 nl1 nc1, .slice ka1 kl1 kc1, .int .i64 k2, .string nm2, .slice na2 nl2 nc2, .slice ka2 kl2 kc2] 36)).drew b7 db [.string ⟨s.toArray⟩, .bool ex, .slice va vs.length vc, .string ⟨h.1.toArray⟩, .slice (some ⟨W10.heap.size, 0, none⟩) 2 2, .int .i64 0, .string ⟨#[]⟩, .int .i64 0, .int .i64 0, .int .i64 0, .slice none 0 0, .slice none 0 0, .slice none 0 0, .int .i64 t.line, .int .i64 t.col]) := (((X10.o.set 3 _).set 4 _).alloc _).drew
  have hkp : ∀ (o : Obj) i, db + 1 ≤ i → i < W10.heap.size → (((W10.setCell ⟨db, 3, none⟩ (.string ⟨h.1.toArray⟩)).setCell ⟨db, 4, none⟩ (.slice (some ⟨W10.heap.size, 0, none⟩) 2 2)).alloc o).drew.heap[i]? = W10.heap[i]? := fun o i hi hl => by
   rw [T4, xA (by rw [Zw, Zw]; exact hl), xH (by show i ≠ db; omega), xH (by show i ≠ db; omega)]
  have hks : ∀ (o : Obj), W10.heap.size ≤ (((W10.setCell ⟨db, 3, none⟩ (.string ⟨h.1.toArray⟩)).setCell ⟨db, 4, none⟩ (.slice (some ⟨W10.heap.size, 0, none⟩) 2 2)).alloc o).drew.heap.size := fun o => by rw [T4, xS, Zw, Zw]; omega
  have hkr : ∀ (o : Obj), (((W10.setCell ⟨db, 3, none⟩ (.string ⟨h.1.toArray⟩)).setCell ⟨db, 4, none⟩ (.slice (some ⟨W10.heap.size, 0, none⟩) 2 2)).alloc o).drew.heap[W10.heap.size]? = some o := fun o => by
   have := xL ((W10.setCell ⟨db, 3, none⟩ (.string ⟨h.1.toArray⟩)).setCell ⟨db, 4, none⟩ (.slice (some ⟨W10.heap.size, 0, none⟩) 2 2)) o
   rw [Zw, Zw] at this
   exact this
  have HV11 := Za (Wu HV10.o (hks _) (hkp (.cells #[.int .i64 k1, .string nm1, .slice na1 nl1 nc1, .slice ka1 kl1 kc1, .int .i64 k2, .string nm2, .slice na2 nl2 nc2, .slice ka2 kl2 kc2] 36)))
  have zhw := Za (F4 (HT10.o.keep (hks _) (hkp _)) (HU10.o.keep (hks _) (hkp _)) (hkr (.cells #[.int .i64 k1, .string nm1, .slice na1 nl1 nc1, .slice ka1 kl1 kc1, .int .i64 k2, .string nm2, .slice na2 nl2 nc2, .slice ka2 kl2 kc2] 36)) (show db + 1 ≤ W10.heap.size from hcl))
  clear hkp hks hkr HV10 HT10 HU10 HB10 HC10 X10 p0 p1 p2 p3 hpl q0 q1 q2 q3 hql c0 c1 c2 c3 c4 c5 c6 c7 c8 c9 c10 c11 c12 c13 c14 z0 z1 z2 z3 z4 z5 z6 z7 z8 z9 z10 z11 z12 z13 z14 hcl hne9 hne10 hg10 hg9
  generalize (((W10.setCell ⟨db, 3, none⟩ (.string ⟨h.1.toArray⟩)).setCell ⟨db, 4, none⟩ (.slice (some ⟨W10.heap.size, 0, none⟩) 2 2)).alloc (.cells #[.int .i64 k1, .string nm1, .slice na1 nl1 nc1, .slice ka1 kl1 kc1, .int .i64 k2, .string nm2, .slice na2 nl2 nc2, .slice ka2 kl2 kc2] 36)).drew = W11 at X11 HV11 zhw ⊢
  generalize W10.heap.size = kb at X11 zhw ⊢
  obtain ⟨m, hki⟩ := zhw.o
  have HKi := Za hki
  clear hki zhw
  go_wp2_with fail
  refine (Y6 pb tb cap b7 0 ts [61] _ X11.o.ps OK.o).mono ?_
  intro e w12 zhm
  rcases Zy zhm with ⟨er, li, co, hr, rfl, hst⟩ | ⟨u12, b8, v12, hr, rfl, hst, hps, hv⟩
  ·have HE : xQ (R = .inr (er, li, co)) := by rw [HR6.o, hr]; exact rfl
   have HF := Za (X11.o.st.trans hst)
   clear hr hst zhm
   go_wp2_with fail
   exact ⟨rfl, HF.o, by rw [HE.o]⟩
  have HR7 : xQ (R = (Yw ts ts.length 101 false 0 b8).go fun x b => (Zb ts b [59]).go fun _ b => .inl (Vq s ex vs h.1 [h.2, y.1] x t.line t.col, b)) := by rw [HR6.o, hr]; exact rfl
  have X12 := Za (X11.o.step hst hps)
  have HV12 := Za (Wu HV11.o hst.size fun i hi hl => hst.keep i (by have := X11.o.lo; omega) hl)
  have HK12 := Za (Vv HKi.o hst.size fun i hi hl => hst.keep i (by have := X11.o.lo; omega) hl)
  clear hr hst hps zhm hv X11 HV11 HKi HR6
  go_wp2_with fail
  refine (Bz pb tb cap ts OK.o 101 0 rfl (by omega) b8 _ X12.o.ps).1.mono ?_
  intro e w13 zhm
  rcases Zy zhm with ⟨er, li, co, hr, rfl, hst⟩ | ⟨B, b9, v13, hr, rfl, hst, hps, x, rfl, hv⟩
  ·have HE : xQ (R = .inr (er, li, co)) := by rw [HR7.o, hr]; exact rfl
   have HF := Za (X12.o.st.trans hst)
   clear hr hst zhm
   go_wp2_with fail
   exact ⟨rfl, HF.o, by rw [HE.o]⟩
  have HR8 : xQ (R = (Zb ts b9 [59]).go fun _ b => .inl (Vq s ex vs h.1 [h.2, y.1] B t.line t.col, b)) := by rw [HR7.o, hr]; exact rfl
  have X13 := Za (X12.o.step hst hps)
  have HV13 := Za (Wu HV12.o hst.size fun i hi hl => hst.keep i (by have := X12.o.lo; omega) hl)
  have HK13 := Za (Vv HK12.o hst.size fun i hi hl => hst.keep i (by have := X12.o.lo; omega) hl)
  have hd12 := xB X12.o.box
  have HN13 := Za (hv.lower (show db + 1 ≤ w12.heap.size by omega))
  clear hr hst hps zhm hv X12 HV12 HK12 HR7 hd12
  obtain ⟨⟨c0, c1, c2, c3, c4, c5, c6, c7, c8, c9, c10, c11, c12, c13, c14⟩, ⟨z0, z1, z2, z3, z4, z5, z6, z7, z8, z9, z10, z11, z12, z13, z14⟩, hcl⟩ := Tn X13.o.box
  go_wp2_with fail
  have X14 : xQ (Vs pb tb cap 0 ts w ((((((((w13.setCell ⟨db, 5, none⟩ (.int .i64 x.k)).setCell ⟨db, 6, none⟩ (.string x.tx)).setCell ⟨db, 7, none⟩ (.int .i64 x.N)).setCell ⟨db, 8, none⟩ (.int .i64 x.li)).setCell ⟨db, 9, none⟩ (.int .i64 x.co)).setCell ⟨db, 10, none⟩ (.slice x.ta x.tl x.tc)).setCell ⟨db, 11, none⟩ (.slice x.na x.nl x.nc)).setCell ⟨db, 12, none⟩ (.slice x.ka x.kl x.kc)) b9 db [.string ⟨s.toArray⟩, .bool ex, .slice va vs.length vc, .string ⟨h.1.toArray⟩, .slice (some ⟨kb, 0, none⟩) 2 2, .int .i64 x.k, .string x.tx, .int .i64 x.N, .int .i64 x.li, .int .i64 x.co, .slice x.ta x.tl x.tc, .slice x.na x.nl x.nc, .slice x.ka x.kl x.kc, .int .i64 t.line, .int .i64 t.col]) := (((((((X13.o.set 5 _).set 6 _).set 7 _).set 8 _).set 9 _).set 10 _).set 11 _).set 12 _
  have HV14 : xQ (U1 (db + 1) ((((((((w13.setCell ⟨db, 5, none⟩ (.int .i64 x.k)).setCell ⟨db, 6, none⟩ (.string x.tx)).setCell ⟨db, 7, none⟩ (.int .i64 x.N)).setCell ⟨db, 8, none⟩ (.int .i64 x.li)).setCell ⟨db, 9, none⟩ (.int .i64 x.co)).setCell ⟨db, 10, none⟩ (.slice x.ta x.tl x.tc)).setCell ⟨db, 11, none⟩ (.slice x.na x.nl x.nc)).setCell ⟨db, 12, none⟩ (.slice x.ka x.kl x.kc)) va vs) := Wu HV13.o (Nv w13 db x) fun i hi _ => Bk w13 x (show i ≠ db by omega)
  have HK14 : xQ (Xw ((((((((w13.setCell ⟨db, 5, none⟩ (.int .i64 x.k)).setCell ⟨db, 6, none⟩ (.string x.tx)).setCell ⟨db, 7, none⟩ (.int .i64 x.N)).setCell ⟨db, 8, none⟩ (.int .i64 x.li)).setCell ⟨db, 9, none⟩ (.int .i64 x.co)).setCell ⟨db, 10, none⟩ (.slice x.ta x.tl x.tc)).setCell ⟨db, 11, none⟩ (.slice x.na x.nl x.nc)).setCell ⟨db, 12, none⟩ (.slice x.ka x.kl x.kc)) (db + 1) m (some ⟨kb, 0, none⟩) [h.2, y.1]) := Vv HK13.o (Nv w13 db x) fun i hi _ => Bk w13 x (show i ≠ db by omega)
  have HN14 : xQ (Zv (db + 1) ((((((((w13.setCell ⟨db, 5, none⟩ (.int .i64 x.k)).setCell ⟨db, 6, none⟩ (.string x.tx)).setCell ⟨db, 7, none⟩ (.int .i64 x.N)).setCell ⟨db, 8, none⟩ (.int .i64 x.li)).setCell ⟨db, 9, none⟩ (.int .i64 x.co)).setCell ⟨db, 10, none⟩ (.slice x.ta x.tl x.tc)).setCell ⟨db, 11, none⟩ (.slice x.na x.nl x.nc)).setCell ⟨db, 12, none⟩ (.slice x.ka x.kl x.kc)) x B) := HN13.o.keep (Nv w13 db x) fun i hi _ => Bk w13 x (show i ≠ db by omega)
  clear c0 c1 c2 c3 c4 c5 c6 c7 c8 c9 c10 c11 c12 c13 c14 z0 z1 z2 z3 z4 z5 z6 z7 z8 z9 z10 z11 z12 z13 z14 hcl X13 HV13 HK13 HN13
  generalize (((((((w13.setCell ⟨db, 5, none⟩ (.int .i64 x.k)).setCell ⟨db, 6, none⟩ (.string x.tx)).setCell ⟨db, 7, none⟩ (.int .i64 x.N)).setCell ⟨db, 8, none⟩ (.int .i64 x.li)).setCell ⟨db, 9, none⟩ (.int .i64 x.co)).setCell ⟨db, 10, none⟩ (.slice x.ta x.tl x.tc)).setCell ⟨db, 11, none⟩ (.slice x.na x.nl x.nc)).setCell ⟨db, 12, none⟩ (.slice x.ka x.kl x.kc) = W14 at X14 HV14 HK14 HN14 ⊢
  refine (Y6 pb tb cap b9 0 ts [59] _ X14.o.ps OK.o).mono ?_
  intro e w15 zhm
  rcases Zy zhm with ⟨er, li, co, hr, rfl, hst⟩ | ⟨u15, b10, v15, hr, rfl, hst, hps, hv⟩
  ·have HE : xQ (R = .inr (er, li, co)) := by rw [HR8.o, hr]; exact rfl
   have HF := Za (X14.o.st.trans hst)
   clear hr hst zhm
   go_wp2_with fail
   exact ⟨rfl, HF.o, by rw [HE.o]⟩
  have HR9 : xQ (R = .inl (Vq s ex vs h.1 [h.2, y.1] B t.line t.col, b10)) := by rw [HR8.o, hr]; exact rfl
  have X15 := Za (X14.o.step hst hps)
  have HV15 := Za (Wu HV14.o hst.size fun i hi hl => hst.keep i (by have := X14.o.lo; omega) hl)
  have HK15 := Za (Vv HK14.o hst.size fun i hi hl => hst.keep i (by have := X14.o.lo; omega) hl)
  have HN15 := Za (HN14.o.stay hst (by have := X14.o.lo; omega))
  clear hr hst hps zhm hv X14 HV14 HK14 HN14 HR8
  obtain ⟨⟨c0, c1, c2, c3, c4, c5, c6, c7, c8, c9, c10, c11, c12, c13, c14⟩, _, hcl⟩ := Tn X15.o.box
  obtain ⟨⟨r0, r1, r2, r3, r4, r5, r6, r7, r8, r9, r10, r11, r12, r13, r14⟩, ⟨z0, z1, z2, z3, z4, z5, z6, z7, z8, z9, z10, z11, z12, z13, z14⟩, hrl⟩ := Tn X15.o.res
  have hne : ¬ db = w.heap.size := by have := X15.o.lo; omega
  go_wp2_with fail
  rw [HR9.o]
  refine bodyPost_ret (results_cell_row rfl _ _ w.heap.size 52 _ (0, 0) _ rfl (Gr X15.o.res _ _ _ _ _ _ _ _ _ _ _ _ _ _ _) underlying52 rfl (by kernel_rfl)) rfl ⟨Fe X15.o.st hp (xR) _ _ _ _ _ _ _ _ _ _ _ _ _ _ _, Ro X15.o.ps hp _ _ _ _ _ _ _ _ _ _ _ _ _ _ _, _, rfl, [_, _, _, _, _, _, _, _, _, _, _, _, _, _, _], rfl, s, ex, vs, va, vc, h.1, some ⟨kb, 0, none⟩, 2, [h.2, y.1], x, B, t.line, t.col, m, rfl, rfl, HVl.o, rfl, ?_, ?_, ?_⟩
  ·exact Jc (Wu HV15.o (Nat.le_of_eq (Ny _ _ _ _ _ _ _ _ _ _ _ _ _ _ _).symm) fun i hi _ => Bg (by have := X15.o.lo; omega) _ _ _ _ _ _ _ _ _ _ _ _ _ _ _) (by have := X15.o.lo; omega)
  ·exact Ba (Vv HK15.o (Nat.le_of_eq (Ny _ _ _ _ _ _ _ _ _ _ _ _ _ _ _).symm) fun i hi _ => Bg (by have := X15.o.lo; omega) _ _ _ _ _ _ _ _ _ _ _ _ _ _ _) (by have := X15.o.lo; omega)
  ·exact (HN15.o.keep (Nat.le_of_eq (Ny _ _ _ _ _ _ _ _ _ _ _ _ _ _ _).symm) fun i hi _ => Bg (by have := X15.o.lo; omega) _ _ _ _ _ _ _ _ _ _ _ _ _ _ _).lower (by have := X15.o.lo; omega)
def Ua (ts : List Tok) : Nat → Nat → Pr (List Ty)
 | 0, a => Ys ts 7 a
 | f + 1, a => if Zc ts a [101, 120, 112, 111, 114, 116] || Zc ts a [102, 110] then (Qy ts a).go fun d b => (Ua ts f b).go fun r b => .inl (d :: r, b) else .inl ([], a)
def Mb (ts : List Tok) : Pr (List Ty × List Ty) := (Qe ts ts.length 0).go fun i a => (Ua ts (ts.length + 1) a).go fun d a => .inl ((i, d), a)
theorem Rj {ts : List Tok} {a : Nat} {s : List UInt8} (h : ((Zg ts a).kind == 0) = true) : Zc ts a s = false := by
 have h0 : (Zg ts a).kind = 0 := by simpa using h
 unfold Zc
 rw [h0]
 rfl
theorem Af (ts : List Tok) : ∀ f a, Ua ts f a = Mf ts f a ∨ ∃ l b, Ua ts f a = .inl (l, b) ∧ ((Zg ts b).kind == 0) = false ∧ Mf ts f a = Ys ts 7 b
 | 0, a => .inl rfl
 | f + 1, a => by
  unfold Ua Mf
  cases hk : ((Zg ts a).kind == 0) with
  | true =>
   rw [Rj hk, Rj hk]
   exact .inl rfl
  | false =>
   cases hs : (Zc ts a [101, 120, 112, 111, 114, 116] || Zc ts a [102, 110]) with
   | false =>
    obtain ⟨h1, h2⟩ := Bool.or_eq_false_iff.1 hs
    refine .inr ⟨[], a, rfl, hk, ?_⟩
    rw [if_neg (by simp), Ga, h1, if_neg (by simp), Zb, h2]
    rfl
   | true =>
    rw [if_pos rfl, if_neg (by simp)]
    cases hd : Qy ts a with
    | inr e => exact .inl rfl
    | inl p =>
     obtain ⟨d, b⟩ := p
     show Pr.go (Ua ts f b) _ = Pr.go (Mf ts f b) _ ∨ ∃ l c, Pr.go (Ua ts f b) _ = _ ∧ _ ∧ Pr.go (Mf ts f b) _ = _
     rcases Af ts f b with h | ⟨l, c, h1, h2, h3⟩
     ·exact .inl (by rw [h])
     ·exact .inr ⟨d :: l, c, by rw [h1]; rfl, h2, by rw [h3]; rfl⟩
theorem zfp (ts : List Tok) : Uv ts (Mb ts) = Uv ts (Kd ts) := by
 unfold Mb Kd
 cases Qe ts ts.length 0 with
 | inr e => rfl
 | inl p =>
  obtain ⟨i, a⟩ := p
  show Uv ts (Pr.go (Ua ts (ts.length + 1) a) _) = Uv ts (Pr.go (Mf ts (ts.length + 1) a) _)
  rcases Af ts (ts.length + 1) a with h | ⟨l, b, h1, h2, h3⟩
  ·rw [h]
  ·rw [h1, h3]
   show (if ((Zg ts b).kind == 0) = true then _ else _) = _
   rw [h2]
   rfl
theorem Sy {ts : List Tok} {f a : Nat} (h : Zc ts a [105, 109, 112, 111, 114, 116] = true) : Qe ts (f + 1) a = (Pg ts a).go fun d b => (Qe ts f b).go fun r b => .inl (d :: r, b) := by
 rw [Qe, if_pos h, Pg, Zb, if_pos h]
 show Pr.go (Zm ts (a + 1)) _ = Pr.go (Pr.go (Zm ts (a + 1)) _) _
 cases Zm ts (a + 1) with
 | inr e => rfl
 | inl p =>
  show Pr.go (Zb ts p.2 [58]) _ = Pr.go (Pr.go (Zb ts p.2 [58]) _) _
  cases Zb ts p.2 [58] with
  | inr e => rfl
  | inl q =>
   show Pr.go (Z1 ts (Zm ts) [44] ts.length q.2) _ = Pr.go (Pr.go (Z1 ts (Zm ts) [44] ts.length q.2) _) _
   cases Z1 ts (Zm ts) [44] ts.length q.2 with
   | inr e => rfl
   | inl r =>
    show Pr.go (Zb ts r.2 [59]) _ = Pr.go (Pr.go (Zb ts r.2 [59]) _) _
    cases Zb ts r.2 [59] <;> rfl
def Pa (ts : List Tok) (R : Pr (List Ty × List Ty)) (acc : List Ty) (m b : Nat) : Prop := R = (Qe ts m b).go fun r c => (Ua ts (ts.length + 1) c).go fun d c => .inl ((acc ++ r, d), c)
def Q8 (ts : List Tok) (R : Pr (List Ty × List Ty)) (is acc : List Ty) (m b : Nat) : Prop := R = (Ua ts m b).go fun r c => .inl ((is, acc ++ r), c)
theorem zfh (ts : List Tok) : Pa ts (Mb ts) [] ts.length 0 := rfl
theorem zdj {ts : List Tok} {R : Pr (List Ty × List Ty)} {acc : List Ty} {m b c : Nat} {D : Ty} (h : Pa ts R acc (m + 1) b) (hs : Zc ts b [105, 109, 112, 111, 114, 116] = true) (hi : Pg ts b = .inl (D, c)) : Pa ts R (acc ++ [D]) m c := by
 unfold Pa at h ⊢
 rw [h, Sy hs, hi]
 show Pr.go (Pr.go (Qe ts m c) _) _ = _
 cases Qe ts m c with
 | inr e => rfl
 | inl p =>
  show Pr.go (Ua ts (ts.length + 1) p.2) _ = Pr.go (Ua ts (ts.length + 1) p.2) _
  simp
theorem zgr {ts : List Tok} {R : Pr (List Ty × List Ty)} {acc : List Ty} {m b : Nat} {e : Int × Nat × Nat} (h : Pa ts R acc (m + 1) b) (hs : Zc ts b [105, 109, 112, 111, 114, 116] = true) (hi : Pg ts b = .inr e) : R = .inr e := by
 rw [h, Sy hs, hi]
 rfl
theorem Iu {ts : List Tok} {R : Pr (List Ty × List Ty)} {acc : List Ty} {m b : Nat} (h : Pa ts R acc (m + 1) b) (hs : Zc ts b [105, 109, 112, 111, 114, 116] = false) : Q8 ts R acc [] (ts.length + 1) b := by
 unfold Q8
 rw [h, Qe, if_neg (by simp [hs])]
 simp [Pr.go]
theorem Eg {ts : List Tok} {R : Pr (List Ty × List Ty)} {is acc : List Ty} {m b c : Nat} {D : Ty} (h : Q8 ts R is acc (m + 1) b) (hs : (Zc ts b [101, 120, 112, 111, 114, 116] || Zc ts b [102, 110]) = true) (hi : Qy ts b = .inl (D, c)) : Q8 ts R is (acc ++ [D]) m c := by
 unfold Q8 at h ⊢
 rw [h, Ua, if_pos hs, hi]
 show Pr.go (Pr.go (Ua ts m c) _) _ = _
 cases Ua ts m c with
 | inr e => rfl
 | inl p => simp [Pr.go]
theorem Ep {ts : List Tok} {R : Pr (List Ty × List Ty)} {is acc : List Ty} {m b : Nat} {e : Int × Nat × Nat} (h : Q8 ts R is acc (m + 1) b) (hs : (Zc ts b [101, 120, 112, 111, 114, 116] || Zc ts b [102, 110]) = true) (hi : Qy ts b = .inr e) : R = .inr e := by
 rw [h, Ua, if_pos hs, hi]
 rfl
theorem zhl {ts : List Tok} {R : Pr (List Ty × List Ty)} {is acc : List Ty} {m b : Nat} (h : Q8 ts R is acc (m + 1) b) (hs : (Zc ts b [101, 120, 112, 111, 114, 116] || Zc ts b [102, 110]) = false) : R = .inl ((is, acc), b) := by
 rw [h, Ua, if_neg (by simp [hs])]
 simp [Pr.go]
theorem zbp {ts : List Tok} {a : Nat} : Xv (a + 1) (Pg ts a) := by
 unfold Pg
 exact Z4 (Yz (Yh (xR) _) (Pl _ _)) fun _ _ h => Z4 (Qo h) fun _ _ h => Z4 (Xt h _) fun _ _ h => Z4 (Nm (fun a x b h => by rw [Pb h]; omega) _ h) fun _ _ h => Z4 (Xt h _) fun _ _ h => Yh h _
theorem Ad {ts : List Tok} {K : Nat → Pr Ty} (hK : ∀ a x b, K a = .inl (x, b) → a ≤ b) {a c : Nat} (h : a ≤ c) (s : List UInt8) : Xv a (Y2 ts K s c) := Yz (Z4 (Xz hK (by omega)) fun _ _ h => Yh h _) (Yh h _)
theorem En {ts : List Tok} {a : Nat} : Xv (a + 1) (Qy ts a) := by
 have hK : ∀ a x b, Yk ts ts.length 101 0 a = .inl (x, b) → a ≤ b := fun a x b h => Nq h
 rw [Ga]
 refine Z4 (Yz (Yh (by split <;> omega) _) (Pl _ _)) fun _ _ h => Z4 (Qo h) fun _ _ h => Z4 (?_ : Xv _ (M0 ts _ _ _)) fun _ _ h => Z4 (?_ : Xv _ (Ue ts _ _)) fun _ _ h => Z4 (Ad hK h _) fun _ _ h => Z4 (Xt h _) fun _ _ h => Z4 (Xz (fun a x b h => Nj ts _ _ _ _ a x b h) h) fun _ _ h => Z4 (Xt h _) fun _ _ h => Yh h _
 ·refine Yz (Z4 (Nm (fun a x b h => ?_) _ (by omega)) fun _ _ h => Z4 (Xt h _) fun _ _ h => Yh h _) (Yh h _)
  exact (Z4 (Qo (xR)) fun _ _ h => Yz (Z4 (Xz hK (by omega)) fun _ _ h => Yh h _) (Yh h _) : Xv a (Qa ts _ a)) x b h
 ·exact Z4 (Xt h _) fun _ _ h => Z4 (Qo h) fun _ _ h => Z4 (Ad hK h _) fun _ _ h => Z4 (Xt h _) fun _ _ h => Yh h _
theorem Lr : Qj U8 where
 keep := fun h hs hk => by
  obtain ⟨s, l, na, nc, li, co, e1, e2, e3, e4⟩ := h
  exact ⟨s, l, na, nc, li, co, e1, e2, e3, Pj e4 hs hk⟩
 lower := fun h hl => by
  obtain ⟨s, l, na, nc, li, co, e1, e2, e3, e4⟩ := h
  exact ⟨s, l, na, nc, li, co, e1, e2, e3, L7 e4 hl⟩
theorem Ke : Qj Qp where
 keep := fun h hs hk => by
  obtain ⟨s, ex, vs, va, vc, pm, ta, tc, tys, x, B, li, co, m, e1, e2, e3, e4, e5, e6, e7⟩ := h
  exact ⟨s, ex, vs, va, vc, pm, ta, tc, tys, x, B, li, co, m, e1, e2, e3, e4, Wu e5 hs hk, Vv e6 hs hk, e7.keep hs hk⟩
 lower := fun h hl => by
  obtain ⟨s, ex, vs, va, vc, pm, ta, tc, tys, x, B, li, co, m, e1, e2, e3, e4, e5, e6, e7⟩ := h
  exact ⟨s, ex, vs, va, vc, pm, ta, tc, tys, x, B, li, co, m, e1, e2, e3, e4, Jc e5 hl, Ba e6 hl, e7.lower hl⟩
theorem Oi : (prog.info? 68).map (fun i => (i.zero, i.size, i.bytes)) = some (some (.agg #[.string ⟨#[]⟩, .slice none 0 0, .int .i64 0, .int .i64 0]), 4, 56) := by kernel_rfl
theorem zdt : (prog.info? 52).map (fun i => (i.zero, i.size, i.bytes)) = some (some (.agg #[.string ⟨#[]⟩, .bool false, .slice none 0 0, .string ⟨#[]⟩, .slice none 0 0, .int .i64 0, .string ⟨#[]⟩, .int .i64 0, .int .i64 0, .int .i64 0, .slice none 0 0, .slice none 0 0, .slice none 0 0, .int .i64 0, .int .i64 0]), 15, 224) := by kernel_rfl
def Q9 {α : Type} (rep : Nat → World → List Value → α → Prop) (k lo : Nat) (w : World) (a : Option Addr) (xs : List α) : Prop := xs = [] ∨ ∃ g, a = some ⟨g, 0, none⟩ ∧ lo ≤ g ∧ V5 w g ∧
  ∀ i (hi : i < xs.length), ∃ c : List Value, c.length = k ∧ (∀ j, j < k → w.cell? ⟨g, i * k + j, none⟩ = c[j]?) ∧ rep lo w c xs[i]
section
variable {α : Type} {rep : Nat → World → List Value → α → Prop} {k lo lo' : Nat} {w w' : World} {a : Option Addr} {xs : List α}
theorem K6 (hK : Qj rep) (h : Q9 rep k lo w a xs) (hl : lo' ≤ lo) : Q9 rep k lo' w a xs := by
 rcases h with h | ⟨g, e, hg, hc, hr⟩
 ·exact .inl h
 ·refine .inr ⟨g, e, Nat.le_trans hl hg, hc, fun i hi => ?_⟩
  obtain ⟨c, h1, h2, h3⟩ := hr i hi
  exact ⟨c, h1, h2, hK.lower h3 hl⟩
theorem Gt (hK : Qj rep) (h : Q9 rep k lo w a xs) (hs : w.heap.size ≤ w'.heap.size) (hk : ∀ b, lo ≤ b → b < w.heap.size → w'.heap[b]? = w.heap[b]?) : Q9 rep k lo w' a xs := by
 rcases h with h | ⟨g, e, hg, hc, hr⟩
 ·exact .inl h
 ·obtain ⟨cs, ty, hh⟩ := hc
  have hgk := hk g hg (xB hh)
  refine .inr ⟨g, e, hg, ⟨cs, ty, hgk.trans hh⟩, fun i hi => ?_⟩
  obtain ⟨c, h1, h2, h3⟩ := hr i hi
  refine ⟨c, h1, fun j hj => ?_, hK.keep h3 hs hk⟩
  have := h2 j hj
  unfold World.cell? at this ⊢
  simp only at this ⊢
  rw [hgk]
  exact this
end
def Lw (lo : Nat) (w : World) (v : Value) (x : List Ty × List Ty) : Prop := ∃ ia ic da dc, v = .agg #[.slice ia x.1.length ic, .slice da x.2.length dc] ∧ x.1.length ≤ 8193 ∧ x.2.length ≤ 8193 ∧ Q9 U8 4 lo w ia x.1 ∧ Q9 Qp 15 lo w da x.2
theorem Fo {P : Program} {ops : Array Oper} {o : Oper} {a : Act} {w : World} {K : Act → World → Prop} {Q : Exit → Act → World → Prop} {E : Prop}
  (hg : o.guard = none) (s x : Operand) (t : TypeId) (hop : o.op = Op.call { callee := Callee.builtin Builtin.append, args := #[s, x], argTypes := #[t, t] })
  (base : Nat) (e : TypeId) (i : TypeInfo) (z : Value) (size bytes : Nat) (ht : P.underlying t = some (.slice e)) (hi : P.info? e = some i) (hz : i.zero = some z)
  (hsize : i.size = size) (hby : i.bytes = bytes) (hzs : z.cells.size = size) (hsz : 0 < size)
  (v : Value) (n : Nat) (xs : List Value) (hs : a.eval s = v) (hown : w.ownsRow base e size v n xs)
  (ad : Addr) (m c : Nat) (news : List Value) (hx : a.eval x = .slice (some ad) m c) (hl : news.length = m * size) (hnews : ∀ j u, news[j]? = some u → w.cell? (ad.add j) = some u) (h1 : ∀ u ∈ news, u.oneCell' = true)
  (h63 : n + m ≤ maxLen) (hbytes : (n + m) * bytes ≤ 140737488355328) (hbase : base ≤ w.heap.size)
  (hK : ∀ v' w', w'.ownsRow base e size v' (n + m) (xs ++ news) → w.grownBy w' v.ownBlock → (v'.ownBlock = v.ownBlock ∨ v'.ownBlock = some w.heap.size) → K (a.put o.dst v') w') :
  if Region.wanted o (yielded ops a.tmps) = true then Oper.wp P o a w K Q else E := by
 have hw : Region.wanted o (yielded ops a.tmps) = true := by simp [Region.wanted, hg]
 rw [if_pos hw]
 obtain ⟨v', w', hr, h2, h3, _, h5⟩ := run_append_own_at (P := P) w base t o.type e i z size bytes ht hi hz hsize hby hzs hsz v n xs hown ad m c news hl hnews h1 h63 hbytes hbase
 unfold Oper.wp
 simp [execOp, hop, resolve, invoke, builtin, hs, hx, hr, Result.andThen]
 exact hK v' w' h2 h3 h5
abbrev modO (vi vd : Value) : Obj := .cells #[vi, vd] 42
abbrev zMod : Obj := modO (.slice none 0 0) (.slice none 0 0)
structure Xo (pb tb cap : Nat) (ts : List Tok) (w0 w : World) (b : Nat) (vi vd : Value) : Prop where
 st : Zj pb w0 w
 ps : Ps w pb tb cap ts b 0
 hp : pb < w0.heap.size
 res : w.heap[w0.heap.size]? = some zMod
 box : w.heap[w0.heap.size + 1]? = some (modO vi vd)
section
variable {pb tb cap b b' : Nat} {ts : List Tok} {w0 w w' w4 : World} {vi vd : Value} {g : Option Nat}
theorem Xo.lt (h : Xo pb tb cap ts w0 w b vi vd) : w0.heap.size + 2 ≤ w.heap.size := xB h.box
theorem Xo.step (h : Xo pb tb cap ts w0 w b vi vd) (hst : Zj pb w w') (hps : Ps w' pb tb cap ts b' 0) : Xo pb tb cap ts w0 w' b' vi vd where
 st := h.st.trans hst
 ps := hps
 hp := h.hp
 res := (hst.keep _ h.hp (xB h.res)).trans h.res
 box := (hst.keep _ (by have := h.hp; omega) (xB h.box)).trans h.box
theorem Xo.below (h : Xo pb tb cap ts w0 w b vi vd) (hb : Below w.heap.size w w') : Xo pb tb cap ts w0 w' b vi vd := h.step (Zj.of h.ps.ltp hb) (h.ps.below hb)
theorem Xo.alloc (h : Xo pb tb cap ts w0 w b vi vd) (o : Obj) : Xo pb tb cap ts w0 (w.alloc o) b vi vd := h.below (Zl _ _)
theorem Xo.drew (h : Xo pb tb cap ts w0 w b vi vd) : Xo pb tb cap ts w0 w.drew b vi vd := ⟨h.st.drew, h.ps.drew, h.hp, h.res, h.box⟩
theorem Xo.grown (h : Xo pb tb cap ts w0 w b vi vd) (hg : w.grownBy w4 g) (hr : ∀ k, g = some k → w0.heap.size + 2 ≤ k) : Xo pb tb cap ts w0 w4 b vi vd where
 st := h.st.grown hg h.hp fun k hk => by have := hr k hk; omega
 ps := h.ps.grown hg fun k hk => by have := hr k hk; have := h.hp; omega
 hp := h.hp
 res := (hg.block _ (xB h.res) (fun e => by have := hr _ e.symm; omega)).trans h.res
 box := (hg.block _ (xB h.box) (fun e => by have := hr _ e.symm; omega)).trans h.box
theorem Xo.set0 (h : Xo pb tb cap ts w0 w b vi vd) (u : Value) : Xo pb tb cap ts w0 (w.setCell ⟨w0.heap.size + 1, 0, none⟩ u) b u vd where
 st := h.st.own h.hp (by omega) 0 u
 ps := h.ps.other (by have := h.hp; omega) 0 u
 hp := h.hp
 res := (xH (by show w0.heap.size ≠ w0.heap.size + 1; omega)).trans h.res
 box := by
  have h1 := Z9 (o := 0) (u := u) h.box
  simpa using h1
theorem Xo.set1 (h : Xo pb tb cap ts w0 w b vi vd) (u : Value) : Xo pb tb cap ts w0 (w.setCell ⟨w0.heap.size + 1, 1, none⟩ u) b vi u where
 st := h.st.own h.hp (by omega) 1 u
 ps := h.ps.other (by have := h.hp; omega) 1 u
 hp := h.hp
 res := (xH (by show w0.heap.size ≠ w0.heap.size + 1; omega)).trans h.res
 box := by
  have h1 := Z9 (o := 1) (u := u) h.box
  simpa using h1
end
theorem Pz {W : World} {b : Nat} {x0 x1 : Value} {t : TypeId} (h : W.heap[b]? = some (.cells #[x0, x1] t)) : (W.cell? ⟨b, 0, none⟩ = some x0 ∧ W.cell? ⟨b, 1, none⟩ = some x1) ∧ (W.frozen? ⟨b, 0, none⟩ = false ∧ W.frozen? ⟨b, 1, none⟩ = false) ∧ b < W.heap.size := by
 refine ⟨⟨?_, ?_⟩, ⟨?_, ?_⟩, xB h⟩
 all_goals first | (rw [cell_of_row _ _ _ _ _ _ h]; rfl) | simp [World.frozen?, h]
theorem Na {α : Type} {rep : Nat → World → List Value → α → Prop} {B et k : Nat} {wx : World} {v : Value} {cs : List (List Value)} {xs : List α} {q : Nat} {oo : Option Nat} (h : Z8 rep B et k oo wx v cs xs) (hq : q < B) (o : Nat) (u : Value) : Z8 rep B et k oo (wx.setCell ⟨q, o, none⟩ u) v cs xs := by
 have zhp : ∀ b, B ≤ b → (wx.setCell ⟨q, o, none⟩ u).heap[b]? = wx.heap[b]? := fun b hb => xH (by show b ≠ q; omega)
 refine ⟨h.len, h.each, ?_, h.apart, fun r hr => ?_, fun i h1 h2 => ?_⟩
 ·obtain ⟨o1, o2⟩ := h.ow
  refine ⟨o1, ?_⟩
  rcases o2 with o2 | ⟨g, cap, cur, e, hg, hh, r⟩
  ·exact .inl o2
  ·exact .inr ⟨g, cap, cur, e, hg, (zhp g hg).trans hh, r⟩
 ·rw [Zw]; exact h.olt r hr
 ·obtain ⟨wi, lo, m1, m2, m3, m4, m5⟩ := h.made i h1 h2
  exact ⟨wi, lo, m1, m2, by rw [Zw]; exact m3, fun b hb hl => (zhp b (by omega)).trans (m4 b hb hl), m5⟩
theorem Gk {w : World} {b : Nat} {y0 y1 : Value} {t : TypeId} (h : w.heap[b]? = some (.cells #[y0, y1] t)) (x0 x1 : Value) : ((w.setCell ⟨b, 0, none⟩ x0).setCell ⟨b, 1, none⟩ x1).heap[b]? = some (.cells #[x0, x1] t) := by
 have h0 := Z9 (o := 0) (u := x0) h
 have h1 := Z9 (o := 1) (u := x1) h0
 simpa using h1
end Go.Proofs.YtbnjllkkhhkkaaaGreatDoor
