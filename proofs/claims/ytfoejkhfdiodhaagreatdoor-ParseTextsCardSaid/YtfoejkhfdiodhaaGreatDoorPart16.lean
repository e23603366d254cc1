/- Part. -/
import Derived.Test.YtfoejkhfdiodhaaGreatDoorPart15
set_option maxRecDepth 100000
set_option maxHeartbeats 4000000
namespace Go.Proofs.YtfoejkhfdiodhaaGreatDoor
open Go.Proofs.Tryz
open Go.RowKit
attribute [local go_sem ↓] Go.wp_at_zero Go.wp_at_succ
abbrev dO (nm : ByteArray) (ex : Bool) (vs : Value) (pm : ByteArray) (tys : Value) (x : NV) (li co : Nat) : Obj :=
 .cells #[.string nm, .bool ex, vs, .string pm, tys, .int .i64 x.k, .string x.tx, .int .i64 x.N, .int .i64 x.li, .int .i64 x.co, .slice x.ta x.tl x.tc, .slice x.na x.nl x.nc, .slice x.ka x.kl x.kc, .int .i64 li, .int .i64 co] 48
abbrev zDec : Obj := .cells #[.string ⟨#[]⟩, .bool false, .slice none 0 0, .string ⟨#[]⟩, .slice none 0 0, .int .i64 0, .string ⟨#[]⟩, .int .i64 0, .int .i64 0, .int .i64 0, .slice none 0 0, .slice none 0 0, .slice none 0 0, .int .i64 0, .int .i64 0] 48
structure Mj (pb tb cap d : Nat) (ts : List Tok) (w0 w : World) (b db : Nat) (cs : List Value) : Prop where
 st : Zl pb w0 w
 ps : Ps w pb tb cap ts b d
 hp : pb < w0.heap.size
 lo : w0.heap.size + 1 <= db
 res : w.heap[w0.heap.size]? = some zDec
 box : w.heap[db]? = some (.cells cs.toArray 48)
section
variable {pb tb cap d b b' db : Nat} {ts : List Tok} {w0 w w' : World} {cs : List Value}
theorem Mj.step (h : Mj pb tb cap d ts w0 w b db cs) (Zb : Zl pb w w') (Zc : Ps w' pb tb cap ts b' d) : Mj pb tb cap d ts w0 w' b' db cs where
 st := h.st.trans Zb
 ps := Zc
 hp := h.hp
 lo := h.lo
 res := (Zb.keep _ h.hp (xB h.res)).trans h.res
 box := (Zb.keep _ (by have := h.hp; have := h.lo; omega) (xB h.box)).trans h.box
theorem Mj.alloc (h : Mj pb tb cap d ts w0 w b db cs) (o : Obj) : Mj pb tb cap d ts w0 (w.alloc o) b db cs := h.step (Zl.of h.ps.ltp (Zq _ _)) (h.ps.alloc _)
theorem Mj.drew (h : Mj pb tb cap d ts w0 w b db cs) : Mj pb tb cap d ts w0 w.drew b db cs := ⟨h.st.drew, h.ps.drew, h.hp, h.lo, h.res, h.box⟩
theorem Mj.set (h : Mj pb tb cap d ts w0 w b db cs) (o : Nat) (u : Value) : Mj pb tb cap d ts w0 (w.setCell ⟨db, o, none⟩ u) b db (cs.set o u) where
 st := h.st.own h.hp (by have := h.lo; omega) o u
 ps := h.ps.other (by have := h.hp; have := h.lo; omega) o u
 hp := h.hp
 lo := h.lo
 res := (xH (by show w0.heap.size ≠ db; have := h.lo; omega)).trans h.res
 box := by
  have h1 := Xe (o := o) (u := u) h.box
  simpa using h1
end
def N2 (lo : Nat) (w : World) (c : List Value) (D : Ty) : Prop := ∃ (s : List UInt8) (ex : Bool) (vs : List (List UInt8 × Ty)) (va : Option Addr) (vc : Nat) (pm : List UInt8) (ta : Option Addr) (tc : Nat) (tys : List Ty) (x : NV) (B : Ty) (li co m : Nat),
 c = [.string ⟨s.toArray⟩, .bool ex, .slice va vs.length vc, .string ⟨pm.toArray⟩, .slice ta 2 tc, .int .i64 x.k, .string x.tx, .int .i64 x.N, .int .i64 x.li, .int .i64 x.co, .slice x.ta x.tl x.tc, .slice x.na x.nl x.nc, .slice x.ka x.kl x.kc, .int .i64 li, .int .i64 co] /\
 D = Qu s ex vs pm tys B li co /\ vs.length <= 8193 /\ tys.length = 2 /\ Be lo w va vs /\ Ut w lo m ta tys /\ Yi lo w x B
def DecE (lo : Nat) (w : World) (v : Value) (D : Ty) : Prop := ∃ c : List Value, v = .agg c.toArray /\ N2 lo w c D
theorem vX {lo g : Nat} {w : World} {a0 a1 a2 a3 e0 e1 e2 e3 : Value} {D1 D2 : Ty} {ty : TypeId} (h1 : Yb lo w (.agg #[a0, a1, a2, a3]) D1) (h2 : Yb lo w (.agg #[e0, e1, e2, e3]) D2) (hg : w.heap[g]? = some (.cells #[a0, a1, a2, a3, e0, e1, e2, e3] ty)) (hl : lo <= g) : ∃ m, Ut w lo m (some ⟨g, 0, none⟩) [D1, D2] := by
 obtain ⟨m1, h1⟩ := h1
 obtain ⟨m2, h2⟩ := h2
 refine ⟨max m1 m2, .inr ⟨g, 0, rfl, hl, ⟨_, _, hg⟩, fun i hi => ?_⟩⟩
 match i, hi with
 | 0, _ => exact ⟨a0, a1, a2, a3, by rw [cell_of_row _ _ _ _ _ _ hg]; rfl, by rw [cell_of_row _ _ _ _ _ _ hg]; rfl, by rw [cell_of_row _ _ _ _ _ _ hg]; rfl, by rw [cell_of_row _ _ _ _ _ _ hg]; rfl, Gg h1 (Nat.le_max_left _ _)⟩
 | 1, _ => exact ⟨e0, e1, e2, e3, by rw [cell_of_row _ _ _ _ _ _ hg]; rfl, by rw [cell_of_row _ _ _ _ _ _ hg]; rfl, by rw [cell_of_row _ _ _ _ _ _ hg]; rfl, by rw [cell_of_row _ _ _ _ _ _ hg]; rfl, Gg h2 (Nat.le_max_right _ _)⟩
abbrev I5 (w : World) (b : Nat) (x : NV) : World := (((((((w.setCell ⟨b, 5, none⟩ (.int .i64 x.k)).setCell ⟨b, 6, none⟩ (.string x.tx)).setCell ⟨b, 7, none⟩ (.int .i64 x.N)).setCell ⟨b, 8, none⟩ (.int .i64 x.li)).setCell ⟨b, 9, none⟩ (.int .i64 x.co)).setCell ⟨b, 10, none⟩ (.slice x.ta x.tl x.tc)).setCell ⟨b, 11, none⟩ (.slice x.na x.nl x.nc)).setCell ⟨b, 12, none⟩ (.slice x.ka x.kl x.kc)
theorem Dx (w : World) (b : Nat) (x : NV) : w.heap.size <= (I5 w b x).heap.size := by simp only [Ye]; exact xR
theorem Dw (w : World) {b i : Nat} (x : NV) (hi : i ≠ b) : (I5 w b x).heap[i]? = w.heap[i]? := by
 unfold I5
 rw [xH hi, xH hi, xH hi, xH hi, xH hi, xH hi, xH hi, xH hi]
theorem rY {pb tb cap d : Nat} {ts : List Tok} {K : Nat -> Pr Ty} (hK : Xg pb tb cap d ts Yb 21 K) (ok : Yh ts) : Xg pb tb cap d ts VarE 71 (Pl ts K) where
 calls := fun a w h => eA pb tb cap d ts K hK ok a w h
 enters := fun w => Bi func71 (by kernel_rfl) (by kernel_rfl) _ w
 up := fun a x b h => by
  unfold Pl at h
  cases hn : Zr ts a with
  | inr e => rw [hn] at h; cases h
  | inl p =>
   obtain ⟨s, c⟩ := p;have := Gw hn;rw [hn] at h;replace h : (if Zh ts c [60, 58] then (K (c + 1)).go fun t b => .inl ((s, t), b) else .inl ((s, Yq 0 [] [] []), c)) = .inl (x, b) := h
   split at h
   ·cases hk : K (c + 1) with
    | inr e => rw [hk] at h; cases h
    | inl q =>
     have h2 := hK.up _ _ _ hk;rw [hk] at h;injection h with h;injection h with _ h;omega
   ·injection h with h
    injection h with _ h;omega
theorem decl_c (pb tb cap : Nat) (ts : List Tok) (ok : Yh ts) (a : Nat) (w : World) (h : Ps w pb tb cap ts a 0) :
  Calls prog 29 #[pP pb] w (Z7 pb tb cap ts 0 w DecE (M5 ts a)) := by
 have H := Za h
 have OK := Za ok
 have hp := h.ltp
 have Py := Za (v8 pb tb cap 0 ts ok (xZ _))
 have C0 := Za (Vz h zDec)
 obtain ⟨R, hR⟩ : ∃ R : Pr Ty, R = (M5 ts a) := ⟨_, rfl⟩
 rw [<- hR]
 rw [O0] at hR
 obtain ⟨ex, hex⟩ := xE (Zh ts a [101, 120, 112, 111, 114, 116])
 have Qx := Za (fun wx hx => V6 pb tb cap a 0 ts [101, 120, 112, 111, 114, 116] wx hx ok)
 rw [<- hex] at hR Qx
 generalize (if ex = true then a + 1 else a) = a1 at hR Qx
 obtain ⟨K, hK⟩ := xE (Xl ts ts.length 101 0)
 rw [<- hK] at hR Py
 have HVr := Za (rY Py.o ok)
 clear hK hex
 have Z9 := Za hR
 clear h ok hR
 go_enter func29, ntmps29
 go_wp2_with fail
 refine (Qx.o _ C0.o.ps).mono ?_
 rintro e w1 ⟨rfl, Zb, Zc⟩
 have C1 := Za (C0.o.step Zb Zc)
 clear Zb Zc
 go_wp2_with fail
 have X1 : xQ (Mj pb tb cap 0 ts w (w1.alloc (dO ⟨#[]⟩ ex (.slice none 0 0) ⟨#[]⟩ (.slice none 0 0) Zi 0 0)) a1 w1.heap.size [.string ⟨#[]⟩, .bool ex, .slice none 0 0, .string ⟨#[]⟩, .slice none 0 0, .int .i64 0, .string ⟨#[]⟩, .int .i64 0, .int .i64 0, .int .i64 0, .slice none 0 0, .slice none 0 0, .slice none 0 0, .int .i64 0, .int .i64 0]) :=
  ⟨(C1.o.alloc _).st, (C1.o.alloc _).ps, hp, C1.o.sz, (C1.o.alloc _).b1, (C1.o.alloc _).b0⟩
 obtain ⟨db, Kh⟩ := xE w1.heap.size
 rw [<- Kh] at X1 ⊢
 refine (Vw pb tb cap a1 0 ts [102, 110] _ X1.o.ps OK.o).mono ?_
 intro e w2 Zg
 rcases Yj Zg with ⟨er, li, co, hr, rfl, Zb⟩ | ⟨u, b2, v, hr, rfl, Zb, Zc, hv⟩
 ·have HE : xQ (R = .inr (er, li, co)) := by rw [Z9.o, hr]; exact rfl
  have HF := Za (X1.o.st.trans Zb);clear hr Zb Zg;go_wp2_with fail;exact ⟨rfl, HF.o, by rw [HE.o]⟩
 obtain ⟨t, ht⟩ := xE (Zk ts a1)
 have Yk : xQ (R = (Zr ts b2).go fun s b => (Q5 ts K ts.length b).go fun vs b => (Bp ts K b).go fun h b => (Vi ts K [58] b).go fun y b => (Ze ts b [61]).go fun _ b => (Wo ts ts.length 101 false 0 b).go fun x b => (Ze ts b [59]).go fun _ b => .inl (Qu s ex vs h.1 [h.2, y.1] x t.line t.col, b)) := by rw [Z9.o, hr, ht]; exact rfl
 rw [<- ht] at hv
 subst hv
 have X2 := Za ((X1.o.step Zb Zc).alloc (Zp t))
 have HTb : xQ ((w2.alloc (Zp t)).heap[w2.heap.size]? = some (Zp t)) := xL _ _
 have HDl : xQ (db < w2.heap.size) := xB (X1.o.step Zb Zc).box
 clear hr Zb Zc Zg ht X1 Qx C0 C1 Z9 Kh
 obtain ⟨⟨k0, k1, k2, k3⟩, _, Qh⟩ := Z6 HTb.o
 obtain ⟨⟨c0, c1, c2, c3, c4, c5, c6, c7, c8, c9, c10, c11, c12, c13, c14⟩, ⟨z0, z1, z2, z3, z4, z5, z6, z7, z8, z9, z10, z11, z12, z13, z14⟩, Yz⟩ := U3 X2.o.box
 have Z3 : ¬ w2.heap.size = db := by have := HDl.o; omega
 go_wp2_with fail
 go_region
 have X3 : xQ (Mj pb tb cap 0 ts w (((w2.alloc (Zp t)).setCell ⟨db, 13, none⟩ (.int .i64 t.line)).setCell ⟨db, 14, none⟩ (.int .i64 t.col)).drew b2 db [.string ⟨#[]⟩, .bool ex, .slice none 0 0, .string ⟨#[]⟩, .slice none 0 0, .int .i64 0, .string ⟨#[]⟩, .int .i64 0, .int .i64 0, .int .i64 0, .slice none 0 0, .slice none 0 0, .slice none 0 0, .int .i64 t.line, .int .i64 t.col]) := ((X2.o.set 13 _).set 14 _).drew
 clear k0 k1 k2 k3 Qh c0 c1 c2 c3 c4 c5 c6 c7 c8 c9 c10 c11 c12 c13 c14 z0 z1 z2 z3 z4 z5 z6 z7 z8 z9 z10 z11 z12 z13 z14 Yz Z3 X2 HTb
 generalize (((w2.alloc (Zp t)).setCell ⟨db, 13, none⟩ (.int .i64 t.line)).setCell ⟨db, 14, none⟩ (.int .i64 t.col)).drew = W3 at X3 ⊢
 generalize w2.heap.size = tb2 at HDl ⊢
 go_wp2_with fail
 refine (Jo pb tb cap b2 0 ts _ X3.o.ps OK.o).mono ?_
 intro e w3 Zg
 rcases Yj Zg with ⟨er, li, co, hr, rfl, Zb⟩ | ⟨s, b3, v, hr, rfl, Zb, Zc, hv⟩
 ·have HE : xQ (R = .inr (er, li, co)) := by rw [Yk.o, hr]; exact rfl
  have HF := Za (X3.o.st.trans Zb);clear hr Zb Zg;go_wp2_with fail;exact ⟨rfl, HF.o, by rw [HE.o]⟩
 have Zz : xQ (R = (Q5 ts K ts.length b3).go fun vs b => (Bp ts K b).go fun h b => (Vi ts K [58] b).go fun y b => (Ze ts b [61]).go fun _ b => (Wo ts ts.length 101 false 0 b).go fun x b => (Ze ts b [59]).go fun _ b => .inl (Qu s ex vs h.1 [h.2, y.1] x t.line t.col, b)) := by rw [Yk.o, hr]; exact rfl
 subst hv
 have X4 := Za (X3.o.step Zb Zc)
 clear hr Zb Zc Zg X3
 obtain ⟨⟨c0, c1, c2, c3, c4, c5, c6, c7, c8, c9, c10, c11, c12, c13, c14⟩, ⟨z0, z1, z2, z3, z4, z5, z6, z7, z8, z9, z10, z11, z12, z13, z14⟩, Yz⟩ := U3 X4.o.box
 go_wp2_with fail
 have X5 : xQ (Mj pb tb cap 0 ts w (w3.setCell ⟨db, 0, none⟩ (.string ⟨s.toArray⟩)) b3 db [.string ⟨s.toArray⟩, .bool ex, .slice none 0 0, .string ⟨#[]⟩, .slice none 0 0, .int .i64 0, .string ⟨#[]⟩, .int .i64 0, .int .i64 0, .int .i64 0, .slice none 0 0, .slice none 0 0, .slice none 0 0, .int .i64 t.line, .int .i64 t.col]) := X4.o.set 0 _
 clear c0 c1 c2 c3 c4 c5 c6 c7 c8 c9 c10 c11 c12 c13 c14 z0 z1 z2 z3 z4 z5 z6 z7 z8 z9 z10 z11 z12 z13 z14 Yz X4
 generalize w3.setCell ⟨db, 0, none⟩ (.string ⟨s.toArray⟩) = W5 at X5 ⊢
 have HT := Za (V6 pb tb cap b3 0 ts [91] _ X5.o.ps OK.o)
 obtain ⟨f, hf⟩ : ∃ f, ts.length = f + 1 := ⟨ts.length - 1, by have := OK.o.pos; omega⟩
 cases hs : Zh ts b3 [91] with
 | false =>
  rw [hs, if_neg (by simp)] at HT
  have Xi : xQ (R = (Bp ts K b3).go fun h b => (Vi ts K [58] b).go fun y b => (Ze ts b [61]).go fun _ b => (Wo ts ts.length 101 false 0 b).go fun x b => (Ze ts b [59]).go fun _ b => .inl (Qu s ex [] h.1 [h.2, y.1] x t.line t.col, b)) := by rw [Zz.o, Q5, if_neg (by simp [hs])]; exact rfl
  clear hs;refine (HT.o).mono ?_;rintro e w6 ⟨rfl, Zb, Zc⟩;have X8 := Za (X5.o.step Zb Zc);clear Zb Zc HT X5 Zz Yk;have HVf : xQ (Be (db + 1) w6 none []) := .inl rfl;have Q8 : xQ (([] : List (List UInt8 × Ty)).length <= 8193) := xZ _;go_wp2_with fail;refine (zV pb tb cap 0 ts K Py.o OK.o b3 _ X8.o.ps).mono ?_;intro e w9 Zg;rcases Yj Zg with ⟨er, li, co, hr, rfl, Zb⟩ | ⟨h, b6, v, hr, rfl, Zb, Zc, hv⟩
  ·have HE : xQ (R = .inr (er, li, co)) := by rw [Xi.o, hr]; exact rfl
   have HF := Za (X8.o.st.trans Zb);clear hr Zb Zg;go_wp2_with fail;exact ⟨rfl, HF.o, by rw [HE.o]⟩
  have Xq : xQ (R = (Vi ts K [58] b6).go fun y b => (Ze ts b [61]).go fun _ b => (Wo ts ts.length 101 false 0 b).go fun x b => (Ze ts b [59]).go fun _ b => .inl (Qu s ex [] h.1 [h.2, y.1] x t.line t.col, b)) := by rw [Xi.o, hr]; exact rfl
  obtain ⟨u9, rfl, hv⟩ := hv;obtain ⟨k1, nm1, na1, nl1, nc1, ka1, kl1, kc1, rfl⟩ := hv.cells;have hd8 := xB X8.o.box;have hd9 := Zb.size;have HT9 := Za ((hv.lower (show db + 1 <= w6.heap.size by omega)).alloc (Z5 k1 nm1 na1 nl1 nc1 ka1 kl1 kc1))
  have HV9 : xQ (Be (db + 1) (w9.alloc (Z5 k1 nm1 na1 nl1 nc1 ka1 kl1 kc1)) none []) := Ql (Ql HVf.o Zb.size fun i hi hl => Zb.keep i (by have := X8.o.lo; omega) hl) (by simp) fun i _ hl => xA hl
  have X9 := Za ((X8.o.step Zb Zc).alloc (Z5 k1 nm1 na1 nl1 nc1 ka1 kl1 kc1));have HB9 : xQ ((w9.alloc (Z5 k1 nm1 na1 nl1 nc1 ka1 kl1 kc1)).heap[w9.heap.size]? = some (Z5 k1 nm1 na1 nl1 nc1 ka1 kl1 kc1)) := xL _ _
  have hg9 : db < w9.heap.size := by omega
  clear hr Zb Zc Zg hv X8 HVf Xi hd8 hd9;go_wp2_with fail;generalize w9.alloc (Z5 k1 nm1 na1 nl1 nc1 ka1 kl1 kc1) = W9 at HT9 HV9 X9 HB9 ⊢;generalize w9.heap.size = tb9 at HB9 hg9 ⊢;refine (A5 pb tb cap 0 ts [58] K Py.o OK.o b6 _ X9.o.ps).mono ?_;intro e w10 Zg;rcases Yj Zg with ⟨er, li, co, hr, rfl, Zb⟩ | ⟨y, b7, v, hr, rfl, Zb, Zc, hv⟩
  ·have HE : xQ (R = .inr (er, li, co)) := by rw [Xq.o, hr]; exact rfl
   have HF := Za (X9.o.st.trans Zb);clear hr Zb Zg;go_wp2_with fail;exact ⟨rfl, HF.o, by rw [HE.o]⟩
  have Te : xQ (R = (Ze ts b7 [61]).go fun _ b => (Wo ts ts.length 101 false 0 b).go fun x b => (Ze ts b [59]).go fun _ b => .inl (Qu s ex [] h.1 [h.2, y.1] x t.line t.col, b)) := by rw [Xq.o, hr]; exact rfl
  obtain ⟨u10, rfl, hv⟩ := hv;obtain ⟨k2, nm2, na2, nl2, nc2, ka2, kl2, kc2, rfl⟩ := hv.cells;have hd9 := xB X9.o.box;have ht9 := xB HB9.o;have hd10 := Zb.size;have Sj := Za ((hv.lower (show db + 1 <= W9.heap.size by omega)).alloc (Z5 k2 nm2 na2 nl2 nc2 ka2 kl2 kc2));have Si := Za ((HT9.o.stay Zb (by have := X9.o.lo; omega)).alloc (Z5 k2 nm2 na2 nl2 nc2 ka2 kl2 kc2))
  have Sk : xQ (Be (db + 1) (w10.alloc (Z5 k2 nm2 na2 nl2 nc2 ka2 kl2 kc2)) none []) := Ql (Ql HV9.o Zb.size fun i hi hl => Zb.keep i (by have := X9.o.lo; omega) hl) (by simp) fun i _ hl => xA hl
  have G9 : xQ ((w10.alloc (Z5 k2 nm2 na2 nl2 nc2 ka2 kl2 kc2)).heap[tb9]? = some (Z5 k1 nm1 na1 nl1 nc1 ka1 kl1 kc1)) := (xA (by omega)).trans ((Zb.keep tb9 (by have := X9.o.lo; omega) ht9).trans HB9.o);have Hv : xQ ((w10.alloc (Z5 k2 nm2 na2 nl2 nc2 ka2 kl2 kc2)).heap[w10.heap.size]? = some (Z5 k2 nm2 na2 nl2 nc2 ka2 kl2 kc2)) := xL _ _;have X10 := Za ((X9.o.step Zb Zc).alloc (Z5 k2 nm2 na2 nl2 nc2 ka2 kl2 kc2))
  have hg10 : db < w10.heap.size := by omega
  clear hr Zb Zc Zg hv X9 HV9 Xq hd9 hd10 HT9 HB9;obtain ⟨⟨p0, p1, p2, p3⟩, _, Xc⟩ := Z6 G9.o;obtain ⟨⟨q0, q1, q2, q3⟩, _, hql⟩ := Z6 Hv.o;obtain ⟨⟨c0, c1, c2, c3, c4, c5, c6, c7, c8, c9, c10, c11, c12, c13, c14⟩, ⟨z0, z1, z2, z3, z4, z5, z6, z7, z8, z9, z10, z11, z12, z13, z14⟩, Yz⟩ := U3 X10.o.box
  have Gu : ¬ tb9 = db := by omega
  have Ey : ¬ w10.heap.size = db := by omega
  go_wp2_with fail;clear p0 p1 p2 p3 Xc q0 q1 q2 q3 hql c0 c1 c2 c3 c4 c5 c6 c7 c8 c9 c10 c11 c12 c13 c14 z0 z1 z2 z3 z4 z5 z6 z7 z8 z9 z10 z11 z12 z13 z14 Yz;generalize w10.alloc (Z5 k2 nm2 na2 nl2 nc2 ka2 kl2 kc2) = W10 at Sj Si Sk G9 Hv X10 ⊢;generalize w10.heap.size = tb10 at Hv hg10 Ey ⊢;obtain ⟨⟨p0, p1, p2, p3⟩, _, Xc⟩ := Z6 G9.o;obtain ⟨⟨q0, q1, q2, q3⟩, _, hql⟩ := Z6 Hv.o;obtain ⟨⟨c0, c1, c2, c3, c4, c5, c6, c7, c8, c9, c10, c11, c12, c13, c14⟩, ⟨z0, z1, z2, z3, z4, z5, z6, z7, z8, z9, z10, z11, z12, z13, z14⟩, Yz⟩ := U3 X10.o.box
  go_region;have X11 : xQ (Mj pb tb cap 0 ts w (((W10.setCell ⟨db, 3, none⟩ (.string ⟨h.1.toArray⟩)).setCell ⟨db, 4, none⟩ (.slice (some ⟨W10.heap.size, 0, none⟩) 2 2)).alloc (.cells #[.int .i64 k1, .string nm1, .slice na1 nl1 nc1, .slice ka1 kl1 kc1, .int .i64 k2, .string nm2, .slice na2 nl2 nc2, .slice ka2 kl2 kc2] 42)).drew b7 db [.string ⟨s.toArray⟩, .bool ex, .slice none 0 0, .string ⟨h.1.toArray⟩, .slice (some ⟨W10.heap.size, 0, none⟩) 2 2, .int .i64 0, .string ⟨#[]⟩, .int .i64 0, .int .i64 0, .int .i64 0, .slice none 0 0, .slice none 0 0, .slice none 0 0, .int .i64 t.line, .int .i64 t.col]) := (((X10.o.set 3 _).set 4 _).alloc _).drew
  have hkp : ∀ (o : Obj) i, db + 1 <= i -> i < W10.heap.size -> (((W10.setCell ⟨db, 3, none⟩ (.string ⟨h.1.toArray⟩)).setCell ⟨db, 4, none⟩ (.slice (some ⟨W10.heap.size, 0, none⟩) 2 2)).alloc o).drew.heap[i]? = W10.heap[i]? := fun o i hi hl => by
   rw [Hc, xA (by rw [Ye, Ye]; exact hl), xH (by show i ≠ db; omega), xH (by show i ≠ db; omega)]
  have Jb : ∀ (o : Obj), W10.heap.size <= (((W10.setCell ⟨db, 3, none⟩ (.string ⟨h.1.toArray⟩)).setCell ⟨db, 4, none⟩ (.slice (some ⟨W10.heap.size, 0, none⟩) 2 2)).alloc o).drew.heap.size := fun o => by rw [Hc, xS, Ye, Ye]; omega
  have hkr : ∀ (o : Obj), (((W10.setCell ⟨db, 3, none⟩ (.string ⟨h.1.toArray⟩)).setCell ⟨db, 4, none⟩ (.slice (some ⟨W10.heap.size, 0, none⟩) 2 2)).alloc o).drew.heap[W10.heap.size]? = some o := fun o => by
   have := xL ((W10.setCell ⟨db, 3, none⟩ (.string ⟨h.1.toArray⟩)).setCell ⟨db, 4, none⟩ (.slice (some ⟨W10.heap.size, 0, none⟩) 2 2)) o;rw [Ye, Ye] at this;exact this
  have Sl := Za (Ql Sk.o (Jb _) (hkp (.cells #[.int .i64 k1, .string nm1, .slice na1 nl1 nc1, .slice ka1 kl1 kc1, .int .i64 k2, .string nm2, .slice na2 nl2 nc2, .slice ka2 kl2 kc2] 42)));have Fb := Za (vX (Si.o.keep (Jb _) (hkp _)) (Sj.o.keep (Jb _) (hkp _)) (hkr (.cells #[.int .i64 k1, .string nm1, .slice na1 nl1 nc1, .slice ka1 kl1 kc1, .int .i64 k2, .string nm2, .slice na2 nl2 nc2, .slice ka2 kl2 kc2] 42)) (show db + 1 <= W10.heap.size from Yz))
  clear hkp Jb hkr Sk Si Sj G9 Hv X10 p0 p1 p2 p3 Xc q0 q1 q2 q3 hql c0 c1 c2 c3 c4 c5 c6 c7 c8 c9 c10 c11 c12 c13 c14 z0 z1 z2 z3 z4 z5 z6 z7 z8 z9 z10 z11 z12 z13 z14 Yz Gu Ey hg10 hg9;generalize (((W10.setCell ⟨db, 3, none⟩ (.string ⟨h.1.toArray⟩)).setCell ⟨db, 4, none⟩ (.slice (some ⟨W10.heap.size, 0, none⟩) 2 2)).alloc (.cells #[.int .i64 k1, .string nm1, .slice na1 nl1 nc1, .slice ka1 kl1 kc1, .int .i64 k2, .string nm2, .slice na2 nl2 nc2, .slice ka2 kl2 kc2] 42)).drew = W11 at X11 Sl Fb ⊢
  generalize W10.heap.size = kb at X11 Fb ⊢;obtain ⟨m, hki⟩ := Fb.o;have HKi := Za hki;clear hki Fb;go_wp2_with fail;refine (Vw pb tb cap b7 0 ts [61] _ X11.o.ps OK.o).mono ?_;intro e w12 Zg;rcases Yj Zg with ⟨er, li, co, hr, rfl, Zb⟩ | ⟨u12, b8, v12, hr, rfl, Zb, Zc, hv⟩
  ·have HE : xQ (R = .inr (er, li, co)) := by rw [Te.o, hr]; exact rfl
   have HF := Za (X11.o.st.trans Zb);clear hr Zb Zg;go_wp2_with fail;exact ⟨rfl, HF.o, by rw [HE.o]⟩
  have Vs : xQ (R = (Wo ts ts.length 101 false 0 b8).go fun x b => (Ze ts b [59]).go fun _ b => .inl (Qu s ex [] h.1 [h.2, y.1] x t.line t.col, b)) := by rw [Te.o, hr]; exact rfl
  have X12 := Za (X11.o.step Zb Zc);have HV12 := Za (Ql Sl.o Zb.size fun i hi hl => Zb.keep i (by have := X11.o.lo; omega) hl);have HK12 := Za (Ni HKi.o Zb.size fun i hi hl => Zb.keep i (by have := X11.o.lo; omega) hl);clear hr Zb Zc Zg hv X11 Sl HKi Te;go_wp2_with fail;refine (Ev pb tb cap ts OK.o 101 0 rfl (by omega) b8 _ X12.o.ps).1.mono ?_;intro e w13 Zg;rcases Yj Zg with ⟨er, li, co, hr, rfl, Zb⟩ | ⟨B, b9, v13, hr, rfl, Zb, Zc, x, rfl, hv⟩
  ·have HE : xQ (R = .inr (er, li, co)) := by rw [Vs.o, hr]; exact rfl
   have HF := Za (X12.o.st.trans Zb);clear hr Zb Zg;go_wp2_with fail;exact ⟨rfl, HF.o, by rw [HE.o]⟩
  have Jv : xQ (R = (Ze ts b9 [59]).go fun _ b => .inl (Qu s ex [] h.1 [h.2, y.1] B t.line t.col, b)) := by rw [Vs.o, hr]; exact rfl
  have X13 := Za (X12.o.step Zb Zc);have HV13 := Za (Ql HV12.o Zb.size fun i hi hl => Zb.keep i (by have := X12.o.lo; omega) hl);have HK13 := Za (Ni HK12.o Zb.size fun i hi hl => Zb.keep i (by have := X12.o.lo; omega) hl);have hd12 := xB X12.o.box;have HN13 := Za (hv.lower (show db + 1 <= w12.heap.size by omega));clear hr Zb Zc Zg hv X12 HV12 HK12 Vs hd12;obtain ⟨⟨c0, c1, c2, c3, c4, c5, c6, c7, c8, c9, c10, c11, c12, c13, c14⟩, ⟨z0, z1, z2, z3, z4, z5, z6, z7, z8, z9, z10, z11, z12, z13, z14⟩, Yz⟩ := U3 X13.o.box
  go_wp2_with fail;have X14 : xQ (Mj pb tb cap 0 ts w ((((((((w13.setCell ⟨db, 5, none⟩ (.int .i64 x.k)).setCell ⟨db, 6, none⟩ (.string x.tx)).setCell ⟨db, 7, none⟩ (.int .i64 x.N)).setCell ⟨db, 8, none⟩ (.int .i64 x.li)).setCell ⟨db, 9, none⟩ (.int .i64 x.co)).setCell ⟨db, 10, none⟩ (.slice x.ta x.tl x.tc)).setCell ⟨db, 11, none⟩ (.slice x.na x.nl x.nc)).setCell ⟨db, 12, none⟩ (.slice x.ka x.kl x.kc)) b9 db [.string ⟨s.toArray⟩, .bool ex, .slice none 0 0, .string ⟨h.1.toArray⟩, .slice (some ⟨kb, 0, none⟩) 2 2, .int .i64 x.k, .string x.tx, .int .i64 x.N, .int .i64 x.li, .int .i64 x.co, .slice x.ta x.tl x.tc, .slice x.na x.nl x.nc, .slice x.ka x.kl x.kc, .int .i64 t.line, .int .i64 t.col]) := (((((((X13.o.set 5 _).set 6 _).set 7 _).set 8 _).set 9 _).set 10 _).set 11 _).set 12 _
  have Sm : xQ (Be (db + 1) ((((((((w13.setCell ⟨db, 5, none⟩ (.int .i64 x.k)).setCell ⟨db, 6, none⟩ (.string x.tx)).setCell ⟨db, 7, none⟩ (.int .i64 x.N)).setCell ⟨db, 8, none⟩ (.int .i64 x.li)).setCell ⟨db, 9, none⟩ (.int .i64 x.co)).setCell ⟨db, 10, none⟩ (.slice x.ta x.tl x.tc)).setCell ⟨db, 11, none⟩ (.slice x.na x.nl x.nc)).setCell ⟨db, 12, none⟩ (.slice x.ka x.kl x.kc)) none []) := Ql HV13.o (Dx w13 db x) fun i hi _ => Dw w13 x (show i ≠ db by omega)
  have Sb : xQ (Ut ((((((((w13.setCell ⟨db, 5, none⟩ (.int .i64 x.k)).setCell ⟨db, 6, none⟩ (.string x.tx)).setCell ⟨db, 7, none⟩ (.int .i64 x.N)).setCell ⟨db, 8, none⟩ (.int .i64 x.li)).setCell ⟨db, 9, none⟩ (.int .i64 x.co)).setCell ⟨db, 10, none⟩ (.slice x.ta x.tl x.tc)).setCell ⟨db, 11, none⟩ (.slice x.na x.nl x.nc)).setCell ⟨db, 12, none⟩ (.slice x.ka x.kl x.kc)) (db + 1) m (some ⟨kb, 0, none⟩) [h.2, y.1]) := Ni HK13.o (Dx w13 db x) fun i hi _ => Dw w13 x (show i ≠ db by omega)
  have Sd : xQ (Yi (db + 1) ((((((((w13.setCell ⟨db, 5, none⟩ (.int .i64 x.k)).setCell ⟨db, 6, none⟩ (.string x.tx)).setCell ⟨db, 7, none⟩ (.int .i64 x.N)).setCell ⟨db, 8, none⟩ (.int .i64 x.li)).setCell ⟨db, 9, none⟩ (.int .i64 x.co)).setCell ⟨db, 10, none⟩ (.slice x.ta x.tl x.tc)).setCell ⟨db, 11, none⟩ (.slice x.na x.nl x.nc)).setCell ⟨db, 12, none⟩ (.slice x.ka x.kl x.kc)) x B) := HN13.o.keep (Dx w13 db x) fun i hi _ => Dw w13 x (show i ≠ db by omega)
  clear c0 c1 c2 c3 c4 c5 c6 c7 c8 c9 c10 c11 c12 c13 c14 z0 z1 z2 z3 z4 z5 z6 z7 z8 z9 z10 z11 z12 z13 z14 Yz X13 HV13 HK13 HN13;generalize (((((((w13.setCell ⟨db, 5, none⟩ (.int .i64 x.k)).setCell ⟨db, 6, none⟩ (.string x.tx)).setCell ⟨db, 7, none⟩ (.int .i64 x.N)).setCell ⟨db, 8, none⟩ (.int .i64 x.li)).setCell ⟨db, 9, none⟩ (.int .i64 x.co)).setCell ⟨db, 10, none⟩ (.slice x.ta x.tl x.tc)).setCell ⟨db, 11, none⟩ (.slice x.na x.nl x.nc)).setCell ⟨db, 12, none⟩ (.slice x.ka x.kl x.kc) = W14 at X14 Sm Sb Sd ⊢
  refine (Vw pb tb cap b9 0 ts [59] _ X14.o.ps OK.o).mono ?_;intro e w15 Zg;rcases Yj Zg with ⟨er, li, co, hr, rfl, Zb⟩ | ⟨u15, b10, v15, hr, rfl, Zb, Zc, hv⟩
  ·have HE : xQ (R = .inr (er, li, co)) := by rw [Jv.o, hr]; exact rfl
   have HF := Za (X14.o.st.trans Zb);clear hr Zb Zg;go_wp2_with fail;exact ⟨rfl, HF.o, by rw [HE.o]⟩
  have HR9 : xQ (R = .inl (Qu s ex [] h.1 [h.2, y.1] B t.line t.col, b10)) := by rw [Jv.o, hr]; exact rfl
  have X15 := Za (X14.o.step Zb Zc);have HV15 := Za (Ql Sm.o Zb.size fun i hi hl => Zb.keep i (by have := X14.o.lo; omega) hl);have HK15 := Za (Ni Sb.o Zb.size fun i hi hl => Zb.keep i (by have := X14.o.lo; omega) hl);have HN15 := Za (Sd.o.stay Zb (by have := X14.o.lo; omega));clear hr Zb Zc Zg hv X14 Sm Sb Sd Jv;obtain ⟨⟨c0, c1, c2, c3, c4, c5, c6, c7, c8, c9, c10, c11, c12, c13, c14⟩, _, Yz⟩ := U3 X15.o.box
  obtain ⟨⟨r0, r1, r2, r3, r4, r5, r6, r7, r8, r9, r10, r11, r12, r13, r14⟩, ⟨z0, z1, z2, z3, z4, z5, z6, z7, z8, z9, z10, z11, z12, z13, z14⟩, Xu⟩ := U3 X15.o.res
  have Z3 : ¬ db = w.heap.size := by have := X15.o.lo; omega
  go_wp2_with fail;rw [HR9.o];refine bodyPost_ret (results_cell_row rfl _ _ w.heap.size 48 _ (0, 0) _ rfl (qC X15.o.res _ _ _ _ _ _ _ _ _ _ _ _ _ _ _) underlying48 rfl (by kernel_rfl)) rfl ⟨qT X15.o.st hp (xR) _ _ _ _ _ _ _ _ _ _ _ _ _ _ _, qB X15.o.ps hp _ _ _ _ _ _ _ _ _ _ _ _ _ _ _, _, rfl, [_, _, _, _, _, _, _, _, _, _, _, _, _, _, _], rfl, s, ex, [], none, 0, h.1, some ⟨kb, 0, none⟩, 2, [h.2, y.1], x, B, t.line, t.col, m, rfl, rfl, Q8.o, rfl, ?_, ?_, ?_⟩
  ·exact Cj (Ql HV15.o (Nat.le_of_eq (Rw _ _ _ _ _ _ _ _ _ _ _ _ _ _ _).symm) fun i hi _ => Rv (by have := X15.o.lo; omega) _ _ _ _ _ _ _ _ _ _ _ _ _ _ _) (by have := X15.o.lo; omega)
  ·exact Ae (Ni HK15.o (Nat.le_of_eq (Rw _ _ _ _ _ _ _ _ _ _ _ _ _ _ _).symm) fun i hi _ => Rv (by have := X15.o.lo; omega) _ _ _ _ _ _ _ _ _ _ _ _ _ _ _) (by have := X15.o.lo; omega)
  ·exact (HN15.o.keep (Nat.le_of_eq (Rw _ _ _ _ _ _ _ _ _ _ _ _ _ _ _).symm) fun i hi _ => Rv (by have := X15.o.lo; omega) _ _ _ _ _ _ _ _ _ _ _ _ _ _ _).lower (by have := X15.o.lo; omega)
 | true =>
  rw [hs, if_pos rfl] at HT
  have Yt : xQ (R = (Yd ts (Pl ts K) [44] (f + 1) (b3 + 1)).go fun l b => (Ze ts b [93]).go fun _ b => (Bp ts K b).go fun h b => (Vi ts K [58] b).go fun y b => (Ze ts b [61]).go fun _ b => (Wo ts ts.length 101 false 0 b).go fun x b => (Ze ts b [59]).go fun _ b => .inl (Qu s ex l h.1 [h.2, y.1] x t.line t.col, b)) := by
   rw [Zz.o, Q5, if_pos hs, <- hf]
   cases Yd ts (Pl ts K) [44] ts.length (b3 + 1) with
   | inr e => rfl
   | inl p =>
    show Pr.go (Pr.go (Ze ts p.2 [93]) _) _ = Pr.go (Ze ts p.2 [93]) _
    cases Ze ts p.2 [93] <;> rfl
  clear hs;refine (HT.o).mono ?_;rintro e w6 ⟨rfl, Zb, Zc⟩;have X6 := Za (X5.o.step Zb Zc);clear Zb Zc HT X5 Zz Yk;go_wp2_with fail;refine (jB pb tb cap 0 ts [44] _ (Pl ts K) HVr.o f (b3 + 1) (by omega) _ X6.o.ps OK.o).mono ?_;intro e w7 Zg;rcases Yj Zg with ⟨er, li, co, hr, rfl, Zb⟩ | ⟨vs, b4, v, hr, rfl, Zb, Zc, hv⟩
  ·have HE : xQ (R = .inr (er, li, co)) := by rw [Yt.o, hr]; exact rfl
   have HF := Za (X6.o.st.trans Zb);clear hr Zb Zg;go_wp2_with fail;exact ⟨rfl, HF.o, by rw [HE.o]⟩
  have HR35 : xQ (R = (Ze ts b4 [93]).go fun _ b => (Bp ts K b).go fun h b => (Vi ts K [58] b).go fun y b => (Ze ts b [61]).go fun _ b => (Wo ts ts.length 101 false 0 b).go fun x b => (Ze ts b [59]).go fun _ b => .inl (Qu s ex vs h.1 [h.2, y.1] x t.line t.col, b)) := by rw [Yt.o, hr]; exact rfl
  have Q8 : xQ (vs.length <= 8193) := by have := Fv _ hr; have := OK.o.len; show _ <= _; omega
  obtain ⟨va, vc, rfl, hvc, hvf⟩ := eB hv;have hd6 := xB X6.o.box;have J0 := Za (Cj hvf (show db + 1 <= w6.heap.size by omega));have X7 := Za (X6.o.step Zb Zc);clear hr Zb Zc Zg hv hvf X6 hd6 Yt;obtain ⟨⟨c0, c1, c2, c3, c4, c5, c6, c7, c8, c9, c10, c11, c12, c13, c14⟩, ⟨z0, z1, z2, z3, z4, z5, z6, z7, z8, z9, z10, z11, z12, z13, z14⟩, Yz⟩ := U3 X7.o.box;go_wp2_with fail;have X75 : xQ (Mj pb tb cap 0 ts w (w7.setCell ⟨db, 2, none⟩ (.slice va vs.length vc)) b4 db [.string ⟨s.toArray⟩, .bool ex, .slice va vs.length vc, .string ⟨#[]⟩, .slice none 0 0, .int .i64 0, .string ⟨#[]⟩, .int .i64 0, .int .i64 0, .int .i64 0, .slice none 0 0, .slice none 0 0, .slice none 0 0, .int .i64 t.line, .int .i64 t.col]) := X7.o.set 2 _
  have HV75 : xQ (Be (db + 1) (w7.setCell ⟨db, 2, none⟩ (.slice va vs.length vc)) va vs) := Ql J0.o (by rw [Ye]; exact xR) fun i hi _ => xH (by show i ≠ db; omega)
  clear c0 c1 c2 c3 c4 c5 c6 c7 c8 c9 c10 c11 c12 c13 c14 z0 z1 z2 z3 z4 z5 z6 z7 z8 z9 z10 z11 z12 z13 z14 Yz X7 J0;generalize w7.setCell ⟨db, 2, none⟩ (.slice va vs.length vc) = W75 at X75 HV75 ⊢;refine (Vw pb tb cap b4 0 ts [93] _ X75.o.ps OK.o).mono ?_;intro e w6 Zg;rcases Yj Zg with ⟨er, li, co, hr, rfl, Zb⟩ | ⟨u5, b5, v5, hr, rfl, Zb, Zc, hv⟩
  ·have HE : xQ (R = .inr (er, li, co)) := by rw [HR35.o, hr]; exact rfl
   have HF := Za (X75.o.st.trans Zb);clear hr Zb Zg;go_wp2_with fail;exact ⟨rfl, HF.o, by rw [HE.o]⟩
  have Xi : xQ (R = (Bp ts K b5).go fun h b => (Vi ts K [58] b).go fun y b => (Ze ts b [61]).go fun _ b => (Wo ts ts.length 101 false 0 b).go fun x b => (Ze ts b [59]).go fun _ b => .inl (Qu s ex vs h.1 [h.2, y.1] x t.line t.col, b)) := by rw [HR35.o, hr]; exact rfl
  have X8 := Za (X75.o.step Zb Zc)
  have HVf : xQ (Be (db + 1) w6 va vs) := Ql HV75.o Zb.size fun i hi hl => Zb.keep i (by have := X75.o.lo; omega) hl
  clear hr Zb Zc Zg hv X75 HV75 HR35;go_wp2_with fail;refine (zV pb tb cap 0 ts K Py.o OK.o b5 _ X8.o.ps).mono ?_;intro e w9 Zg;rcases Yj Zg with ⟨er, li, co, hr, rfl, Zb⟩ | ⟨h, b6, v, hr, rfl, Zb, Zc, hv⟩
  ·have HE : xQ (R = .inr (er, li, co)) := by rw [Xi.o, hr]; exact rfl
   have HF := Za (X8.o.st.trans Zb);clear hr Zb Zg;go_wp2_with fail;exact ⟨rfl, HF.o, by rw [HE.o]⟩
  have Xq : xQ (R = (Vi ts K [58] b6).go fun y b => (Ze ts b [61]).go fun _ b => (Wo ts ts.length 101 false 0 b).go fun x b => (Ze ts b [59]).go fun _ b => .inl (Qu s ex vs h.1 [h.2, y.1] x t.line t.col, b)) := by rw [Xi.o, hr]; exact rfl
  obtain ⟨u9, rfl, hv⟩ := hv;obtain ⟨k1, nm1, na1, nl1, nc1, ka1, kl1, kc1, rfl⟩ := hv.cells;have hd8 := xB X8.o.box;have hd9 := Zb.size;have HT9 := Za ((hv.lower (show db + 1 <= w6.heap.size by omega)).alloc (Z5 k1 nm1 na1 nl1 nc1 ka1 kl1 kc1))
  have HV9 : xQ (Be (db + 1) (w9.alloc (Z5 k1 nm1 na1 nl1 nc1 ka1 kl1 kc1)) va vs) := Ql (Ql HVf.o Zb.size fun i hi hl => Zb.keep i (by have := X8.o.lo; omega) hl) (by simp) fun i _ hl => xA hl
  have X9 := Za ((X8.o.step Zb Zc).alloc (Z5 k1 nm1 na1 nl1 nc1 ka1 kl1 kc1));have HB9 : xQ ((w9.alloc (Z5 k1 nm1 na1 nl1 nc1 ka1 kl1 kc1)).heap[w9.heap.size]? = some (Z5 k1 nm1 na1 nl1 nc1 ka1 kl1 kc1)) := xL _ _
  have hg9 : db < w9.heap.size := by omega
  clear hr Zb Zc Zg hv X8 HVf Xi hd8 hd9;go_wp2_with fail;generalize w9.alloc (Z5 k1 nm1 na1 nl1 nc1 ka1 kl1 kc1) = W9 at HT9 HV9 X9 HB9 ⊢;generalize w9.heap.size = tb9 at HB9 hg9 ⊢;refine (A5 pb tb cap 0 ts [58] K Py.o OK.o b6 _ X9.o.ps).mono ?_;intro e w10 Zg;rcases Yj Zg with ⟨er, li, co, hr, rfl, Zb⟩ | ⟨y, b7, v, hr, rfl, Zb, Zc, hv⟩
  ·have HE : xQ (R = .inr (er, li, co)) := by rw [Xq.o, hr]; exact rfl
   have HF := Za (X9.o.st.trans Zb);clear hr Zb Zg;go_wp2_with fail;exact ⟨rfl, HF.o, by rw [HE.o]⟩
  have Te : xQ (R = (Ze ts b7 [61]).go fun _ b => (Wo ts ts.length 101 false 0 b).go fun x b => (Ze ts b [59]).go fun _ b => .inl (Qu s ex vs h.1 [h.2, y.1] x t.line t.col, b)) := by rw [Xq.o, hr]; exact rfl
  obtain ⟨u10, rfl, hv⟩ := hv;obtain ⟨k2, nm2, na2, nl2, nc2, ka2, kl2, kc2, rfl⟩ := hv.cells;have hd9 := xB X9.o.box;have ht9 := xB HB9.o;have hd10 := Zb.size;have Sj := Za ((hv.lower (show db + 1 <= W9.heap.size by omega)).alloc (Z5 k2 nm2 na2 nl2 nc2 ka2 kl2 kc2));have Si := Za ((HT9.o.stay Zb (by have := X9.o.lo; omega)).alloc (Z5 k2 nm2 na2 nl2 nc2 ka2 kl2 kc2))
  have Sk : xQ (Be (db + 1) (w10.alloc (Z5 k2 nm2 na2 nl2 nc2 ka2 kl2 kc2)) va vs) := Ql (Ql HV9.o Zb.size fun i hi hl => Zb.keep i (by have := X9.o.lo; omega) hl) (by simp) fun i _ hl => xA hl
  have G9 : xQ ((w10.alloc (Z5 k2 nm2 na2 nl2 nc2 ka2 kl2 kc2)).heap[tb9]? = some (Z5 k1 nm1 na1 nl1 nc1 ka1 kl1 kc1)) := (xA (by omega)).trans ((Zb.keep tb9 (by have := X9.o.lo; omega) ht9).trans HB9.o);have Hv : xQ ((w10.alloc (Z5 k2 nm2 na2 nl2 nc2 ka2 kl2 kc2)).heap[w10.heap.size]? = some (Z5 k2 nm2 na2 nl2 nc2 ka2 kl2 kc2)) := xL _ _;have X10 := Za ((X9.o.step Zb Zc).alloc (Z5 k2 nm2 na2 nl2 nc2 ka2 kl2 kc2))
  have hg10 : db < w10.heap.size := by omega
  clear hr Zb Zc Zg hv X9 HV9 Xq hd9 hd10 HT9 HB9;obtain ⟨⟨p0, p1, p2, p3⟩, _, Xc⟩ := Z6 G9.o;obtain ⟨⟨q0, q1, q2, q3⟩, _, hql⟩ := Z6 Hv.o;obtain ⟨⟨c0, c1, c2, c3, c4, c5, c6, c7, c8, c9, c10, c11, c12, c13, c14⟩, ⟨z0, z1, z2, z3, z4, z5, z6, z7, z8, z9, z10, z11, z12, z13, z14⟩, Yz⟩ := U3 X10.o.box
  have Gu : ¬ tb9 = db := by omega
  have Ey : ¬ w10.heap.size = db := by omega
  go_wp2_with fail;clear p0 p1 p2 p3 Xc q0 q1 q2 q3 hql c0 c1 c2 c3 c4 c5 c6 c7 c8 c9 c10 c11 c12 c13 c14 z0 z1 z2 z3 z4 z5 z6 z7 z8 z9 z10 z11 z12 z13 z14 Yz;generalize w10.alloc (Z5 k2 nm2 na2 nl2 nc2 ka2 kl2 kc2) = W10 at Sj Si Sk G9 Hv X10 ⊢;generalize w10.heap.size = tb10 at Hv hg10 Ey ⊢;obtain ⟨⟨p0, p1, p2, p3⟩, _, Xc⟩ := Z6 G9.o;obtain ⟨⟨q0, q1, q2, q3⟩, _, hql⟩ := Z6 Hv.o;obtain ⟨⟨c0, c1, c2, c3, c4, c5, c6, c7, c8, c9, c10, c11, c12, c13, c14⟩, ⟨z0, z1, z2, z3, z4, z5, z6, z7, z8, z9, z10, z11, z12, z13, z14⟩, Yz⟩ := U3 X10.o.box
  go_region;have X11 : xQ (Mj pb tb cap 0 ts w (((W10.setCell ⟨db, 3, none⟩ (.string ⟨h.1.toArray⟩)).setCell ⟨db, 4, none⟩ (.slice (some ⟨W10.heap.size, 0, none⟩) 2 2)).alloc (.cells #[.int .i64 k1, .string nm1, .slice na1 nl1 nc1, .slice ka1 kl1 kc1, .int .i64 k2, .string nm2, .slice na2 nl2 nc2, .slice ka2 kl2 kc2] 42)).drew b7 db [.string ⟨s.toArray⟩, .bool ex, .slice va vs.length vc, .string ⟨h.1.toArray⟩, .slice (some ⟨W10.heap.size, 0, none⟩) 2 2, .int .i64 0, .string ⟨#[]⟩, .int .i64 0, .int .i64 0, .int .i64 0, .slice none 0 0, .slice none 0 0, .slice none 0 0, .int .i64 t.line, .int .i64 t.col]) := (((X10.o.set 3 _).set 4 _).alloc _).drew
  have hkp : ∀ (o : Obj) i, db + 1 <= i -> i < W10.heap.size -> (((W10.setCell ⟨db, 3, none⟩ (.string ⟨h.1.toArray⟩)).setCell ⟨db, 4, none⟩ (.slice (some ⟨W10.heap.size, 0, none⟩) 2 2)).alloc o).drew.heap[i]? = W10.heap[i]? := fun o i hi hl => by
   rw [Hc, xA (by rw [Ye, Ye]; exact hl), xH (by show i ≠ db; omega), xH (by show i ≠ db; omega)]
  have Jb : ∀ (o : Obj), W10.heap.size <= (((W10.setCell ⟨db, 3, none⟩ (.string ⟨h.1.toArray⟩)).setCell ⟨db, 4, none⟩ (.slice (some ⟨W10.heap.size, 0, none⟩) 2 2)).alloc o).drew.heap.size := fun o => by rw [Hc, xS, Ye, Ye]; omega
  have hkr : ∀ (o : Obj), (((W10.setCell ⟨db, 3, none⟩ (.string ⟨h.1.toArray⟩)).setCell ⟨db, 4, none⟩ (.slice (some ⟨W10.heap.size, 0, none⟩) 2 2)).alloc o).drew.heap[W10.heap.size]? = some o := fun o => by
   have := xL ((W10.setCell ⟨db, 3, none⟩ (.string ⟨h.1.toArray⟩)).setCell ⟨db, 4, none⟩ (.slice (some ⟨W10.heap.size, 0, none⟩) 2 2)) o;rw [Ye, Ye] at this;exact this
  have Sl := Za (Ql Sk.o (Jb _) (hkp (.cells #[.int .i64 k1, .string nm1, .slice na1 nl1 nc1, .slice ka1 kl1 kc1, .int .i64 k2, .string nm2, .slice na2 nl2 nc2, .slice ka2 kl2 kc2] 42)));have Fb := Za (vX (Si.o.keep (Jb _) (hkp _)) (Sj.o.keep (Jb _) (hkp _)) (hkr (.cells #[.int .i64 k1, .string nm1, .slice na1 nl1 nc1, .slice ka1 kl1 kc1, .int .i64 k2, .string nm2, .slice na2 nl2 nc2, .slice ka2 kl2 kc2] 42)) (show db + 1 <= W10.heap.size from Yz))
  clear hkp Jb hkr Sk Si Sj G9 Hv X10 p0 p1 p2 p3 Xc q0 q1 q2 q3 hql c0 c1 c2 c3 c4 c5 c6 c7 c8 c9 c10 c11 c12 c13 c14 z0 z1 z2 z3 z4 z5 z6 z7 z8 z9 z10 z11 z12 z13 z14 Yz Gu Ey hg10 hg9;generalize (((W10.setCell ⟨db, 3, none⟩ (.string ⟨h.1.toArray⟩)).setCell ⟨db, 4, none⟩ (.slice (some ⟨W10.heap.size, 0, none⟩) 2 2)).alloc (.cells #[.int .i64 k1, .string nm1, .slice na1 nl1 nc1, .slice ka1 kl1 kc1, .int .i64 k2, .string nm2, .slice na2 nl2 nc2, .slice ka2 kl2 kc2] 42)).drew = W11 at X11 Sl Fb ⊢
  generalize W10.heap.size = kb at X11 Fb ⊢;obtain ⟨m, hki⟩ := Fb.o;have HKi := Za hki;clear hki Fb;go_wp2_with fail;refine (Vw pb tb cap b7 0 ts [61] _ X11.o.ps OK.o).mono ?_;intro e w12 Zg;rcases Yj Zg with ⟨er, li, co, hr, rfl, Zb⟩ | ⟨u12, b8, v12, hr, rfl, Zb, Zc, hv⟩
  ·have HE : xQ (R = .inr (er, li, co)) := by rw [Te.o, hr]; exact rfl
   have HF := Za (X11.o.st.trans Zb);clear hr Zb Zg;go_wp2_with fail;exact ⟨rfl, HF.o, by rw [HE.o]⟩
  have Vs : xQ (R = (Wo ts ts.length 101 false 0 b8).go fun x b => (Ze ts b [59]).go fun _ b => .inl (Qu s ex vs h.1 [h.2, y.1] x t.line t.col, b)) := by rw [Te.o, hr]; exact rfl
  have X12 := Za (X11.o.step Zb Zc);have HV12 := Za (Ql Sl.o Zb.size fun i hi hl => Zb.keep i (by have := X11.o.lo; omega) hl);have HK12 := Za (Ni HKi.o Zb.size fun i hi hl => Zb.keep i (by have := X11.o.lo; omega) hl);clear hr Zb Zc Zg hv X11 Sl HKi Te;go_wp2_with fail;refine (Ev pb tb cap ts OK.o 101 0 rfl (by omega) b8 _ X12.o.ps).1.mono ?_;intro e w13 Zg;rcases Yj Zg with ⟨er, li, co, hr, rfl, Zb⟩ | ⟨B, b9, v13, hr, rfl, Zb, Zc, x, rfl, hv⟩
  ·have HE : xQ (R = .inr (er, li, co)) := by rw [Vs.o, hr]; exact rfl
   have HF := Za (X12.o.st.trans Zb);clear hr Zb Zg;go_wp2_with fail;exact ⟨rfl, HF.o, by rw [HE.o]⟩
  have Jv : xQ (R = (Ze ts b9 [59]).go fun _ b => .inl (Qu s ex vs h.1 [h.2, y.1] B t.line t.col, b)) := by rw [Vs.o, hr]; exact rfl
  have X13 := Za (X12.o.step Zb Zc);have HV13 := Za (Ql HV12.o Zb.size fun i hi hl => Zb.keep i (by have := X12.o.lo; omega) hl);have HK13 := Za (Ni HK12.o Zb.size fun i hi hl => Zb.keep i (by have := X12.o.lo; omega) hl);have hd12 := xB X12.o.box;have HN13 := Za (hv.lower (show db + 1 <= w12.heap.size by omega));clear hr Zb Zc Zg hv X12 HV12 HK12 Vs hd12;obtain ⟨⟨c0, c1, c2, c3, c4, c5, c6, c7, c8, c9, c10, c11, c12, c13, c14⟩, ⟨z0, z1, z2, z3, z4, z5, z6, z7, z8, z9, z10, z11, z12, z13, z14⟩, Yz⟩ := U3 X13.o.box
  go_wp2_with fail;have X14 : xQ (Mj pb tb cap 0 ts w ((((((((w13.setCell ⟨db, 5, none⟩ (.int .i64 x.k)).setCell ⟨db, 6, none⟩ (.string x.tx)).setCell ⟨db, 7, none⟩ (.int .i64 x.N)).setCell ⟨db, 8, none⟩ (.int .i64 x.li)).setCell ⟨db, 9, none⟩ (.int .i64 x.co)).setCell ⟨db, 10, none⟩ (.slice x.ta x.tl x.tc)).setCell ⟨db, 11, none⟩ (.slice x.na x.nl x.nc)).setCell ⟨db, 12, none⟩ (.slice x.ka x.kl x.kc)) b9 db [.string ⟨s.toArray⟩, .bool ex, .slice va vs.length vc, .string ⟨h.1.toArray⟩, .slice (some ⟨kb, 0, none⟩) 2 2, .int .i64 x.k, .string x.tx, .int .i64 x.N, .int .i64 x.li, .int .i64 x.co, .slice x.ta x.tl x.tc, .slice x.na x.nl x.nc, .slice x.ka x.kl x.kc, .int .i64 t.line, .int .i64 t.col]) := (((((((X13.o.set 5 _).set 6 _).set 7 _).set 8 _).set 9 _).set 10 _).set 11 _).set 12 _
  have Sm : xQ (Be (db + 1) ((((((((w13.setCell ⟨db, 5, none⟩ (.int .i64 x.k)).setCell ⟨db, 6, none⟩ (.string x.tx)).setCell ⟨db, 7, none⟩ (.int .i64 x.N)).setCell ⟨db, 8, none⟩ (.int .i64 x.li)).setCell ⟨db, 9, none⟩ (.int .i64 x.co)).setCell ⟨db, 10, none⟩ (.slice x.ta x.tl x.tc)).setCell ⟨db, 11, none⟩ (.slice x.na x.nl x.nc)).setCell ⟨db, 12, none⟩ (.slice x.ka x.kl x.kc)) va vs) := Ql HV13.o (Dx w13 db x) fun i hi _ => Dw w13 x (show i ≠ db by omega)
  have Sb : xQ (Ut ((((((((w13.setCell ⟨db, 5, none⟩ (.int .i64 x.k)).setCell ⟨db, 6, none⟩ (.string x.tx)).setCell ⟨db, 7, none⟩ (.int .i64 x.N)).setCell ⟨db, 8, none⟩ (.int .i64 x.li)).setCell ⟨db, 9, none⟩ (.int .i64 x.co)).setCell ⟨db, 10, none⟩ (.slice x.ta x.tl x.tc)).setCell ⟨db, 11, none⟩ (.slice x.na x.nl x.nc)).setCell ⟨db, 12, none⟩ (.slice x.ka x.kl x.kc)) (db + 1) m (some ⟨kb, 0, none⟩) [h.2, y.1]) := Ni HK13.o (Dx w13 db x) fun i hi _ => Dw w13 x (show i ≠ db by omega)
  have Sd : xQ (Yi (db + 1) ((((((((w13.setCell ⟨db, 5, none⟩ (.int .i64 x.k)).setCell ⟨db, 6, none⟩ (.string x.tx)).setCell ⟨db, 7, none⟩ (.int .i64 x.N)).setCell ⟨db, 8, none⟩ (.int .i64 x.li)).setCell ⟨db, 9, none⟩ (.int .i64 x.co)).setCell ⟨db, 10, none⟩ (.slice x.ta x.tl x.tc)).setCell ⟨db, 11, none⟩ (.slice x.na x.nl x.nc)).setCell ⟨db, 12, none⟩ (.slice x.ka x.kl x.kc)) x B) := HN13.o.keep (Dx w13 db x) fun i hi _ => Dw w13 x (show i ≠ db by omega)
  clear c0 c1 c2 c3 c4 c5 c6 c7 c8 c9 c10 c11 c12 c13 c14 z0 z1 z2 z3 z4 z5 z6 z7 z8 z9 z10 z11 z12 z13 z14 Yz X13 HV13 HK13 HN13;generalize (((((((w13.setCell ⟨db, 5, none⟩ (.int .i64 x.k)).setCell ⟨db, 6, none⟩ (.string x.tx)).setCell ⟨db, 7, none⟩ (.int .i64 x.N)).setCell ⟨db, 8, none⟩ (.int .i64 x.li)).setCell ⟨db, 9, none⟩ (.int .i64 x.co)).setCell ⟨db, 10, none⟩ (.slice x.ta x.tl x.tc)).setCell ⟨db, 11, none⟩ (.slice x.na x.nl x.nc)).setCell ⟨db, 12, none⟩ (.slice x.ka x.kl x.kc) = W14 at X14 Sm Sb Sd ⊢
  refine (Vw pb tb cap b9 0 ts [59] _ X14.o.ps OK.o).mono ?_;intro e w15 Zg;rcases Yj Zg with ⟨er, li, co, hr, rfl, Zb⟩ | ⟨u15, b10, v15, hr, rfl, Zb, Zc, hv⟩
  ·have HE : xQ (R = .inr (er, li, co)) := by rw [Jv.o, hr]; exact rfl
   have HF := Za (X14.o.st.trans Zb);clear hr Zb Zg;go_wp2_with fail;exact ⟨rfl, HF.o, by rw [HE.o]⟩
  have HR9 : xQ (R = .inl (Qu s ex vs h.1 [h.2, y.1] B t.line t.col, b10)) := by rw [Jv.o, hr]; exact rfl
  have X15 := Za (X14.o.step Zb Zc);have HV15 := Za (Ql Sm.o Zb.size fun i hi hl => Zb.keep i (by have := X14.o.lo; omega) hl);have HK15 := Za (Ni Sb.o Zb.size fun i hi hl => Zb.keep i (by have := X14.o.lo; omega) hl);have HN15 := Za (Sd.o.stay Zb (by have := X14.o.lo; omega));clear hr Zb Zc Zg hv X14 Sm Sb Sd Jv;obtain ⟨⟨c0, c1, c2, c3, c4, c5, c6, c7, c8, c9, c10, c11, c12, c13, c14⟩, _, Yz⟩ := U3 X15.o.box
  obtain ⟨⟨r0, r1, r2, r3, r4, r5, r6, r7, r8, r9, r10, r11, r12, r13, r14⟩, ⟨z0, z1, z2, z3, z4, z5, z6, z7, z8, z9, z10, z11, z12, z13, z14⟩, Xu⟩ := U3 X15.o.res
  have Z3 : ¬ db = w.heap.size := by have := X15.o.lo; omega
  go_wp2_with fail;rw [HR9.o];refine bodyPost_ret (results_cell_row rfl _ _ w.heap.size 48 _ (0, 0) _ rfl (qC X15.o.res _ _ _ _ _ _ _ _ _ _ _ _ _ _ _) underlying48 rfl (by kernel_rfl)) rfl ⟨qT X15.o.st hp (xR) _ _ _ _ _ _ _ _ _ _ _ _ _ _ _, qB X15.o.ps hp _ _ _ _ _ _ _ _ _ _ _ _ _ _ _, _, rfl, [_, _, _, _, _, _, _, _, _, _, _, _, _, _, _], rfl, s, ex, vs, va, vc, h.1, some ⟨kb, 0, none⟩, 2, [h.2, y.1], x, B, t.line, t.col, m, rfl, rfl, Q8.o, rfl, ?_, ?_, ?_⟩
  ·exact Cj (Ql HV15.o (Nat.le_of_eq (Rw _ _ _ _ _ _ _ _ _ _ _ _ _ _ _).symm) fun i hi _ => Rv (by have := X15.o.lo; omega) _ _ _ _ _ _ _ _ _ _ _ _ _ _ _) (by have := X15.o.lo; omega)
  ·exact Ae (Ni HK15.o (Nat.le_of_eq (Rw _ _ _ _ _ _ _ _ _ _ _ _ _ _ _).symm) fun i hi _ => Rv (by have := X15.o.lo; omega) _ _ _ _ _ _ _ _ _ _ _ _ _ _ _) (by have := X15.o.lo; omega)
  ·exact (HN15.o.keep (Nat.le_of_eq (Rw _ _ _ _ _ _ _ _ _ _ _ _ _ _ _).symm) fun i hi _ => Rv (by have := X15.o.lo; omega) _ _ _ _ _ _ _ _ _ _ _ _ _ _ _).lower (by have := X15.o.lo; omega)
def Bg (ts : List Tok) : Nat -> Nat -> Pr (List Ty)
 | 0, a => Wa ts 7 a
 | f + 1, a => if Zh ts a [101, 120, 112, 111, 114, 116] || Zh ts a [102, 110] then (M5 ts a).go fun d b => (Bg ts f b).go fun r b => .inl (d :: r, b) else .inl ([], a)
def Dv (ts : List Tok) : Pr (List Ty × List Ty) := (L1 ts ts.length 0).go fun i a => (Bg ts (ts.length + 1) a).go fun d a => .inl ((i, d), a)
theorem qO {ts : List Tok} {a : Nat} {s : List UInt8} (h : ((Zk ts a).kind == 0) = true) : Zh ts a s = false := by
 have h0 : (Zk ts a).kind = 0 := by simpa using h
 unfold Zh
 rw [h0]
 rfl
theorem wK (ts : List Tok) : ∀ f a, Bg ts f a = Bf ts f a ∨ ∃ l b, Bg ts f a = .inl (l, b) /\ ((Zk ts b).kind == 0) = false /\ Bf ts f a = Wa ts 7 b
 | 0, a => .inl rfl
 | f + 1, a => by
  unfold Bg Bf
  cases hk : ((Zk ts a).kind == 0) with
  | true =>
   rw [qO hk, qO hk];exact .inl rfl
  | false =>
   cases hs : (Zh ts a [101, 120, 112, 111, 114, 116] || Zh ts a [102, 110]) with
   | false =>
    obtain ⟨h1, h2⟩ := Bool.or_eq_false_iff.1 hs;refine .inr ⟨[], a, rfl, hk, ?_⟩;rw [if_neg (by simp), O0, h1, if_neg (by simp), Ze, h2];rfl
   | true =>
    rw [if_pos rfl, if_neg (by simp)]
    cases hd : M5 ts a with
    | inr e => exact .inl rfl
    | inl p =>
     obtain ⟨d, b⟩ := p;show Pr.go (Bg ts f b) _ = Pr.go (Bf ts f b) _ ∨ ∃ l c, Pr.go (Bg ts f b) _ = _ /\ _ /\ Pr.go (Bf ts f b) _ = _;rcases wK ts f b with h | ⟨l, c, h1, h2, h3⟩
     ·exact .inl (by rw [h])
     ·exact .inr ⟨d :: l, c, by rw [h1]; rfl, h2, by rw [h3]; rfl⟩
theorem uR (ts : List Tok) : Bz ts (Dv ts) = Bz ts (Fw ts) := by
 unfold Dv Fw
 cases L1 ts ts.length 0 with
 | inr e => rfl
 | inl p =>
  obtain ⟨i, a⟩ := p;show Bz ts (Pr.go (Bg ts (ts.length + 1) a) _) = Bz ts (Pr.go (Bf ts (ts.length + 1) a) _);rcases wK ts (ts.length + 1) a with h | ⟨l, b, h1, h2, h3⟩
  ·rw [h]
  ·rw [h1, h3]
   show (if ((Zk ts b).kind == 0) = true then _ else _) = _;rw [h2];rfl
theorem E0 {ts : List Tok} {f a : Nat} (h : Zh ts a [105, 109, 112, 111, 114, 116] = true) : L1 ts (f + 1) a = (Mb ts a).go fun d b => (L1 ts f b).go fun r b => .inl (d :: r, b) := by
 rw [L1, if_pos h, Mb, Ze, if_pos h]
 show Pr.go (Zr ts (a + 1)) _ = Pr.go (Pr.go (Zr ts (a + 1)) _) _
 cases Zr ts (a + 1) with
 | inr e => rfl
 | inl p =>
  show Pr.go (Ze ts p.2 [58]) _ = Pr.go (Pr.go (Ze ts p.2 [58]) _) _
  cases Ze ts p.2 [58] with
  | inr e => rfl
  | inl q =>
   show Pr.go (Yd ts (Zr ts) [44] ts.length q.2) _ = Pr.go (Pr.go (Yd ts (Zr ts) [44] ts.length q.2) _) _
   cases Yd ts (Zr ts) [44] ts.length q.2 with
   | inr e => rfl
   | inl r =>
    show Pr.go (Ze ts r.2 [59]) _ = Pr.go (Pr.go (Ze ts r.2 [59]) _) _
    cases Ze ts r.2 [59] <;> rfl
def G8 (ts : List Tok) (R : Pr (List Ty × List Ty)) (acc : List Ty) (m b : Nat) : Prop := R = (L1 ts m b).go fun r c => (Bg ts (ts.length + 1) c).go fun d c => .inl ((acc ++ r, d), c)
def G7 (ts : List Tok) (R : Pr (List Ty × List Ty)) (is acc : List Ty) (m b : Nat) : Prop := R = (Bg ts m b).go fun r c => .inl ((is, acc ++ r), c)
theorem nL (ts : List Tok) : G8 ts (Dv ts) [] ts.length 0 := rfl
theorem nK {ts : List Tok} {R : Pr (List Ty × List Ty)} {acc : List Ty} {m b c : Nat} {D : Ty} (h : G8 ts R acc (m + 1) b) (hs : Zh ts b [105, 109, 112, 111, 114, 116] = true) (hi : Mb ts b = .inl (D, c)) : G8 ts R (acc ++ [D]) m c := by
 unfold G8 at h ⊢
 rw [h, E0 hs, hi]
 show Pr.go (Pr.go (L1 ts m c) _) _ = _
 cases L1 ts m c with
 | inr e => rfl
 | inl p =>
  show Pr.go (Bg ts (ts.length + 1) p.2) _ = Pr.go (Bg ts (ts.length + 1) p.2) _;simp
theorem nJ {ts : List Tok} {R : Pr (List Ty × List Ty)} {acc : List Ty} {m b : Nat} {e : Int × Nat × Nat} (h : G8 ts R acc (m + 1) b) (hs : Zh ts b [105, 109, 112, 111, 114, 116] = true) (hi : Mb ts b = .inr e) : R = .inr e := by
 rw [h, E0 hs, hi]
 rfl
theorem nH {ts : List Tok} {R : Pr (List Ty × List Ty)} {acc : List Ty} {m b : Nat} (h : G8 ts R acc (m + 1) b) (hs : Zh ts b [105, 109, 112, 111, 114, 116] = false) : G7 ts R acc [] (ts.length + 1) b := by
 unfold G7
 rw [h, L1, if_neg (by simp [hs])]
 simp [Pr.go]
theorem nG {ts : List Tok} {R : Pr (List Ty × List Ty)} {is acc : List Ty} {m b c : Nat} {D : Ty} (h : G7 ts R is acc (m + 1) b) (hs : (Zh ts b [101, 120, 112, 111, 114, 116] || Zh ts b [102, 110]) = true) (hi : M5 ts b = .inl (D, c)) : G7 ts R is (acc ++ [D]) m c := by
 unfold G7 at h ⊢
 rw [h, Bg, if_pos hs, hi]
 show Pr.go (Pr.go (Bg ts m c) _) _ = _
 cases Bg ts m c with
 | inr e => rfl
 | inl p => simp [Pr.go]
theorem nF {ts : List Tok} {R : Pr (List Ty × List Ty)} {is acc : List Ty} {m b : Nat} {e : Int × Nat × Nat} (h : G7 ts R is acc (m + 1) b) (hs : (Zh ts b [101, 120, 112, 111, 114, 116] || Zh ts b [102, 110]) = true) (hi : M5 ts b = .inr e) : R = .inr e := by
 rw [h, Bg, if_pos hs, hi]
 rfl
theorem nE {ts : List Tok} {R : Pr (List Ty × List Ty)} {is acc : List Ty} {m b : Nat} (h : G7 ts R is acc (m + 1) b) (hs : (Zh ts b [101, 120, 112, 111, 114, 116] || Zh ts b [102, 110]) = false) : R = .inl ((is, acc), b) := by
 rw [h, Bg, if_neg (by simp [hs])]
 simp [Pr.go]
theorem O9 {ts : List Tok} {a : Nat} : Uw (a + 1) (Mb ts a) := by
 unfold Mb
 exact Yp (Wx (Xh (xR) _) (F5 _ _)) fun _ _ h => Yp (Hs h) fun _ _ h => Yp (Td h _) fun _ _ h => Yp (Aw (fun a x b h => by rw [Gw h]; omega) _ h) fun _ _ h => Yp (Td h _) fun _ _ h => Xh h _
theorem mA {ts : List Tok} {K : Nat -> Pr Ty} (hK : ∀ a x b, K a = .inl (x, b) -> a <= b) {a c : Nat} (h : a <= c) (s : List UInt8) : Uw a (Vi ts K s c) := Wx (Yp (Tc hK (by omega)) fun _ _ h => Xh h _) (Xh h _)
theorem wJ {ts : List Tok} {a : Nat} : Uw (a + 1) (M5 ts a) := by
 have hK : ∀ a x b, Xl ts ts.length 101 0 a = .inl (x, b) -> a <= b := fun a x b h => Af h
 rw [O0]
 refine Yp (Wx (Xh (by split <;> omega) _) (F5 _ _)) fun _ _ h => Yp (Hs h) fun _ _ h => Yp (?_ : Uw _ (Q5 ts _ _ _)) fun _ _ h => Yp (?_ : Uw _ (Bp ts _ _)) fun _ _ h => Yp (mA hK h _) fun _ _ h => Yp (Td h _) fun _ _ h => Yp (Tc (fun a x b h => Sz ts _ _ _ _ a x b h) h) fun _ _ h => Yp (Td h _) fun _ _ h => Xh h _
 ·refine Wx (Yp (Aw (fun a x b h => ?_) _ (by omega)) fun _ _ h => Yp (Td h _) fun _ _ h => Xh h _) (Xh h _)
  exact (Yp (Hs (xR)) fun _ _ h => Wx (Yp (Tc hK (by omega)) fun _ _ h => Xh h _) (Xh h _) : Uw a (Pl ts _ a)) x b h
 ·exact Yp (Td h _) fun _ _ h => Yp (Hs h) fun _ _ h => Yp (mA hK h _) fun _ _ h => Yp (Td h _) fun _ _ h => Xh h _
theorem Do : Lo N9 where
 keep := fun h hs hk => by
  obtain ⟨s, l, na, nc, li, co, e1, e2, e3, e4⟩ := h;exact ⟨s, l, na, nc, li, co, e1, e2, e3, Fx e4 hs hk⟩
 lower := fun h hl => by
  obtain ⟨s, l, na, nc, li, co, e1, e2, e3, e4⟩ := h;exact ⟨s, l, na, nc, li, co, e1, e2, e3, Iz e4 hl⟩
theorem Gp : Lo N2 where
 keep := fun h hs hk => by
  obtain ⟨s, ex, vs, va, vc, pm, ta, tc, tys, x, B, li, co, m, e1, e2, e3, e4, e5, e6, e7⟩ := h;exact ⟨s, ex, vs, va, vc, pm, ta, tc, tys, x, B, li, co, m, e1, e2, e3, e4, Ql e5 hs hk, Ni e6 hs hk, e7.keep hs hk⟩
 lower := fun h hl => by
  obtain ⟨s, ex, vs, va, vc, pm, ta, tc, tys, x, B, li, co, m, e1, e2, e3, e4, e5, e6, e7⟩ := h;exact ⟨s, ex, vs, va, vc, pm, ta, tc, tys, x, B, li, co, m, e1, e2, e3, e4, Cj e5 hl, Ae e6 hl, e7.lower hl⟩
theorem vQ : (prog.info? 58).map (fun i => (i.zero, i.size, i.bytes)) = some (some (.agg #[.string ⟨#[]⟩, .slice none 0 0, .int .i64 0, .int .i64 0]), 4, 56) := by kernel_rfl
theorem vP : (prog.info? 48).map (fun i => (i.zero, i.size, i.bytes)) = some (some (.agg #[.string ⟨#[]⟩, .bool false, .slice none 0 0, .string ⟨#[]⟩, .slice none 0 0, .int .i64 0, .string ⟨#[]⟩, .int .i64 0, .int .i64 0, .int .i64 0, .slice none 0 0, .slice none 0 0, .slice none 0 0, .int .i64 0, .int .i64 0]), 15, 224) := by kernel_rfl
def J3 {α : Type} (rep : Nat -> World -> List Value -> α -> Prop) (k lo : Nat) (w : World) (a : Option Addr) (xs : List α) : Prop := xs = [] ∨ ∃ g, a = some ⟨g, 0, none⟩ /\ lo <= g /\ N0 w g /\
  ∀ i (hi : i < xs.length), ∃ c : List Value, c.length = k /\ (∀ j, j < k -> w.cell? ⟨g, i * k + j, none⟩ = c[j]?) /\ rep lo w c xs[i]
section
variable {α : Type} {rep : Nat -> World -> List Value -> α -> Prop} {k lo lo' : Nat} {w w' : World} {a : Option Addr} {xs : List α}
theorem Od (hK : Lo rep) (h : J3 rep k lo w a xs) (hl : lo' <= lo) : J3 rep k lo' w a xs := by
 rcases h with h | ⟨g, e, hg, hc, hr⟩
 ·exact .inl h
 ·refine .inr ⟨g, e, Nat.le_trans hl hg, hc, fun i hi => ?_⟩
  obtain ⟨c, h1, h2, h3⟩ := hr i hi;exact ⟨c, h1, h2, hK.lower h3 hl⟩
theorem Rz (hK : Lo rep) (h : J3 rep k lo w a xs) (hs : w.heap.size <= w'.heap.size) (hk : ∀ b, lo <= b -> b < w.heap.size -> w'.heap[b]? = w.heap[b]?) : J3 rep k lo w' a xs := by
 rcases h with h | ⟨g, e, hg, hc, hr⟩
 ·exact .inl h
 ·obtain ⟨cs, ty, hh⟩ := hc
  have Ts := hk g hg (xB hh);refine .inr ⟨g, e, hg, ⟨cs, ty, Ts.trans hh⟩, fun i hi => ?_⟩;obtain ⟨c, h1, h2, h3⟩ := hr i hi;refine ⟨c, h1, fun j hj => ?_, hK.keep h3 hs hk⟩;have := h2 j hj;unfold World.cell? at this ⊢;simp only at this ⊢;rw [Ts];exact this
end
def Cp (lo : Nat) (w : World) (v : Value) (x : List Ty × List Ty) : Prop := ∃ ia ic da dc, v = .agg #[.slice ia x.1.length ic, .slice da x.2.length dc] /\ x.1.length <= 8193 /\ x.2.length <= 8193 /\ J3 N9 4 lo w ia x.1 /\ J3 N2 15 lo w da x.2
theorem qU {P : Program} {ops : Array Oper} {o : Oper} {a : Act} {w : World} {K : Act -> World -> Prop} {Q : Exit -> Act -> World -> Prop} {E : Prop}
  (hg : o.guard = none) (s x : Operand) (t : TypeId) (hop : o.op = Op.call { callee := Callee.builtin Builtin.append, args := #[s, x], argTypes := #[t, t] })
  (base : Nat) (e : TypeId) (i : TypeInfo) (z : Value) (size bytes : Nat) (ht : P.underlying t = some (.slice e)) (hi : P.info? e = some i) (hz : i.zero = some z)
  (hsize : i.size = size) (hby : i.bytes = bytes) (hzs : z.cells.size = size) (hsz : 0 < size)
  (v : Value) (n : Nat) (xs : List Value) (hs : a.eval s = v) (Xk : w.ownsRow base e size v n xs)
  (ad : Addr) (m c : Nat) (news : List Value) (hx : a.eval x = .slice (some ad) m c) (hl : news.length = m * size) (hnews : ∀ j u, news[j]? = some u -> w.cell? (ad.add j) = some u) (h1 : ∀ u ∈ news, u.oneCell' = true)
  (h63 : n + m <= maxLen) (hbytes : (n + m) * bytes <= 140737488355328) (hbase : base <= w.heap.size)
  (hK : ∀ v' w', w'.ownsRow base e size v' (n + m) (xs ++ news) -> w.grownBy w' v.ownBlock -> (v'.ownBlock = v.ownBlock ∨ v'.ownBlock = some w.heap.size) -> K (a.put o.dst v') w') :
  if Region.wanted o (yielded ops a.tmps) = true then Oper.wp P o a w K Q else E := by
 have hw : Region.wanted o (yielded ops a.tmps) = true := by simp [Region.wanted, hg]
 rw [if_pos hw]
 obtain ⟨v', w', hr, h2, h3, _, h5⟩ := run_append_own_at (P := P) w base t o.type e i z size bytes ht hi hz hsize hby hzs hsz v n xs Xk ad m c news hl hnews h1 h63 hbytes hbase
 unfold Oper.wp
 simp [execOp, hop, resolve, invoke, builtin, hs, hx, hr, Result.andThen]
 exact hK v' w' h2 h3 h5
abbrev modO (vi vd : Value) : Obj := .cells #[vi, vd] 26
abbrev zMod : Obj := modO (.slice none 0 0) (.slice none 0 0)
structure Uu (pb tb cap : Nat) (ts : List Tok) (w0 w : World) (b : Nat) (vi vd : Value) : Prop where
 st : Zl pb w0 w
 ps : Ps w pb tb cap ts b 0
 hp : pb < w0.heap.size
 res : w.heap[w0.heap.size]? = some zMod
 box : w.heap[w0.heap.size + 1]? = some (modO vi vd)
section
variable {pb tb cap b b' : Nat} {ts : List Tok} {w0 w w' w4 : World} {vi vd : Value} {g : Option Nat}
theorem Uu.lt (h : Uu pb tb cap ts w0 w b vi vd) : w0.heap.size + 2 <= w.heap.size := xB h.box
theorem Uu.step (h : Uu pb tb cap ts w0 w b vi vd) (Zb : Zl pb w w') (Zc : Ps w' pb tb cap ts b' 0) : Uu pb tb cap ts w0 w' b' vi vd where
 st := h.st.trans Zb
 ps := Zc
 hp := h.hp
 res := (Zb.keep _ h.hp (xB h.res)).trans h.res
 box := (Zb.keep _ (by have := h.hp; omega) (xB h.box)).trans h.box
theorem Uu.below (h : Uu pb tb cap ts w0 w b vi vd) (hb : Below w.heap.size w w') : Uu pb tb cap ts w0 w' b vi vd := h.step (Zl.of h.ps.ltp hb) (h.ps.below hb)
theorem Uu.alloc (h : Uu pb tb cap ts w0 w b vi vd) (o : Obj) : Uu pb tb cap ts w0 (w.alloc o) b vi vd := h.below (Zq _ _)
theorem Uu.drew (h : Uu pb tb cap ts w0 w b vi vd) : Uu pb tb cap ts w0 w.drew b vi vd := ⟨h.st.drew, h.ps.drew, h.hp, h.res, h.box⟩
theorem Uu.grown (h : Uu pb tb cap ts w0 w b vi vd) (hg : w.grownBy w4 g) (hr : ∀ k, g = some k -> w0.heap.size + 2 <= k) : Uu pb tb cap ts w0 w4 b vi vd where
 st := h.st.grown hg h.hp fun k hk => by have := hr k hk; omega
 ps := h.ps.grown hg fun k hk => by have := hr k hk; have := h.hp; omega
 hp := h.hp
 res := (hg.block _ (xB h.res) (fun e => by have := hr _ e.symm; omega)).trans h.res
 box := (hg.block _ (xB h.box) (fun e => by have := hr _ e.symm; omega)).trans h.box
theorem Uu.set0 (h : Uu pb tb cap ts w0 w b vi vd) (u : Value) : Uu pb tb cap ts w0 (w.setCell ⟨w0.heap.size + 1, 0, none⟩ u) b u vd where
 st := h.st.own h.hp (by omega) 0 u
 ps := h.ps.other (by have := h.hp; omega) 0 u
 hp := h.hp
 res := (xH (by show w0.heap.size ≠ w0.heap.size + 1; omega)).trans h.res
 box := by
  have h1 := Xe (o := 0) (u := u) h.box
  simpa using h1
theorem Uu.set1 (h : Uu pb tb cap ts w0 w b vi vd) (u : Value) : Uu pb tb cap ts w0 (w.setCell ⟨w0.heap.size + 1, 1, none⟩ u) b vi u where
 st := h.st.own h.hp (by omega) 1 u
 ps := h.ps.other (by have := h.hp; omega) 1 u
 hp := h.hp
 res := (xH (by show w0.heap.size ≠ w0.heap.size + 1; omega)).trans h.res
 box := by
  have h1 := Xe (o := 1) (u := u) h.box
  simpa using h1
end
theorem Fk {W : World} {b : Nat} {x0 x1 : Value} {t : TypeId} (h : W.heap[b]? = some (.cells #[x0, x1] t)) : (W.cell? ⟨b, 0, none⟩ = some x0 /\ W.cell? ⟨b, 1, none⟩ = some x1) /\ (W.frozen? ⟨b, 0, none⟩ = false /\ W.frozen? ⟨b, 1, none⟩ = false) /\ b < W.heap.size := by
 refine ⟨⟨?_, ?_⟩, ⟨?_, ?_⟩, xB h⟩
 all_goals first | (rw [cell_of_row _ _ _ _ _ _ h]; rfl) | simp [World.frozen?, h]
theorem Qv {α : Type} {rep : Nat -> World -> List Value -> α -> Prop} {B et k : Nat} {wx : World} {v : Value} {cs : List (List Value)} {xs : List α} {q : Nat} {oo : Option Nat} (h : Ym rep B et k oo wx v cs xs) (hq : q < B) (o : Nat) (u : Value) : Ym rep B et k oo (wx.setCell ⟨q, o, none⟩ u) v cs xs := by
 have Y6 : ∀ b, B <= b -> (wx.setCell ⟨q, o, none⟩ u).heap[b]? = wx.heap[b]? := fun b hb => xH (by show b ≠ q; omega)
 refine ⟨h.len, h.each, ?_, h.apart, fun r hr => ?_, fun i h1 h2 => ?_⟩
 ·obtain ⟨o1, o2⟩ := h.ow
  refine ⟨o1, ?_⟩;rcases o2 with o2 | ⟨g, cap, cur, e, hg, hh, r⟩
  ·exact .inl o2
  ·exact .inr ⟨g, cap, cur, e, hg, (Y6 g hg).trans hh, r⟩
 ·rw [Ye]; exact h.olt r hr
 ·obtain ⟨wi, lo, m1, m2, m3, m4, m5⟩ := h.made i h1 h2
  exact ⟨wi, lo, m1, m2, by rw [Ye]; exact m3, fun b hb hl => (Y6 b (by omega)).trans (m4 b hb hl), m5⟩
theorem qD {w : World} {b : Nat} {y0 y1 : Value} {t : TypeId} (h : w.heap[b]? = some (.cells #[y0, y1] t)) (x0 x1 : Value) : ((w.setCell ⟨b, 0, none⟩ x0).setCell ⟨b, 1, none⟩ x1).heap[b]? = some (.cells #[x0, x1] t) := by
 have h0 := Xe (o := 0) (u := x0) h
 have h1 := Xe (o := 1) (u := x1) h0
 simpa using h1
end Go.Proofs.YtfoejkhfdiodhaaGreatDoor
