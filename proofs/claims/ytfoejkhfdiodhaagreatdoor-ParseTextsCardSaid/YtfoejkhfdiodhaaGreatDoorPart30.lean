/- Part. -/
import Derived.Test.YtfoejkhfdiodhaaGreatDoorPart25
import Derived.Test.YtfoejkhfdiodhaaGreatDoorPart27
set_option maxRecDepth 100000
set_option maxHeartbeats 4000000
namespace Go.Proofs.YtfoejkhfdiodhaaGreatDoor
open Go.Proofs.Tryz
open Go.RowKit
attribute [local go_sem ↓] Go.wp_at_zero Go.wp_at_succ
def RMd (pb tb cap : Nat) (ts : List Tok) (w : World) (R : Pr (List Ty × List Ty)) (e : Ending) (w' : World) : Prop :=
 Zl pb w w' /\ Z2 w' pb tb cap ts 0 (Zf R) /\ ∃ x : MV, e = .returned x.val /\ ∀ D b, R = .inl (D, b) -> Vu w.heap.size w' x D
theorem eC {ts : List Tok} {K : Nat -> Pr Ty} {f a c : Nat} {vs : List (List UInt8 × Ty)} (h : Q5 ts K f a = .inl (vs, c)) : vs.length <= f := by
 unfold Q5 at h
 by_cases hs : Zh ts a [91] = true
 ·rw [if_pos hs] at h
  obtain ⟨l, b, h1, h2⟩ := Pa h;obtain ⟨_, b2, _, h3⟩ := Pa h2;injection h3 with h3;injection h3 with h3 _;rw [<- h3];exact Fv _ h1
 ·rw [if_neg hs] at h
  injection h with h;injection h with h _;rw [<- h];exact xZ _
theorem RX.putN {pb tb cap d db : Nat} {ts : List Tok} {w0 w : World} {S : Ya} {bx : List (Nat × Obj)} {nm pm : ByteArray} {ex : Bool} {vs tys : Value} {y : NV} {li co : Nat} (h : RX pb tb cap ts w0 w d S ((db, dO nm ex vs pm tys y li co) :: bx)) (Uy : ∀ p ∈ bx, p.1 ≠ db) (x : NV) : RX pb tb cap ts w0 (I5 w db x) d S ((db, dO nm ex vs pm tys x li co) :: bx) := by
 have h8 := (((((((h.setB Uy 5 (.int .i64 x.k)).setB Uy 6 (.string x.tx)).setB Uy 7 (.int .i64 x.N)).setB Uy 8 (.int .i64 x.li)).setB Uy 9 (.int .i64 x.co)).setB Uy 10 (.slice x.ta x.tl x.tc)).setB Uy 11 (.slice x.na x.nl x.nc)).setB Uy 12 (.slice x.ka x.kl x.kc)
 refine ⟨h8.st, h8.at_, h8.hp, fun p hp => ?_⟩
 rcases List.mem_cons.1 hp with rfl | hp
 ·have := h8.has (db, _) xM
  simpa only [List.setIfInBounds_toArray, List.set_cons_zero, List.set_cons_succ] using this
 ·exact h8.has p (xW _ hp)
theorem dX {B : Nat} {o : Option Nat} {wx : World} {a : Option Addr} {n cap : Nat} {cs : List (List Value)} {xs : List Ty} (h : Ym Uv B 42 4 o wx (.slice a n cap) cs (xs.map some)) : ∃ m, Ut wx B m a xs := by
 obtain ⟨a', cap', m, e, _, hk⟩ := G3 (R0 h)
 injection e with e _ _
 exact ⟨m, e ▸ hk⟩
theorem fn_sta (ts : List Tok) (b : Nat) : (if Yw ts (.inl b) [101, 120, 112, 111, 114, 116] then Ph (.inl b) else .inl b) = (.inl (Fo ts b) : Ya) := by
 show (if Zh ts b [101, 120, 112, 111, 114, 116] = true then Sum.inl (b + 1) else Sum.inl b) = (Sum.inl (if Zh ts b [101, 120, 112, 111, 114, 116] = true then b + 1 else b) : Ya)
 cases Zh ts b [101, 120, 112, 111, 114, 116] <;> rfl
theorem retM {fn : Func} {p : Tmp} {Q : Ending -> World -> Prop} {a : Act} {W : World} {rb : Nat} {x : MV} (h : fn.results = #[.cell p 26]) (hp : a.tmps.getD p undef = .pointer (some ⟨rb, 0, none⟩)) (hg : W.heap[rb]? = some x.obj) (hd : a.defers = []) (hQ : Q (.returned x.val) W) : bodyPost prog fn Q .ret a W :=
 bodyPost_ret (results_cell_row h _ _ rb 26 _ (0, 0) _ hp hg underlying26 rfl (by kernel_rfl)) hd hQ
def Cq (R : Pr (List Ty × List Ty)) (S : Ya) (acc ad : List (Option Ty)) : Prop := Zf R = S /\ ∀ D b, R = .inl (D, b) -> acc = D.1.map some /\ ad = D.2.map some /\ D.1.length <= 8193 /\ D.2.length <= 8193
theorem zJ {pb tb cap mb : Nat} {ts : List Tok} {w wr : World} {S : Ya} {ia da : Option Addr} {ic dc : Nat} {acc ad : List (Option Ty)} {ci cd : List (List Value)} {R : Pr (List Ty × List Ty)} (X : RX pb tb cap ts w wr 0 S [(mb, MV.obj ⟨ia, acc.length, ic, da, ad.length, dc⟩), (w.heap.size, Y2.obj)])
  (RI : Ym A2 (mb + 1) 58 4 (Value.slice da ad.length dc).ownBlock wr (.slice ia acc.length ic) ci acc) (RD : Ym Ei (mb + 1) 48 15 (Value.slice ia acc.length ic).ownBlock wr (.slice da ad.length dc) cd ad) (hF : Cq R S acc ad) (hm : w.heap.size < mb) :
  (putM wr w.heap.size ⟨ia, acc.length, ic, da, ad.length, dc⟩).drew.heap[w.heap.size]? = some (MV.obj ⟨ia, acc.length, ic, da, ad.length, dc⟩) /\ RMd pb tb cap ts w R (.returned (MV.val ⟨ia, acc.length, ic, da, ad.length, dc⟩)) (putM wr w.heap.size ⟨ia, acc.length, ic, da, ad.length, dc⟩).drew := by
 have hp := X.hp
 refine ⟨Gz (y := Y2) (X.box (p := (w.heap.size, Y2.obj)) (by simp)), ((X.st.own hp (xR) 0 _).own hp (xR) 1 _).drew, ?_, _, rfl, fun D b e => ?_⟩
 ·rw [hF.1]
  exact ((X.at_.other hp 0 _).other hp 1 _).drew
 ·obtain ⟨e1, e2, h1, h2⟩ := hF.2 D b e
  subst e1 e2;obtain ⟨a1, c1, h3, h4⟩ := yF (rep := N9) (fun _ _ _ D h => h.2 D rfl) impQ_k RI;obtain ⟨a2, c2, h5, h6⟩ := yF (rep := N2) (fun _ _ _ D h => h.2 D rfl) decQ_k RD;injection h3 with h3 _ _;injection h5 with h5 _ _;subst h3 h5
  have hv : Vu (mb + 1) wr ⟨ia, (D.1.map some).length, ic, da, (D.2.map some).length, dc⟩ D := ⟨List.length_map _, List.length_map _, h1, h2, h4, h6⟩
  exact Vu.lower (lo' := w.heap.size) (lo := mb + 1) (Vu.keep (hv.putM (b := w.heap.size) (by omega) ⟨ia, (D.1.map some).length, ic, da, (D.2.map some).length, dc⟩) (xR) fun _ _ _ => rfl) (by omega)
theorem dP (pb tb cap : Nat) (ts : List Tok) (ok : Yh ts) (w : World) (h : Z2 w pb tb cap ts 0 (.inl 0)) :
  Calls prog 14 #[pP pb] w (RMd pb tb cap ts w (Fw ts)) := by
 have hf : ts.length - 1 + 1 = ts.length := by have := ok.pos; omega
 have hf' : ts.length <= ts.length - 1 + 1 := by omega
 obtain ⟨K, hK⟩ := xE (Xl ts ts.length 101 0)
 obtain ⟨E, hE⟩ := xE (Wo ts ts.length 101 false 0)
 have hKc : ∀ S w, Z2 w pb tb cap ts 0 S -> Calls prog 77 #[pP pb] w (Pq pb tb cap ts 0 w (Zj K S)) := by
  have := yD pb tb cap ts ok (ts.length - 1) hf' 101 0 rfl (by omega);rw [hf, <- hK] at this;exact this
 have hEc : ∀ S w, Z2 w pb tb cap ts 0 S -> Calls prog 37 #[pP pb] w (Vh pb tb cap ts 0 w (Zj E S)) := by
  have := (qF pb tb cap ts ok (ts.length - 1) hf' 101 0 rfl (by omega)).1;rw [hf, <- hE] at this;exact this
 have hKu : ∀ a x b, K a = .inl (x, b) -> a <= b := fun a x b h => by rw [hK] at h; exact Af h
 have hNs := fun S w h => dQ pb tb cap 0 ts ok (ts.length - 1) hf' S w h
 have hVs := fun S w h => sL pb tb cap 0 ts ok K hKu (ts.length - 1) hf' hKc S w h
 rw [hf] at hNs hVs
 have HNs := Za hNs
 have HVs := Za hVs
 have HHd := Za (fun S w h => qJ pb tb cap 0 ts ok K hKc S w h)
 have HEc := Za hEc
 have HDs := Za (bX ts K hK E hE)
 have OK := Za ok
 have hln : ts.length <= 8193 := ok.len
 obtain ⟨R, hR⟩ := xE (Fw ts)
 rw [<- hR]
 have N5 : xQ (IS ts R (.inl 0) [] ts.length) := by rw [hR]; exact kG ok.pos
 have Xc := h.ltp
 have X0 := Za ((Lc h Y2.obj).alloc Y2.obj)
 rw [xS] at X0
 obtain ⟨i4, hi, Wp, Xy, Wr⟩ := info_parts vQ
 obtain ⟨i5, di, dz0, dz1, dz2⟩ := info_parts vP
 obtain ⟨i6, ti, tz0, tz1, tz2⟩ := info_parts Dp
 clear h hf hf' hK hE hKc hEc hKu hNs hVs ok hR
 go_enter func14, ntmps14
 go_wp2_with fail
 obtain ⟨mb, Nw⟩ := xE (w.heap.size + 1)
 rw [<- Nw] at X0 ⊢
 have hwm : w.heap.size < mb := by omega
 clear Nw
 go_loopg [] (ts.length) (fun gk wr => ∃ (S : Ya) (ia : Option Addr) (ic : Nat) (ci : List (List Value)) (acc : List (Option Ty)), xQ (RX pb tb cap ts w wr 0 S [(mb, MV.obj ⟨ia, acc.length, ic, none, 0, 0⟩), (w.heap.size, Y2.obj)]) /\ xQ (Ym A2 (mb + 1) 58 4 none wr (.slice ia acc.length ic) ci acc) /\ xQ (IS ts R S acc gk))
 case atStart => exact ⟨_, none, 0, [], [], X0, Lb _ _ _ _ _, N5⟩
 case round =>
  clear X0 N5;obtain ⟨S, ia, ic, ci, acc, X, RI, HI⟩ := hrel;obtain ⟨a0, U4⟩ := X.o.at_;obtain ⟨⟨c0, c1, c2, c3, c4, c5⟩, _⟩ := U4.cells;have Uo := U4.ltp;have ht0 := U4.tlt;have Na := U4.lt;have hmw := xB (X.o.box (p := (mb, _)) (xM))
  have hcs : (∃ p, S = .inr p) ∨ (∃ b, S = .inl b) := by
   cases S with
   | inr p => exact .inl ⟨p, rfl⟩
   | inl b => exact .inr ⟨b, rfl⟩
  rcases hcs with ⟨p, rfl⟩ | ⟨b, rfl⟩
  case inl =>
   have he0 : (p.1 == 0) = false := by have := U4.bad p rfl; simpa using this
   simp only [eS] at c3
   have HF : xQ (Cq R (.inr p) acc []) := ⟨by rw [HI.o.dead]; rfl, fun D b e => by rw [HI.o.dead] at e; cases e⟩
   have HB := Za (U4.bad p rfl);go_wp2_with fail
   go_loopg [] 0 (fun _ wr => xQ (RX pb tb cap ts w wr 0 (.inr p) [(mb, MV.obj ⟨ia, acc.length, ic, none, 0, 0⟩), (w.heap.size, Y2.obj)]) /\ xQ (Ym A2 (mb + 1) 58 4 none wr (.slice ia acc.length ic) ci acc))
   case atStart => exact ⟨X, RI⟩
   case round =>
    clear X RI HI c0 c1 c2 c3 c4 c5 U4 Uo ht0 Na hmw;obtain ⟨X, RI⟩ := hrel;obtain ⟨a0, U4⟩ := X.o.at_;obtain ⟨⟨c0, c1, c2, c3, c4, c5⟩, _⟩ := U4.cells;simp only [eS] at c3
    have RD : xQ (Ym Ei (mb + 1) 48 15 (Value.slice ia acc.length ic).ownBlock _ (.slice none 0 0) [] []) := ⟨rfl, (fun _ h => nomatch h), World.ownsRow_nil _ _ _ _, (fun _ h => nomatch h), (fun q e => RI.o.own q e), (fun _ h _ => nomatch h)⟩
    go_wp2_with fail;go_region;have XD := X.o.drew;obtain ⟨⟨m0, m1⟩, _, Ly⟩ := Qd (x := ⟨ia, acc.length, ic, none, 0, 0⟩) (XD.box (p := (mb, _)) (xM));obtain ⟨⟨r0, r1⟩, ⟨f0, f1⟩, Xu⟩ := Qd (x := Y2) (XD.box (p := (w.heap.size, Y2.obj)) (by simp));obtain ⟨⟨r2, r3⟩, ⟨f2, f3⟩, hrl'⟩ := Qd (x := Y2) (X.o.box (p := (w.heap.size, Y2.obj)) (by simp))
    have Z3 : ¬ mb = w.heap.size := by omega
    clear XD;go_wp2_with fail;obtain ⟨hg, hq⟩ := zJ (ad := []) (da := none) (dc := 0) X.o RI.o RD.o HF.o hwm;exact retM rfl rfl hg rfl hq
  case inr =>
   obtain rfl := U4.live b rfl;obtain ⟨q0, q1, q2, q3⟩ := U4.toks b U4.lt;simp only [eS] at c3
   have Z8 : (b : Int) < (ts.length : Int) := by omega
   obtain ⟨t, ht⟩ := xE (Zk ts b);rw [<- ht] at q2 q3;have HT := Za ht
   have Qf : wr.drew.cell? ⟨pb, 0, none⟩ = some (.slice (some ⟨tb, 0, none⟩) ts.length cap) /\ wr.drew.cell? ⟨pb, 1, none⟩ = some (.int .i64 b) /\ wr.drew.cell? ⟨tb, b * 4 + 2, none⟩ = some (.int .i64 t.line) /\ wr.drew.cell? ⟨tb, b * 4 + 3, none⟩ = some (.int .i64 t.col) := ⟨c0, c1, q2, q3⟩
   have Y7 : xQ (∀ o, (wr.alloc o).drew.cell? ⟨pb, 0, none⟩ = some (.slice (some ⟨tb, 0, none⟩) ts.length cap) /\ (wr.alloc o).drew.cell? ⟨pb, 1, none⟩ = some (.int .i64 b) /\ (wr.alloc o).drew.cell? ⟨tb, b * 4 + 2, none⟩ = some (.int .i64 t.line) /\ (wr.alloc o).drew.cell? ⟨tb, b * 4 + 3, none⟩ = some (.int .i64 t.col)) := fun o => by
    have h1 := (U4.alloc o).drew;rw [ht];exact ⟨h1.cells.1.1, h1.cells.1.2.1, (h1.toks b h1.lt).2.2.1, (h1.toks b h1.lt).2.2.2⟩
   clear U4 q0 q1 ht c2 c4 c5;go_wp2_with fail
   go_region_held (fun W => W.cell? ⟨pb, 0, none⟩ = some (.slice (some ⟨tb, 0, none⟩) ts.length cap) /\ W.cell? ⟨pb, 1, none⟩ = some (.int .i64 b) /\ W.cell? ⟨tb, b * 4 + 2, none⟩ = some (.int .i64 t.line) /\ W.cell? ⟨tb, b * 4 + 3, none⟩ = some (.int .i64 t.col)) (first | with_reducible assumption | with_reducible exact Y7.o _) (fail)
   go_wp2_with fail;have X1 := Za (X.o.alloc (.cells #[.string ⟨#[]⟩, .slice none 0 0, .int .i64 t.line, .int .i64 t.col] 58)).drew;have T1 := Za (((Zl.refl pb wr).alloc Uo (.cells #[.string ⟨#[]⟩, .slice none 0 0, .int .i64 t.line, .int .i64 t.col] 58)).drew);obtain ⟨xb, hxb⟩ := xE wr.heap.size;rw [<- hxb] at X1 ⊢
   have hxw : wr.heap.size <= xb := by omega
   have hmx : mb < xb := by omega
   clear hxb c0 c1 c3 q2 q3 Qf Y7;generalize (wr.alloc (.cells #[.string ⟨#[]⟩, .slice none 0 0, .int .i64 t.line, .int .i64 t.col] 58)).drew = W1 at X1 T1 ⊢;refine (Wq pb tb cap 0 ts (.inl b) [105, 109, 112, 111, 114, 116] _ X1.o.at_ OK.o).mono ?_;rintro e W0 ⟨rfl, Zb, Zd⟩;have X2 := Za (X1.o.step Zb Zd);have T2 := Za (T1.o.trans Zb);clear Zb Zd X1 T1;by_cases hs : Zh ts b [105, 109, 112, 111, 114, 116] = true
   ·rw [show Yw ts (.inl b) [105, 109, 112, 111, 114, 116] = true from hs] at X2 ⊢
    rw [if_pos rfl] at X2;obtain ⟨R1, R2, R3, R4, h1, h2, h3, h4, hst4, Pv⟩ := l8 ts b hs;have HV := Za (And.intro hst4 Pv);have Ub := Za hs;have V7 := Za (fun wx hx => L3 pb tb cap 0 ts (.inl (b + 1)) wx hx OK.o);rw [show Zj (Zr ts) (.inl (b + 1)) = R1 from h1.symm] at V7;have Q6 := Za (fun wx hx => Ua pb tb cap 0 ts (Zf R1) [58] wx hx OK.o);rw [<- h2] at Q6;have Tt := Za (HNs.o (Zf R2));rw [<- h3] at Tt
    have N4 := Za (fun wx hx => Ua pb tb cap 0 ts (Zf R3) [59] wx hx OK.o);rw [<- h4] at N4;obtain ⟨nmv, P9⟩ := xE (Wm R1);rw [<- P9] at V7;have Mz := Za P9;replace X2 : xQ (RX pb tb cap ts w W0 0 (.inl (b + 1)) _) := X2
    have HM3 : xQ (∀ c l, R3 = .inl (l, c) -> ∃ b2, R3 = Yd ts (Zr ts) [44] ts.length b2) := fun c l e => by
     rw [h3] at e ⊢
     cases hr : Zf R2 with
     | inr p => rw [hr] at e; cases e
     | inl b2 => exact ⟨b2, rfl⟩
    clear hs h1 h2 h3 h4 hst4 Pv P9 X;go_wp2_with fail;refine (V7.o _ X2.o.at_).mono ?_;rintro e w3 ⟨rfl, Zb, Zd⟩;have X3 := Za (X2.o.step Zb Zd);have T3 := Za (T2.o.trans Zb);clear Zb Zd X2 T2 V7;obtain ⟨⟨x0, x1, x2, x3⟩, ⟨f0, f1, f2, f3⟩, hxl⟩ := Z6 (X3.o.box (p := (xb, _)) (xM));go_wp2_with fail;have X3' := Za (X3.o.setB (by simp; omega) 0 (.string ⟨nmv.toArray⟩));have T3' := Za (T3.o.own Uo hxw 0 (.string ⟨nmv.toArray⟩))
    clear x0 x1 x2 x3 f0 f1 f2 f3 hxl X3 T3;generalize w3.setCell ⟨xb, 0, none⟩ (.string ⟨nmv.toArray⟩) = W3 at X3' T3' ⊢;refine (Q6.o _ X3'.o.at_).mono ?_;rintro e w4 ⟨rfl, Zb, Zd⟩;have X4 := Za (X3'.o.step Zb Zd);have T4 := Za (T3'.o.trans Zb);clear Zb Zd X3' T3' Q6;go_wp2_with fail;refine (Tt.o _ X4.o.at_).mono ?_;rintro e w5 ⟨Zb, Zd, na, nc, cn, ns, rfl, Yu, Y0, Vc⟩;have X5 := Za (X4.o.step Zb Zd)
    have T5 := Za (T4.o.trans Zb);have hx4 := xB (X4.o.box (p := (xb, _)) (xM));have RN5 := Za Yu;have HNv := Za Vc;clear Zb Zd X4 T4 Tt Yu Vc;obtain ⟨⟨x0, x1, x2, x3⟩, ⟨f0, f1, f2, f3⟩, hxl⟩ := Z6 (X5.o.box (p := (xb, _)) (xM));go_wp2_with fail;have X5' := Za (X5.o.setB (by simp; omega) 1 (.slice na ns.length nc));have T5' := Za (T5.o.own Uo hxw 1 (.slice na ns.length nc));have RN5' := Za (Qv RN5.o (show xb < w4.heap.size from hx4) 1 (.slice na ns.length nc))
    clear x0 x1 x2 x3 f0 f1 f2 f3 hxl X5 T5 RN5;generalize w5.setCell ⟨xb, 1, none⟩ (.slice na ns.length nc) = W5 at X5' T5' RN5' ⊢;refine (N4.o _ X5'.o.at_).mono ?_;rintro e w6 ⟨rfl, Zb, Zd⟩;have X6 : xQ (RX pb tb cap ts w w6 0 (Zf R4) [(xb, .cells #[.string ⟨nmv.toArray⟩, .slice na ns.length nc, .int .i64 t.line, .int .i64 t.col] 58), (mb, MV.obj ⟨ia, acc.length, ic, none, 0, 0⟩), (w.heap.size, Y2.obj)]) := X5'.o.step Zb Zd
    have RW6 := Za (RI.o.stay (T5'.o.trans Zb) (show pb < mb + 1 by omega));have RN6 := Za (RN5'.o.stay Zb (show pb < w4.heap.size by omega));have hs6 := X6.o.st.size
    have Tz : xQ (Wz A2 (mb + 1) (fun q => (Value.slice ia acc.length ic).ownBlock = some q ∨ (none : Option Nat) = some q) w6 [.string ⟨nmv.toArray⟩, .slice na ns.length nc, .int .i64 t.line, .int .i64 t.col] (Vf (Mb ts b))) := by
     refine Wz.new (lo := w4.heap.size) ⟨rfl, fun D e => ?_⟩ (by omega) fun q hq => by have := RI.o.all q hq; omega
     cases hi : Mb ts b with
     | inr p => rw [hi] at e; cases e
     | inl q =>
      obtain ⟨D', c⟩ := q;obtain ⟨s, l, b1, b3, e1, e3, e4⟩ := HV.o.2 D' c hi;rw [hi] at e;injection e with e;have e5 := HNv.o l b3 e3;obtain ⟨a', cap', e6, _, e7⟩ := R9 RN6.o;injection e6 with e6 _ _
      have e9 : ns.length <= 8193 := by
       obtain ⟨b2, h2⟩ := HM3.o b3 l e3;have := Fv _ (h2.symm.trans e3);rw [e5];omega
      refine ⟨nmv, ns, na, nc, t.line, t.col, rfl, ?_, e9, e6 ▸ e7⟩;rw [<- e, e4, Mz.o, e1, e5, HT.o];rfl
    clear Zb Zd X5' T5' RN5' RN6 N4 RI HM3;obtain ⟨⟨x0, x1, x2, x3⟩, _, hxl⟩ := Z6 (X6.o.box (p := (xb, _)) (xM));obtain ⟨⟨m0, m1⟩, ⟨f0, f1⟩, Ly⟩ := Qd (X6.o.box (p := (mb, _)) (xW _ xM))
    have M9 : acc.length <= 8193 := by have := HI.o.len; omega
    go_wp2_with (at_builtin; refine wpList_append_own_at _ rfl (.tmp 53) (.tmp 55) 23 rfl (mb + 1) 58 i4 _ 4 56 underlying23 hi Wp Xy Wr rfl (by decide) _ _ _ rfl (RW6.o.ow.alloc _) ⟨_, 0, none⟩ 1 1 [.string ⟨nmv.toArray⟩, .slice na ns.length nc, .int .i64 t.line, .int .i64 t.col] rfl rfl (Pt _ _ _) (by simp [Value.oneCell']) (by unfold maxLen; omega) (by omega) (by simp; omega) ?_)
    intro v' w7 Z1 Zy _ Ys;obtain ⟨h6, h7⟩ := Ob (X6.o.drop) RW6.o (show w.heap.size <= mb + 1 by omega) rfl Tz.o Z1 Zy Ys (fun p hp => by simp only [List.mem_cons, List.not_mem_nil, or_false] at hp; rcases hp with rfl | rfl <;> (show _ < mb + 1; omega));have Vs := Za h6;have X7 := Za h7;obtain ⟨ia', ic', hv'⟩ := U9 Z1;subst hv'
    obtain ⟨g', Pg, hn⟩ := HI.o.next (by omega) Ub.o (fun c e => by
     rw [HV.o.1] at e;obtain ⟨a', ha⟩ := X7.o.at_;have := ha.live c e;have := ha.lt
     omega) hln
    rw [HV.o.1] at hn;have HN := Za hn;clear Z1 Zy Ys h6 h7 hn X6 RW6 Tz HI x0 x1 x2 x3 hxl m0 m1 f0 f1 Ly;obtain ⟨⟨m0, m1⟩, ⟨f0, f1⟩, Ly⟩ := Qd (X7.o.box (p := (mb, _)) (xM));go_wp2_with fail
    go_roundg g'
    case measure => exact Pg
    case rel =>
     refine ⟨Zf R4, ia', ic', ci ++ [[.string ⟨nmv.toArray⟩, .slice na ns.length nc, .int .i64 t.line, .int .i64 t.col]], acc ++ [Vf (Mb ts b)], ?_, ?_, HN⟩
     ·rw [List.length_append]
      exact X7.o.setB (fun p hp => by rw [List.mem_singleton.1 hp]; show w.heap.size ≠ mb; omega) 0 _
     ·rw [List.length_append]
      exact Qv Vs.o (by omega) 0 _
   have Mr : Zh ts b [105, 109, 112, 111, 114, 116] = false := by simpa using hs
   rw [show Yw ts (.inl b) [105, 109, 112, 111, 114, 116] = false from Mr] at X2 ⊢;rw [if_neg (by simp)] at X2;have HD := Za (HI.o.end_ Mr)
   have HAl : xQ (∀ (i : List Ty) D b, R = .inl (D, b) -> acc = i.map some -> i.length <= 8193) := fun i _ _ _ e => by
    have := HI.o.len;rw [e, List.length_map] at this;omega
   have RI2 := Za (RI.o.stay T2.o (show pb < mb + 1 by omega));replace X2 := Za X2.o.drop;clear hs Mr HI T2 X RI;go_wp2_with fail;obtain ⟨S2, K7⟩ := xE ((Sum.inl b : Ya));rw [<- K7] at X2 HD;clear K7 HT Z8 Uo ht0 Na hmw hxw hmx
   go_loopg [] (ts.length) (fun gk wr => ∃ (S : Ya) (da : Option Addr) (dc : Nat) (cd : List (List Value)) (ad : List (Option Ty)), xQ (RX pb tb cap ts w wr 0 S [(mb, MV.obj ⟨ia, acc.length, ic, da, ad.length, dc⟩), (w.heap.size, Y2.obj)]) /\ xQ (Ym A2 (mb + 1) 58 4 (Value.slice da ad.length dc).ownBlock wr (.slice ia acc.length ic) ci acc) /\ xQ (Ym Ei (mb + 1) 48 15 (Value.slice ia acc.length ic).ownBlock wr (.slice da ad.length dc) cd ad) /\ xQ (DS ts R acc S ad gk))
   case atStart => exact ⟨S2, none, 0, [], [], X2, RI2, ⟨rfl, (fun _ h => nomatch h), World.ownsRow_nil _ _ _ _, (fun _ h => nomatch h), (fun q e => RI2.o.own q e), (fun _ h _ => nomatch h)⟩, HD⟩
   case round =>
    clear X2 RI2 HD;obtain ⟨S, da, dc, cd, ad, X, RI, RD, HD⟩ := hrel;obtain ⟨a0, U4⟩ := X.o.at_;obtain ⟨⟨c0, c1, c2, c3, c4, c5⟩, _⟩ := U4.cells;have Uo := U4.ltp;have ht0 := U4.tlt;have Na := U4.lt;have hmw := xB (X.o.box (p := (mb, _)) (xM))
    have hcs : (∃ p, S = .inr p) ∨ (∃ b, S = .inl b /\ ((Zk ts b).kind == 0) = true) ∨ ∃ b, S = .inl b /\ ((Zk ts b).kind == 0) = false := by
     cases S with
     | inr p => exact .inl ⟨p, rfl⟩
     | inl b => cases hk : ((Zk ts b).kind == 0) with
      | true => exact .inr (.inl ⟨b, rfl, hk⟩)
      | false => exact .inr (.inr ⟨b, rfl, hk⟩)
    rcases hcs with ⟨p, rfl⟩ | ⟨b, rfl, hk⟩ | ⟨b, rfl, hk⟩
    case inl =>
     have he0 : (p.1 == 0) = false := by have := U4.bad p rfl; simpa using this
     simp only [eS] at c3
     have HF : xQ (Cq R (.inr p) acc ad) := ⟨by rw [HD.o.dead]; rfl, fun D b e => by rw [HD.o.dead] at e; cases e⟩
     clear Na HD U4;go_wp2_with fail;go_region;have hrX : wr.drew.heap[w.heap.size]? = some Y2.obj := X.o.drew.box (p := (w.heap.size, Y2.obj)) (by simp);obtain ⟨⟨m0, m1⟩, _, Ly⟩ := Qd (x := ⟨ia, acc.length, ic, da, ad.length, dc⟩) (X.o.drew.box (p := (mb, _)) (xM));obtain ⟨⟨r0, r1⟩, ⟨f0, f1⟩, Xu⟩ := Qd (x := Y2) hrX;obtain ⟨⟨r2, r3⟩, ⟨f2, f3⟩, hrl'⟩ := Qd (x := Y2) (X.o.box (p := (w.heap.size, Y2.obj)) (by simp))
     have Z3 : ¬ mb = w.heap.size := by omega
     clear hrX;go_wp2_with fail;obtain ⟨hg, hq⟩ := zJ X.o RI.o RD.o HF.o hwm;exact retM rfl rfl hg rfl hq
    case inr.inl =>
     obtain rfl := U4.live b rfl;obtain ⟨q0, q1, q2, q3⟩ := U4.toks b U4.lt;simp only [eS] at c3
     have Z8 : (b : Int) < (ts.length : Int) := by omega
     obtain ⟨t, ht⟩ := xE (Zk ts b)
     have HF : xQ (Cq R (.inl b) acc ad) := by
      obtain ⟨i, l, e1, e2, e3⟩ := HD.o.end_ hk;refine ⟨by rw [e1]; rfl, fun D c e => ?_⟩;rw [e1] at e;injection e with e;injection e with e _;have hl := HD.o.len;rw [e3, List.length_map] at hl;rw [<- e];exact ⟨e2, e3, HAl.o i _ _ e1 e2, by show l.length <= 8193; omega⟩
     rw [<- ht] at q0 hk
     have Qf : wr.drew.cell? ⟨pb, 0, none⟩ = some (.slice (some ⟨tb, 0, none⟩) ts.length cap) /\ wr.drew.cell? ⟨pb, 1, none⟩ = some (.int .i64 b) /\ wr.drew.cell? ⟨pb, 3, none⟩ = some (.int .i64 0) /\ wr.drew.cell? ⟨tb, b * 4, none⟩ = some (.int .i64 t.kind) := ⟨c0, c1, c3, q0⟩
     clear ht q1 q2 q3 c0 c1 c2 c3 c4 c5 q0 Na HD U4;go_wp2_with fail
     go_region_held (fun W => W.cell? ⟨pb, 0, none⟩ = some (.slice (some ⟨tb, 0, none⟩) ts.length cap) /\ W.cell? ⟨pb, 1, none⟩ = some (.int .i64 b) /\ W.cell? ⟨pb, 3, none⟩ = some (.int .i64 0) /\ W.cell? ⟨tb, b * 4, none⟩ = some (.int .i64 t.kind)) (with_reducible assumption) (fail)
     clear Qf;have hrX : wr.drew.heap[w.heap.size]? = some Y2.obj := X.o.drew.box (p := (w.heap.size, Y2.obj)) (by simp);obtain ⟨⟨m0, m1⟩, _, Ly⟩ := Qd (x := ⟨ia, acc.length, ic, da, ad.length, dc⟩) (X.o.drew.box (p := (mb, _)) (xM));obtain ⟨⟨r0, r1⟩, ⟨f0, f1⟩, Xu⟩ := Qd (x := Y2) hrX;obtain ⟨⟨r2, r3⟩, ⟨f2, f3⟩, hrl'⟩ := Qd (x := Y2) (X.o.box (p := (w.heap.size, Y2.obj)) (by simp))
     have Z3 : ¬ mb = w.heap.size := by omega
     clear hrX;go_wp2_with fail;obtain ⟨hg, hq⟩ := zJ X.o RI.o RD.o HF.o hwm;exact retM rfl rfl hg rfl hq
    case inr.inr =>
     obtain rfl := U4.live b rfl;obtain ⟨q0, q1, q2, q3⟩ := U4.toks b U4.lt;simp only [eS] at c3
     have Z8 : (b : Int) < (ts.length : Int) := by omega
     have HKi := Za hk;obtain ⟨t, ht⟩ := xE (Zk ts b);rw [<- ht] at q0 hk
     have Mq : (t.kind != 0) = true := by rw [bne, hk]; rfl
     have Qf : wr.drew.cell? ⟨pb, 0, none⟩ = some (.slice (some ⟨tb, 0, none⟩) ts.length cap) /\ wr.drew.cell? ⟨pb, 1, none⟩ = some (.int .i64 b) /\ wr.drew.cell? ⟨pb, 3, none⟩ = some (.int .i64 0) /\ wr.drew.cell? ⟨tb, b * 4, none⟩ = some (.int .i64 t.kind) := ⟨c0, c1, c3, q0⟩
     clear ht q1 q2 q3 c0 c1 c2 c3 c4 c5 q0 U4;go_wp2_with fail
     go_region_held (fun W => W.cell? ⟨pb, 0, none⟩ = some (.slice (some ⟨tb, 0, none⟩) ts.length cap) /\ W.cell? ⟨pb, 1, none⟩ = some (.int .i64 b) /\ W.cell? ⟨pb, 3, none⟩ = some (.int .i64 0) /\ W.cell? ⟨tb, b * 4, none⟩ = some (.int .i64 t.kind)) (with_reducible assumption) (fail)
     clear Qf;go_wp2_with fail;have X1 := Za X.o.drew;have T1 := Za (Zl.refl pb wr).drew;clear X hk Mq;generalize wr.drew = W1 at X1 T1 ⊢;have HC := Za (Wq pb tb cap 0 ts (.inl b) [101, 120, 112, 111, 114, 116] _ X1.o.at_ OK.o);rw [fn_sta ts b, show Yw ts (.inl b) [101, 120, 112, 111, 114, 116] = Zh ts b [101, 120, 112, 111, 114, 116] from rfl] at HC;obtain ⟨R1, R2, R3, R4, R5, R6, R7, h1, h2, h3, h4, h5, h6, h7, hst7, Pv⟩ := HDs.o b
     obtain ⟨ex, hex⟩ := xE (Zh ts b [101, 120, 112, 111, 114, 116]);rw [<- hex] at HC Pv;obtain ⟨fb, Nd⟩ := xE (Fo ts b);rw [<- Nd] at HC h1 Pv;have HV := Za (And.intro hst7 Pv)
     have Q8 : xQ (∀ vs c, R3 = .inl (vs, c) -> vs.length <= 8193) := fun vs c e => by
      rw [h3] at e
      cases hr : Zf R2 with
      | inr p => rw [hr] at e; cases e
      | inl b2 =>
       rw [hr] at e;have := eC (show Q5 ts K ts.length b2 = .inl (vs, c) from e);omega
     have V7 := Za (fun wx hx => Ua pb tb cap 0 ts (.inl fb) [102, 110] wx hx OK.o);rw [<- h1] at V7;have Q6 := Za (fun wx hx => L3 pb tb cap 0 ts (Zf R1) wx hx OK.o);rw [<- h2] at Q6;have Tt := Za (HVs.o (Zf R2));rw [<- h3] at Tt;have N4 := Za (HHd.o (Zf R3));rw [<- h4] at N4;have HC5 := Za (fun wx hx => Ua pb tb cap 0 ts (Zf R4) [61] wx hx OK.o);rw [<- h5] at HC5;have HC6 := Za (HEc.o (Zf R5));rw [<- h6] at HC6
     have HC7 := Za (fun wx hx => Ua pb tb cap 0 ts (Zf R6) [59] wx hx OK.o);rw [<- h7] at HC7;obtain ⟨nmv, P9⟩ := xE (Wm R2);rw [<- P9] at Q6;have Mz := Za P9;clear h1 h2 h3 h4 h5 h6 h7 hst7 Pv P9 hex Nd;refine HC.o.mono ?_;rintro e w2 ⟨rfl, Zb, Zd⟩;have X2 := Za ((X1.o.step Zb Zd).alloc (.cells #[.string ⟨#[]⟩, .bool ex, .slice none 0 0, .string ⟨#[]⟩, .slice none 0 0, .int .i64 0, .string ⟨#[]⟩, .int .i64 0, .int .i64 0, .int .i64 0, .slice none 0 0, .slice none 0 0, .slice none 0 0, .int .i64 0, .int .i64 0] 48))
     have T2 := Za ((T1.o.trans Zb).alloc Uo (.cells #[.string ⟨#[]⟩, .bool ex, .slice none 0 0, .string ⟨#[]⟩, .slice none 0 0, .int .i64 0, .string ⟨#[]⟩, .int .i64 0, .int .i64 0, .int .i64 0, .slice none 0 0, .slice none 0 0, .slice none 0 0, .int .i64 0, .int .i64 0] 48));have Wc := (T1.o.trans Zb).size;clear Zb Zd X1 T1 HC;go_wp2_with fail;obtain ⟨db, Kh⟩ := xE w2.heap.size;rw [<- Kh] at X2 Wc ⊢
     have hmd : mb < db := by omega
     clear Kh;have X2' : xQ (RX pb tb cap ts w _ 0 (.inl fb) [(db, dO ⟨#[]⟩ ex (.slice none 0 0) ⟨#[]⟩ (.slice none 0 0) Zi 0 0), (mb, MV.obj ⟨ia, acc.length, ic, da, ad.length, dc⟩), (w.heap.size, Y2.obj)]) := X2;clear X2;generalize w2.alloc (.cells #[.string ⟨#[]⟩, .bool ex, .slice none 0 0, .string ⟨#[]⟩, .slice none 0 0, .int .i64 0, .string ⟨#[]⟩, .int .i64 0, .int .i64 0, .int .i64 0, .slice none 0 0, .slice none 0 0, .slice none 0 0, .int .i64 0, .int .i64 0] 48) = W2 at X2' T2 ⊢
     obtain ⟨tf, Hm⟩ := xE (Zk ts fb)
     have Qf : W2.drew.cell? ⟨pb, 0, none⟩ = some (.slice (some ⟨tb, 0, none⟩) ts.length cap) /\ W2.drew.cell? ⟨pb, 1, none⟩ = some (.int .i64 fb) /\ W2.drew.cell? ⟨tb, fb * 4 + 2, none⟩ = some (.int .i64 tf.line) := by
      obtain ⟨a2, Un⟩ := X2'.o.drew.at_;obtain rfl := Un.live fb rfl;rw [Hm];exact ⟨Un.cells.1.1, Un.cells.1.2.1, (Un.toks fb Un.lt).2.2.1⟩
     have Y7 : xQ (∀ u, (W2.setCell ⟨db, 13, none⟩ u).drew.cell? ⟨pb, 0, none⟩ = some (.slice (some ⟨tb, 0, none⟩) ts.length cap) /\ (W2.setCell ⟨db, 13, none⟩ u).drew.cell? ⟨pb, 1, none⟩ = some (.int .i64 fb) /\ (W2.setCell ⟨db, 13, none⟩ u).drew.cell? ⟨tb, fb * 4 + 2, none⟩ = some (.int .i64 tf.line)) := fun u => by
      obtain ⟨a2, Un⟩ := (X2'.o.setB (by simp; omega) 13 u).drew.at_;obtain rfl := Un.live fb rfl;rw [Hm];exact ⟨Un.cells.1.1, Un.cells.1.2.1, (Un.toks fb Un.lt).2.2.1⟩
     have hfl : (fb : Int) < (ts.length : Int) := by
      obtain ⟨a2, Un⟩ := X2'.o.at_;obtain rfl := Un.live fb rfl;have := Un.lt;omega
     obtain ⟨⟨d0, d1, d2, d3, d4, d5, d6, d7, d8, d9, d10, d11, d12, d13, d14⟩, ⟨z0, z1, z2, z3, z4, z5, z6, z7, z8, z9, z10, z11, z12, z13, z14⟩, Nt⟩ := U3 (X2'.o.drew.box (p := (db, _)) (xM));clear d0 d1 d2 d3 d4 d5 d6 d7 d8 d9 d10 d11 d12 d14 z0 z1 z2 z3 z4 z5 z6 z7 z8 z9 z10 z11 z12 z14;have HTf := Za Hm;clear Hm
     go_region_held (fun W => W.cell? ⟨pb, 0, none⟩ = some (.slice (some ⟨tb, 0, none⟩) ts.length cap) /\ W.cell? ⟨pb, 1, none⟩ = some (.int .i64 fb) /\ W.cell? ⟨tb, fb * 4 + 2, none⟩ = some (.int .i64 tf.line)) (first | with_reducible assumption | with_reducible exact Y7.o _) (fail)
     go_wp2_with fail;have Hm := HTf.o;have X3 : xQ (RX pb tb cap ts w _ 0 (.inl fb) [(db, dO ⟨#[]⟩ ex (.slice none 0 0) ⟨#[]⟩ (.slice none 0 0) Zi tf.line 0), (mb, MV.obj ⟨ia, acc.length, ic, da, ad.length, dc⟩), (w.heap.size, Y2.obj)]) := (X2'.o.setB (by simp; omega) 13 (.int .i64 tf.line)).drew;have T3 := Za (T2.o.own Uo Wc 13 (.int .i64 tf.line)).drew;clear X2' T2 Y7 Qf hfl d13 z13 Nt HTf;generalize (W2.setCell ⟨db, 13, none⟩ (.int .i64 tf.line)).drew = W3 at X3 T3 ⊢
     have Qf : W3.drew.cell? ⟨pb, 0, none⟩ = some (.slice (some ⟨tb, 0, none⟩) ts.length cap) /\ W3.drew.cell? ⟨pb, 1, none⟩ = some (.int .i64 fb) /\ W3.drew.cell? ⟨tb, fb * 4 + 3, none⟩ = some (.int .i64 tf.col) := by
      obtain ⟨a2, Un⟩ := X3.o.drew.at_;obtain rfl := Un.live fb rfl;rw [Hm];exact ⟨Un.cells.1.1, Un.cells.1.2.1, (Un.toks fb Un.lt).2.2.2⟩
     have Y7 : xQ (∀ u, (W3.setCell ⟨db, 14, none⟩ u).drew.cell? ⟨pb, 0, none⟩ = some (.slice (some ⟨tb, 0, none⟩) ts.length cap) /\ (W3.setCell ⟨db, 14, none⟩ u).drew.cell? ⟨pb, 1, none⟩ = some (.int .i64 fb) /\ (W3.setCell ⟨db, 14, none⟩ u).drew.cell? ⟨tb, fb * 4 + 3, none⟩ = some (.int .i64 tf.col)) := fun u => by
      obtain ⟨a2, Un⟩ := (X3.o.setB (by simp; omega) 14 u).drew.at_;obtain rfl := Un.live fb rfl;rw [Hm];exact ⟨Un.cells.1.1, Un.cells.1.2.1, (Un.toks fb Un.lt).2.2.2⟩
     have hfl : (fb : Int) < (ts.length : Int) := by
      obtain ⟨a2, Un⟩ := X3.o.at_;obtain rfl := Un.live fb rfl;have := Un.lt;omega
     obtain ⟨⟨d0, d1, d2, d3, d4, d5, d6, d7, d8, d9, d10, d11, d12, d13, d14⟩, ⟨z0, z1, z2, z3, z4, z5, z6, z7, z8, z9, z10, z11, z12, z13, z14⟩, Nt⟩ := U3 (X3.o.drew.box (p := (db, _)) (xM));clear d0 d1 d2 d3 d4 d5 d6 d7 d8 d9 d10 d11 d12 d13 z0 z1 z2 z3 z4 z5 z6 z7 z8 z9 z10 z11 z12 z13;have HTf := Za Hm;clear Hm
     go_region_held (fun W => W.cell? ⟨pb, 0, none⟩ = some (.slice (some ⟨tb, 0, none⟩) ts.length cap) /\ W.cell? ⟨pb, 1, none⟩ = some (.int .i64 fb) /\ W.cell? ⟨tb, fb * 4 + 3, none⟩ = some (.int .i64 tf.col)) (first | with_reducible assumption | with_reducible exact Y7.o _) (fail)
     go_wp2_with fail;have Hm := HTf.o;have X4 : xQ (RX pb tb cap ts w _ 0 (.inl fb) [(db, dO ⟨#[]⟩ ex (.slice none 0 0) ⟨#[]⟩ (.slice none 0 0) Zi tf.line tf.col), (mb, MV.obj ⟨ia, acc.length, ic, da, ad.length, dc⟩), (w.heap.size, Y2.obj)]) := (X3.o.setB (by simp; omega) 14 (.int .i64 tf.col)).drew;have T4 := Za (T3.o.own Uo Wc 14 (.int .i64 tf.col)).drew;clear X3 T3 Y7 Qf hfl d14 z14 Nt HTf;generalize (W3.setCell ⟨db, 14, none⟩ (.int .i64 tf.col)).drew = W4 at X4 T4 ⊢
     have HTf := Za Hm;clear Hm;refine (V7.o _ X4.o.at_).mono ?_;rintro e w5 ⟨rfl, Zb, Zd⟩;have X5 := Za (X4.o.step Zb Zd);have T5 := Za (T4.o.trans Zb);clear Zb Zd X4 T4 V7;go_wp2_with fail;refine (Q6.o _ X5.o.at_).mono ?_;rintro e w6 ⟨rfl, Zb, Zd⟩;have X6 := Za (X5.o.step Zb Zd);have T6 := Za (T5.o.trans Zb);clear Zb Zd X5 T5 Q6;obtain ⟨⟨d0, d1, d2, d3, d4, d5, d6, d7, d8, d9, d10, d11, d12, d13, d14⟩, ⟨z0, z1, z2, z3, z4, z5, z6, z7, z8, z9, z10, z11, z12, z13, z14⟩, Nt⟩ := U3 (X6.o.box (p := (db, _)) (xM))
     clear d1 d2 d3 d4 d5 d6 d7 d8 d9 d10 d11 d12 d13 d14 z1 z2 z3 z4 z5 z6 z7 z8 z9 z10 z11 z12 z13 z14;go_wp2_with fail;have X6' : xQ (RX pb tb cap ts w (w6.setCell ⟨db, 0, none⟩ (.string ⟨nmv.toArray⟩)) 0 (Zf R2) [(db, dO ⟨nmv.toArray⟩ ex (.slice none 0 0) ⟨#[]⟩ (.slice none 0 0) Zi tf.line tf.col), (mb, MV.obj ⟨ia, acc.length, ic, da, ad.length, dc⟩), (w.heap.size, Y2.obj)]) := X6.o.setB (by simp; omega) 0 _
     have T6' := Za (T6.o.own Uo Wc 0 (.string ⟨nmv.toArray⟩));clear X6 T6 d0 z0 Nt;generalize w6.setCell ⟨db, 0, none⟩ (.string ⟨nmv.toArray⟩) = W6 at X6' T6' ⊢;have hd6 := xB (X6'.o.box (p := (db, _)) (xM));refine (Tt.o _ X6'.o.at_).mono ?_;rintro e w7 ⟨Zb, Zd, va, vc, cv, av, rfl, Yu, hvl, hvv⟩;have X7 := Za (X6'.o.step Zb Zd);have T7 := Za (T6'.o.trans Zb);have RV7 := Za Yu;have HVv := Za hvv;clear Yu hvv
     clear Zb Zd X6' T6' Tt;obtain ⟨⟨d0, d1, d2, d3, d4, d5, d6, d7, d8, d9, d10, d11, d12, d13, d14⟩, ⟨z0, z1, z2, z3, z4, z5, z6, z7, z8, z9, z10, z11, z12, z13, z14⟩, Nt⟩ := U3 (X7.o.box (p := (db, _)) (xM));clear d0 d1 d3 d4 d5 d6 d7 d8 d9 d10 d11 d12 d13 d14 z0 z1 z3 z4 z5 z6 z7 z8 z9 z10 z11 z12 z13 z14;go_wp2_with fail;have X7' : xQ (RX pb tb cap ts w (w7.setCell ⟨db, 2, none⟩ (.slice va av.length vc)) 0 (Zf R3) [(db, dO ⟨nmv.toArray⟩ ex (.slice va av.length vc) ⟨#[]⟩ (.slice none 0 0) Zi tf.line tf.col), (mb, MV.obj ⟨ia, acc.length, ic, da, ad.length, dc⟩), (w.heap.size, Y2.obj)]) := X7.o.setB (by simp; omega) 2 _
     have T7' := Za (T7.o.own Uo Wc 2 (.slice va av.length vc));have RV7' := Za (Qv RV7.o hd6 2 (.slice va av.length vc));clear X7 T7 RV7 d2 z2 Nt;generalize w7.setCell ⟨db, 2, none⟩ (.slice va av.length vc) = W7 at X7' T7' RV7' ⊢;have Kg := xB (X7'.o.box (p := (db, _)) (xM));refine (N4.o _ X7'.o.at_).mono ?_;rintro e w8 ⟨Zb, Zd, pm, tv, ct, De, rfl, hrt, Wh, V0, htv⟩;have X8 := Za (X7'.o.step Zb Zd)
     have T8 := Za (T7'.o.trans Zb)
     have KV8 : xQ (∀ c, W6.heap.size <= c -> c < W7.heap.size -> w8.heap[c]? = W7.heap[c]?) := fun c h1 h2 => Zb.keep c (by omega) h2
     have RT8 := Za hrt;have HTv := Za htv;have hs78 := Zb.size;clear hrt htv;clear Zb Zd X7' T7' N4;obtain ⟨⟨d0, d1, d2, d3, d4, d5, d6, d7, d8, d9, d10, d11, d12, d13, d14⟩, ⟨z0, z1, z2, z3, z4, z5, z6, z7, z8, z9, z10, z11, z12, z13, z14⟩, Nt⟩ := U3 (X8.o.box (p := (db, _)) (xM));clear d0 d1 d2 d5 d6 d7 d8 d9 d10 d11 d12 d13 d14 z0 z1 z2 z5 z6 z7 z8 z9 z10 z11 z12 z13 z14;obtain ⟨ta, tc, rfl⟩ := U9 RT8.o.ow
     have hat8 : (∃ t1, De = [t1]) ∨ ∃ t1 t2, De = [t1, t2] := by
      match De, Wh, V0 with
      | [t1], _, _ => exact .inl ⟨t1, rfl⟩
      | [t1, t2], _, _ => exact .inr ⟨t1, t2, rfl⟩
     obtain ⟨PM, hPM⟩ : ∃ PM : ByteArray, PM = ⟨pm.toArray⟩ := ⟨_, rfl⟩
     rw [<- hPM];have HPM := Za hPM;clear hPM Wh V0
     have X8' : ∀ n, xQ (RX pb tb cap ts w ((w8.setCell ⟨db, 3, none⟩ (.string PM)).setCell ⟨db, 4, none⟩ (.slice ta n tc)) 0 (Zf R4) [(db, dO ⟨nmv.toArray⟩ ex (.slice va av.length vc) PM (.slice ta n tc) Zi tf.line tf.col), (mb, MV.obj ⟨ia, acc.length, ic, da, ad.length, dc⟩), (w.heap.size, Y2.obj)]) := fun n => (X8.o.setB (by simp; omega) 3 _).setB (by simp; omega) 4 _
     have T8' : ∀ n, xQ (Zl pb wr ((w8.setCell ⟨db, 3, none⟩ (.string PM)).setCell ⟨db, 4, none⟩ (.slice ta n tc))) := fun n => (T8.o.own Uo Wc 3 (.string PM)).own Uo Wc 4 _
     have KV8' : ∀ n, xQ (∀ c, W6.heap.size <= c -> c < W7.heap.size -> ((w8.setCell ⟨db, 3, none⟩ (.string PM)).setCell ⟨db, 4, none⟩ (.slice ta n tc)).heap[c]? = W7.heap[c]?) := fun n c h1 h2 => by
      have Z3 : c ≠ db := by omega
      rw [xH Z3, xH Z3];exact KV8.o c h1 h2
     rcases hat8 with ⟨t1, rfl⟩ | ⟨t1, t2, rfl⟩
     case' inl =>
      have X8a := X8' 1;have T8a := T8' 1;have KV8a := KV8' 1;have RT8a : xQ (Ym Uv W7.heap.size 42 4 none ((w8.setCell ⟨db, 3, none⟩ (.string PM)).setCell ⟨db, 4, none⟩ (.slice ta 1 tc)) (.slice ta 1 tc) ct [t1]) := Qv (Qv RT8.o Kg 3 (.string PM)) Kg 4 (.slice ta 1 tc);clear X8' T8' KV8' X8 T8 KV8 RT8;obtain ⟨W8, hW8⟩ := xE ((w8.setCell ⟨db, 3, none⟩ (.string PM)).setCell ⟨db, 4, none⟩ (.slice ta 1 tc))
      have hs8 : W8.heap.size = w8.heap.size := by rw [hW8, Ye, Ye]
      rw [<- hW8] at X8a T8a KV8a RT8a;have HW8 := Za hW8;have HS8 := Za hs8
      have Tu : xQ (∀ j u, ([.int .i64 0, .string ⟨#[]⟩, .slice none 0 0, .slice none 0 0] : List Value)[j]? = some u -> (W8.alloc (.cells #[.int .i64 0, .string ⟨#[]⟩, .slice none 0 0, .slice none 0 0] 42)).cell? ((⟨w8.heap.size, 0, none⟩ : Addr).add j) = some u) := fun j u h => by
       have := Pt W8 [.int .i64 0, .string ⟨#[]⟩, .slice none 0 0, .slice none 0 0] 42 j u h;rw [hs8] at this;exact this
      have hp8 := X8a.o.at_.ltp
      have hs78' : W7.heap.size <= W8.heap.size := by omega
      clear hW8 hs8
      go_wp2_with (at_builtin; rw [<- HW8.o]; refine wpList_append_own_at _ rfl (.tmp 126) (.tmp 128) 34 rfl (W7.heap.size) 42 i6 _ 4 72 underlying34 ti tz0 tz1 tz2 rfl (by decide) _ _ _ rfl (RT8a.o.ow.alloc _) ⟨_, 0, none⟩ 1 1 [.int .i64 0, .string ⟨#[]⟩, .slice none 0 0, .slice none 0 0] rfl rfl Tu.o (by simp [Value.oneCell']) (by unfold maxLen; simp) (by simp) (by simp; omega) ?_)
      intro v' w9 Z1 Zy _ Ys
      have hloc' : v'.ownBlock = (Value.slice ta 1 tc).ownBlock ∨ v'.ownBlock = some (W8.heap.size + 1) := by rw [HS8.o]; simpa [HS8.o] using Ys
      have hoB : ∀ q, (Value.slice ta 1 tc).ownBlock = some q -> W7.heap.size <= q := fun q hq => (RT8a.o.own q hq).1
      obtain ⟨h6, h7⟩ := Ob X8a.o RT8a.o (show w.heap.size <= W7.heap.size by omega) rfl (Wz.new (lo := W8.heap.size) (pX W8) hs78' fun q hq => RT8a.o.all q hq) Z1 Zy hloc' (by simp; omega);have T9 := Za ((T8a.o.alloc Uo _).grown Zy Uo fun k hk => by have := hoB k hk; omega)
      have KV9 : xQ (∀ c, W6.heap.size <= c -> c < W7.heap.size -> w9.heap[c]? = W7.heap[c]?) := fun c h1 h2 => (Zy.block c (by rw [xS]; omega) (fun e => by have := hoB c e.symm; omega)).trans ((xA (by omega)).trans (KV8a.o c h1 h2))
      have hs9a : W7.heap.size <= w9.heap.size := by have := Zy.size; rw [xS] at this; omega
      obtain ⟨ta9, tc9, hv9⟩ := U9 Z1;have hv9' : v' = .slice ta9 2 tc9 := hv9;subst hv9';have RT9 := Za h6;have X9 := Za h7
      have HTt : xQ (∀ h b, R4 = .inl (h, b) -> pm = h.1 /\ ([t1] ++ [some (Yq 0 [] [] [])] : List (Option Ty)) = (if h.2.length = 1 then h.2 ++ [(Yq 0 [] [] [])] else h.2).map some) := fun h b e => by
       obtain ⟨e1, e2⟩ := HTv.o h b e
       have e3 : h.2.length = 1 := by have := congrArg List.length e2; rw [List.length_map] at this; exact this.symm
       rw [if_pos e3, List.map_append, <- e2];exact ⟨e1, rfl⟩
      clear Z1 Zy Ys hloc' hoB h6 h7 hv9 X8a T8a KV8a RT8a HW8 HS8 Tu hs78' hp8 HTv;obtain ⟨⟨d0, d1, d2, d3, d4, d5, d6, d7, d8, d9, d10, d11, d12, d13, d14⟩, ⟨z0, z1, z2, z3, z4, z5, z6, z7, z8, z9, z10, z11, z12, z13, z14⟩, Nt⟩ := U3 (X9.o.box (p := (db, _)) (xM));clear d0 d1 d2 d3 d5 d6 d7 d8 d9 d10 d11 d12 d13 d14 z0 z1 z2 z3 z5 z6 z7 z8 z9 z10 z11 z12 z13 z14;go_wp2_with fail;have X9' : xQ (RX pb tb cap ts w (w9.setCell ⟨db, 4, none⟩ (.slice ta9 2 tc9)) 0 (Zf R4) [(db, dO ⟨nmv.toArray⟩ ex (.slice va av.length vc) PM (.slice ta9 2 tc9) Zi tf.line tf.col), (mb, MV.obj ⟨ia, acc.length, ic, da, ad.length, dc⟩), (w.heap.size, Y2.obj)]) := X9.o.setB (by simp; omega) 4 _
      have T9' := Za (T9.o.own Uo Wc 4 (.slice ta9 2 tc9))
      have KV9' : xQ (∀ c, W6.heap.size <= c -> c < W7.heap.size -> (w9.setCell ⟨db, 4, none⟩ (.slice ta9 2 tc9)).heap[c]? = W7.heap[c]?) := fun c h1 h2 => (xH (by show c ≠ db; omega)).trans (KV9.o c h1 h2)
      have RT9' := Za (Qv RT9.o Kg 4 (.slice ta9 2 tc9));have hat9 : ([t1] ++ [some (Yq 0 [] [] [])] : List (Option Ty)).length = 2 := rfl
      have hs9 : xQ (W7.heap.size <= (w9.setCell ⟨db, 4, none⟩ (.slice ta9 2 tc9)).heap.size) := by rw [Ye]; exact hs9a
      clear X9 T9 KV9 RT9 d4 z4 Nt hs9a;generalize w9.setCell ⟨db, 4, none⟩ (.slice ta9 2 tc9) = W9 at X9' T9' KV9' RT9' hs9 ⊢;generalize ([t1] ++ [some (Yq 0 [] [] [])] : List (Option Ty)) = at9 at RT9' HTt hat9;generalize ct ++ [[.int .i64 0, .string ⟨#[]⟩, .slice none 0 0, .slice none 0 0]] = ct9 at RT9'
     case' inr =>
      have X9' := X8' 2;have T9' := T8' 2;have KV9' := KV8' 2;have RT9' : xQ (Ym Uv W7.heap.size 42 4 none ((w8.setCell ⟨db, 3, none⟩ (.string PM)).setCell ⟨db, 4, none⟩ (.slice ta 2 tc)) (.slice ta 2 tc) ct [t1, t2]) := Qv (Qv RT8.o Kg 3 (.string PM)) Kg 4 (.slice ta 2 tc)
      have HTt : xQ (∀ h b, R4 = .inl (h, b) -> pm = h.1 /\ [t1, t2] = (if h.2.length = 1 then h.2 ++ [(Yq 0 [] [] [])] else h.2).map some) := fun h b e => by
       obtain ⟨e1, e2⟩ := HTv.o h b e
       have e3 : h.2.length = 2 := by have := congrArg List.length e2; rw [List.length_map] at this; exact this.symm
       rw [if_neg (by omega), <- e2];exact ⟨e1, rfl⟩
      have hat9 : [t1, t2].length = 2 := rfl;clear X8' T8' KV8' X8 T8 KV8 RT8 HTv;go_wp2_with fail
      have hs9 : xQ (W7.heap.size <= ((w8.setCell ⟨db, 3, none⟩ (.string PM)).setCell ⟨db, 4, none⟩ (.slice ta 2 tc)).heap.size) := by rw [Ye, Ye]; exact hs78
      clear d3 d4 z3 z4 Nt;generalize (w8.setCell ⟨db, 3, none⟩ (.string PM)).setCell ⟨db, 4, none⟩ (.slice ta 2 tc) = W9 at X9' T9' KV9' RT9' hs9 ⊢;generalize [t1, t2] = at9 at RT9' HTt hat9;obtain ⟨ta9, hta9⟩ := xE ta;obtain ⟨tc9, htc9⟩ := xE tc;obtain ⟨ct9, hct9⟩ := xE ct;subst hta9 htc9 hct9
     all_goals
      refine (HC5.o _ X9'.o.at_).mono ?_;rintro e w10 ⟨rfl, Zb, Zd⟩;have X10 := Za (X9'.o.step Zb Zd);have T10 := Za (T9'.o.trans Zb)
      have KV10 : xQ (∀ c, W6.heap.size <= c -> c < W7.heap.size -> w10.heap[c]? = W7.heap[c]?) := fun c h1 h2 => (Zb.keep c (by omega) (by have := RT9'.o; have := hs9.o; omega)).trans (KV9'.o c h1 h2)
      have RT10 := Za (RT9'.o.stay Zb (by omega));have hs10 : W7.heap.size <= w10.heap.size := Nat.le_trans hs9.o Zb.size;clear Zb Zd X9' T9' KV9' RT9' HC5;go_wp2_with fail;refine (HC6.o _ X10.o.at_).mono ?_;rintro e w11 ⟨Zb, Zd, x, rfl, hv⟩;have X11 := Za (X10.o.step Zb Zd);have T11 := Za (T10.o.trans Zb)
      have KV11 : xQ (∀ c, W6.heap.size <= c -> c < W7.heap.size -> w11.heap[c]? = W7.heap[c]?) := fun c h1 h2 => (Zb.keep c (by omega) (by omega)).trans (KV10.o c h1 h2)
      have RT11 := Za (RT10.o.stay Zb (by omega));have HX11 := Za hv;have hs11 := Zb.size;clear Zb Zd X10 T10 KV10 RT10 HC6 hv;obtain ⟨⟨d0, d1, d2, d3, d4, d5, d6, d7, d8, d9, d10, d11, d12, d13, d14⟩, ⟨z0, z1, z2, z3, z4, z5, z6, z7, z8, z9, z10, z11, z12, z13, z14⟩, Nt⟩ := U3 (X11.o.box (p := (db, _)) (xM));clear d0 d1 d2 d3 d4 d13 d14 z0 z1 z2 z3 z4 z13 z14;go_wp2_with fail;have X11' : xQ (RX pb tb cap ts w ((((((((w11.setCell ⟨db, 5, none⟩ (.int .i64 x.k)).setCell ⟨db, 6, none⟩ (.string x.tx)).setCell ⟨db, 7, none⟩ (.int .i64 x.N)).setCell ⟨db, 8, none⟩ (.int .i64 x.li)).setCell ⟨db, 9, none⟩ (.int .i64 x.co)).setCell ⟨db, 10, none⟩ (.slice x.ta x.tl x.tc)).setCell ⟨db, 11, none⟩ (.slice x.na x.nl x.nc)).setCell ⟨db, 12, none⟩ (.slice x.ka x.kl x.kc)) 0 (Zf R6) [(db, dO ⟨nmv.toArray⟩ ex (.slice va av.length vc) PM (.slice ta9 2 tc9) x tf.line tf.col), (mb, MV.obj ⟨ia, acc.length, ic, da, ad.length, dc⟩), (w.heap.size, Y2.obj)]) := X11.o.putN (by simp; omega) x
      have T11' : xQ (Zl pb wr ((((((((w11.setCell ⟨db, 5, none⟩ (.int .i64 x.k)).setCell ⟨db, 6, none⟩ (.string x.tx)).setCell ⟨db, 7, none⟩ (.int .i64 x.N)).setCell ⟨db, 8, none⟩ (.int .i64 x.li)).setCell ⟨db, 9, none⟩ (.int .i64 x.co)).setCell ⟨db, 10, none⟩ (.slice x.ta x.tl x.tc)).setCell ⟨db, 11, none⟩ (.slice x.na x.nl x.nc)).setCell ⟨db, 12, none⟩ (.slice x.ka x.kl x.kc))) := ((((((((T11.o.own Uo Wc 5 _).own Uo Wc 6 _).own Uo Wc 7 _).own Uo Wc 8 _).own Uo Wc 9 _).own Uo Wc 10 _).own Uo Wc 11 _).own Uo Wc 12 _)
      have KV11' : xQ (∀ c, W6.heap.size <= c -> c < W7.heap.size -> ((((((((w11.setCell ⟨db, 5, none⟩ (.int .i64 x.k)).setCell ⟨db, 6, none⟩ (.string x.tx)).setCell ⟨db, 7, none⟩ (.int .i64 x.N)).setCell ⟨db, 8, none⟩ (.int .i64 x.li)).setCell ⟨db, 9, none⟩ (.int .i64 x.co)).setCell ⟨db, 10, none⟩ (.slice x.ta x.tl x.tc)).setCell ⟨db, 11, none⟩ (.slice x.na x.nl x.nc)).setCell ⟨db, 12, none⟩ (.slice x.ka x.kl x.kc)).heap[c]? = W7.heap[c]?) := fun c h1 h2 => (Dw w11 x (by omega)).trans (KV11.o c h1 h2)
      have RT11' : xQ (Ym Uv W7.heap.size 42 4 none ((((((((w11.setCell ⟨db, 5, none⟩ (.int .i64 x.k)).setCell ⟨db, 6, none⟩ (.string x.tx)).setCell ⟨db, 7, none⟩ (.int .i64 x.N)).setCell ⟨db, 8, none⟩ (.int .i64 x.li)).setCell ⟨db, 9, none⟩ (.int .i64 x.co)).setCell ⟨db, 10, none⟩ (.slice x.ta x.tl x.tc)).setCell ⟨db, 11, none⟩ (.slice x.na x.nl x.nc)).setCell ⟨db, 12, none⟩ (.slice x.ka x.kl x.kc)) (.slice ta9 2 tc9) ct9 at9) := (Qv (Qv (Qv (Qv (Qv (Qv (Qv (Qv RT11.o Kg 5 _) Kg 6 _) Kg 7 _) Kg 8 _) Kg 9 _) Kg 10 _) Kg 11 _) Kg 12 _)
      have HX11' : xQ (Xo w10.heap.size ((((((((w11.setCell ⟨db, 5, none⟩ (.int .i64 x.k)).setCell ⟨db, 6, none⟩ (.string x.tx)).setCell ⟨db, 7, none⟩ (.int .i64 x.N)).setCell ⟨db, 8, none⟩ (.int .i64 x.li)).setCell ⟨db, 9, none⟩ (.int .i64 x.co)).setCell ⟨db, 10, none⟩ (.slice x.ta x.tl x.tc)).setCell ⟨db, 11, none⟩ (.slice x.na x.nl x.nc)).setCell ⟨db, 12, none⟩ (.slice x.ka x.kl x.kc)) x R6) := HX11.o.keep (Dx w11 db x) fun c h1 h2 => Dw w11 x (by omega)
      have hs11' : w11.heap.size <= ((((((((w11.setCell ⟨db, 5, none⟩ (.int .i64 x.k)).setCell ⟨db, 6, none⟩ (.string x.tx)).setCell ⟨db, 7, none⟩ (.int .i64 x.N)).setCell ⟨db, 8, none⟩ (.int .i64 x.li)).setCell ⟨db, 9, none⟩ (.int .i64 x.co)).setCell ⟨db, 10, none⟩ (.slice x.ta x.tl x.tc)).setCell ⟨db, 11, none⟩ (.slice x.na x.nl x.nc)).setCell ⟨db, 12, none⟩ (.slice x.ka x.kl x.kc)).heap.size := Dx w11 db x
      clear X11 T11 KV11 RT11 HX11 d5 d6 d7 d8 d9 d10 d11 d12 z5 z6 z7 z8 z9 z10 z11 z12 Nt;generalize (((((((w11.setCell ⟨db, 5, none⟩ (.int .i64 x.k)).setCell ⟨db, 6, none⟩ (.string x.tx)).setCell ⟨db, 7, none⟩ (.int .i64 x.N)).setCell ⟨db, 8, none⟩ (.int .i64 x.li)).setCell ⟨db, 9, none⟩ (.int .i64 x.co)).setCell ⟨db, 10, none⟩ (.slice x.ta x.tl x.tc)).setCell ⟨db, 11, none⟩ (.slice x.na x.nl x.nc)).setCell ⟨db, 12, none⟩ (.slice x.ka x.kl x.kc) = W11 at X11' T11' KV11' RT11' HX11' hs11' ⊢
      refine (HC7.o _ X11'.o.at_).mono ?_;rintro e w12 ⟨rfl, Zb, Zd⟩;have X12 := Za (X11'.o.step Zb Zd);have T12 := Za (T11'.o.trans Zb);have hs12 := Zb.size
      have KV12 : xQ (∀ c, W6.heap.size <= c -> c < W7.heap.size -> w12.heap[c]? = W7.heap[c]?) := fun c h1 h2 => (Zb.keep c (by omega) (by omega)).trans (KV11'.o c h1 h2)
      have RT12 := Za (RT11'.o.stay Zb (by omega));have HX12 : xQ (Xo w10.heap.size w12 x R6) := HX11'.o.stay Zb (by omega);clear Zb Zd X11' T11' KV11' RT11' HX11' HC7;have RI12 := Za (RI.o.stay T12.o (show pb < mb + 1 by omega));have RD12 := Za (RD.o.stay T12.o (show pb < mb + 1 by omega))
      have hoR : ∀ q, (Value.slice da ad.length dc).ownBlock = some q ∨ (Value.slice ia acc.length ic).ownBlock = some q -> q < db + 1 := fun q hq => by
       rcases hq with hq | hq
       ·have := (RD.o.own q hq).2; omega
       ·have := (RI.o.own q hq).2; omega
      have Tz : xQ (Wz Ei (mb + 1) (fun q => (Value.slice da ad.length dc).ownBlock = some q ∨ (Value.slice ia acc.length ic).ownBlock = some q) w12 [.string ⟨nmv.toArray⟩, .bool ex, .slice va av.length vc, .string PM, .slice ta9 2 tc9, .int .i64 x.k, .string x.tx, .int .i64 x.N, .int .i64 x.li, .int .i64 x.co, .slice x.ta x.tl x.tc, .slice x.na x.nl x.nc, .slice x.ka x.kl x.kc, .int .i64 tf.line, .int .i64 tf.col] (Vf (M5 ts b))) := by
       refine Wz.new (lo := db + 1) ⟨rfl, fun D e => ?_⟩ (by omega) hoR
       cases hi : M5 ts b with
       | inr p => rw [hi] at e; cases e
       | inl q =>
        obtain ⟨D', c⟩ := q;obtain ⟨s, vs, h, x', b2, b3, b4, b6, e2, e3, e4, e6, e7⟩ := HV.o.2 D' c hi;rw [hi] at e;injection e with e;obtain ⟨e8, e9⟩ := HTt.o h b4 e4;have e10 := HVv.o vs b3 e3;obtain ⟨m, hk⟩ := dX (e9 ▸ RT12.o);obtain ⟨a', c', e11, e12⟩ := yF (rep := J5) (fun _ _ _ D h => h.2 D rfl) varQ_k (e10 ▸ RV7'.o);injection e11 with e11 _ _;have hvl2 : vs.length <= 8193 := Q8.o vs b3 e3;have e13 : Be (db + 1) w12 va vs := Cj (Ql (e11 ▸ e12) (by omega) KV12.o) (by omega)
        have e14 : av.length = vs.length := by rw [e10, List.length_map]
        refine ⟨nmv, ex, vs, va, vc, pm, ta9, tc9, _, x, x', tf.line, tf.col, m, by rw [e14, HPM.o], ?_, hvl2, ?_, e13, Ae hk (by omega), (HX12.o x' b6 e6).lower (by omega)⟩
        ·rw [<- e, e7, Mz.o, e2, e8, HTf.o]
         rfl
        ·have := congrArg List.length e9
         rw [List.length_map, hat9] at this;exact this.symm
      clear hoR RI RD RT12 HX12 KV12 RV7';obtain ⟨⟨d0, d1, d2, d3, d4, d5, d6, d7, d8, d9, d10, d11, d12, d13, d14⟩, _, Nt⟩ := U3 (X12.o.box (p := (db, _)) (xM));obtain ⟨⟨m0, m1⟩, ⟨f0, f1⟩, Ly⟩ := Qd (x := ⟨ia, acc.length, ic, da, ad.length, dc⟩) (X12.o.box (p := (mb, _)) (xW _ xM))
      have M9 : ad.length <= 8193 := by have := HD.o.len; omega
      go_wp2_with (at_builtin; refine wpList_append_own_at _ rfl (.tmp 139) (.tmp 141) 24 rfl (mb + 1) 48 i5 _ 15 224 underlying24 di dz0 dz1 dz2 rfl (by decide) _ _ _ rfl (RD12.o.ow.alloc _) ⟨_, 0, none⟩ 1 1 [.string ⟨nmv.toArray⟩, .bool ex, .slice va av.length vc, .string PM, .slice ta9 2 tc9, .int .i64 x.k, .string x.tx, .int .i64 x.N, .int .i64 x.li, .int .i64 x.co, .slice x.ta x.tl x.tc, .slice x.na x.nl x.nc, .slice x.ka x.kl x.kc, .int .i64 tf.line, .int .i64 tf.col] rfl rfl (Pt _ _ _) (by simp [Value.oneCell']) (by unfold maxLen; omega) (by omega) (by simp; omega) ?_)
      intro v' w13 Z1 Zy _ Ys;have hpl12 := X12.o.at_.ltp
      have hoD : ∀ q, (Value.slice da ad.length dc).ownBlock = some q -> mb + 1 <= q := fun q hq => (RD12.o.own q hq).1
      have U2 := Za (RD12.o.put Z1 Zy (Ys.imp_right fun e => ⟨_, e, by simp⟩) ((Zl.refl pb _).alloc hpl12 _) (by omega) rfl (Tz.o.stay ((Zl.refl pb _).alloc hpl12 _) (by omega)));have HRI := Za ((RI12.o.stay ((Zl.refl pb _).alloc hpl12 (.cells #[.string ⟨nmv.toArray⟩, .bool ex, .slice va av.length vc, .string PM, .slice ta9 2 tc9, .int .i64 x.k, .string x.tx, .int .i64 x.N, .int .i64 x.li, .int .i64 x.co, .slice x.ta x.tl x.tc, .slice x.na x.nl x.nc, .slice x.ka x.kl x.kc, .int .i64 tf.line, .int .i64 tf.col] 48)) (by omega)).beside (o' := v'.ownBlock) Zy (Ys.imp_right fun e => ⟨_, e, by simp, (Z1.lt _ e).2⟩) (by simp; omega))
      have X13 := Za ((X12.o.drop.alloc (.cells #[.string ⟨nmv.toArray⟩, .bool ex, .slice va av.length vc, .string PM, .slice ta9 2 tc9, .int .i64 x.k, .string x.tx, .int .i64 x.N, .int .i64 x.li, .int .i64 x.co, .slice x.ta x.tl x.tc, .slice x.na x.nl x.nc, .slice x.ka x.kl x.kc, .int .i64 tf.line, .int .i64 tf.col] 48)).drop.grown Zy (fun q hq => by have := hoD q hq; omega) fun p hp q hq => by
       have := hoD q hq;simp only [List.mem_cons, List.not_mem_nil, or_false] at hp;rcases hp with rfl | rfl
       ·show q ≠ mb; omega
       ·show q ≠ w.heap.size; omega)
      obtain ⟨da', dc', hv'⟩ := U9 Z1;subst hv';obtain ⟨g', Pg, hn⟩ := HD.o.next (by omega) HKi.o hln;rw [HV.o.1] at hn;have HN := Za hn;clear Z1 Zy Ys hn X12 RD12 RI12 Tz HD d0 d1 d2 d3 d4 d5 d6 d7 d8 d9 d10 d11 d12 d13 d14 Nt m0 m1 f0 f1 Ly hoD;obtain ⟨⟨m0, m1⟩, ⟨f0, f1⟩, Ly⟩ := Qd (x := ⟨ia, acc.length, ic, da, ad.length, dc⟩) (X13.o.box (p := (mb, _)) (xM));go_wp2_with fail
      go_roundg g'
      case measure => exact Pg
      case rel =>
       refine ⟨Zf R7, da', dc', cd ++ [[.string ⟨nmv.toArray⟩, .bool ex, .slice va av.length vc, .string PM, .slice ta9 2 tc9, .int .i64 x.k, .string x.tx, .int .i64 x.N, .int .i64 x.li, .int .i64 x.co, .slice x.ta x.tl x.tc, .slice x.na x.nl x.nc, .slice x.ka x.kl x.kc, .int .i64 tf.line, .int .i64 tf.col]], ad ++ [Vf (M5 ts b)], ?_, ?_, ?_, HN⟩
       ·rw [List.length_append]
        exact X13.o.setB (fun p hp => by rw [List.mem_singleton.1 hp]; show w.heap.size ≠ mb; omega) 1 _
       ·rw [List.length_append]
        exact Qv HRI.o (by omega) 1 _
       ·rw [List.length_append]
        exact Qv U2.o (by omega) 1 _
end Go.Proofs.YtfoejkhfdiodhaaGreatDoor
