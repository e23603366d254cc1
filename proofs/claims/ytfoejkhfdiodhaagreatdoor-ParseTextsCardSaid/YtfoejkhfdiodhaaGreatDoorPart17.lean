/- Part. -/
import Derived.Deep.RegionLaw
import Derived.ProofKit
import Derived.OpenShut
import Derived.ShutString
import Derived.ChangeOld
import Derived.LaidMore
import Derived.Stop.Joined
import Derived.Stop.LaidErr
import Derived.Lib.LaidTab
import Derived.Test.YtfoejkhfdiodhaaGreatDoorPart16
import Derived.Test.YtfoejkhfdiodhaaGreatDoorCards
import Derived.Test.YtfoejkhfdiodhaaGreatDoorTie
set_option maxRecDepth 100000
set_option maxHeartbeats 4000000
namespace Go.Proofs.YtfoejkhfdiodhaaGreatDoor
open Go.Proofs.Tryz
open Go.RowKit
attribute [local go_sem ↓] Go.wp_at_zero Go.wp_at_succ
theorem jP (pb tb cap : Nat) (ts : List Tok) (ok : Yh ts) (w : World) (h : Ps w pb tb cap ts 0 0) :
  Calls prog 12 #[pP pb] w (Z7 pb tb cap ts 0 w Cp (Dv ts)) := by
 have OK := Za ok
 have hp := h.ltp
 have X0 : xQ (Uu pb tb cap ts w ((w.alloc zMod).alloc zMod) 0 (.slice none 0 0) (.slice none 0 0)) :=
  ⟨((Zl.refl pb w).alloc hp _).alloc hp _, (h.alloc _).alloc _, hp, (xA (by simp)).trans (xL w _), Ti w _ _⟩
 obtain ⟨R, hR⟩ : ∃ R : Pr (List Ty × List Ty), R = Dv ts := ⟨_, rfl⟩
 rw [<- hR]
 have HA0 : xQ (G8 ts R [] ts.length 0) := by rw [hR]; exact nL ts
 clear h ok hR
 go_enter func12, ntmps12
 go_wp2_with fail
 obtain ⟨i0, hi, Wp, Xy, Wr⟩ := info_parts vQ
 obtain ⟨i1, Qs, hz0', hz1', hz2'⟩ := info_parts vP
 go_loopg [4] (ts.length) (fun gk _ wr => ∃ (b m : Nat) (v : Value) (cs : List (List Value)) (acc : List Ty), xQ (Uu pb tb cap ts w wr b v (.slice none 0 0)) /\ xQ (Ym N9 (w.heap.size + 2) 58 4 none wr v cs acc) /\ xQ (G8 ts R acc m b) /\ xQ (ts.length <= b + m) /\ xQ (acc.length <= b) /\ ts.length - b <= gk)
 case atStart => exact ⟨0, ts.length, _, [], [], X0, Lb _ _ _ _ _, HA0, (by show _ <= _; omega), xR, by omega⟩
 case round =>
  clear X0 HA0;obtain ⟨b, m, v, cs, acc, X, RW, HA, U1, Pn, Ts⟩ := hrel;have hbt := X.o.ps.lt
  obtain ⟨m, rfl⟩ : ∃ q, m = q + 1 := ⟨m - 1, by have := U1.o; omega⟩
  go_wp2_with fail;refine (Vo pb tb cap b _ 1 ts [[105, 109, 112, 111, 114, 116]] _ _ X.o.ps.rd (by simp) (by simp)).mono ?_;rintro e w2 ⟨rfl, Z0⟩;have X2 := Za (X.o.below Z0);have RW2 := Za (RW.o.stay (Zl.of X.o.ps.ltp Z0) (show pb < w.heap.size + 2 by omega));clear Z0;simp only [List.any_cons, List.any_nil, Bool.or_false]
  cases hs : Zh ts b [105, 109, 112, 111, 114, 116] with
  | false =>
   have HD := Za (nH HA.o hs);clear hs;clear X RW HA U1 hbt;obtain ⟨wo, hwo⟩ := xE w2;rw [<- hwo] at X2 RW2 ⊢;clear hwo;obtain ⟨is, his⟩ := xE acc
   have B4 : is.length <= 8193 := by have := Pn.o; have := OK.o.len; have := X2.o.ps.lt; rw [his]; omega
   rw [<- his] at RW2 HD;clear his;obtain ⟨ia, ic, rfl⟩ := U9 RW2.o.ow;have Z0 := X2.o.ps.lt;go_wp2_with fail
   go_loopg [16] (ts.length) (fun gk _ wr => ∃ (b m : Nat) (v : Value) (cd : List (List Value)) (acc : List Ty), xQ (Uu pb tb cap ts w wr b (.slice ia is.length ic) v) /\ xQ (Ym N9 (w.heap.size + 2) 58 4 v.ownBlock wr (.slice ia is.length ic) cs is) /\ xQ (Ym N2 (w.heap.size + 2) 48 15 none wr v cd acc) /\ xQ (G7 ts R is acc m b) /\ xQ (ts.length + 1 <= b + m) /\ xQ (acc.length <= b) /\ ts.length - b <= gk)
   case atStart => exact ⟨b, ts.length + 1, .slice none 0 0, [], [], X2, RW2, Lb _ _ _ _ _, HD, (by show _ <= _; omega), xZ _, by omega⟩
   case round =>
    clear X2 RW2 HD Pn Z0;obtain ⟨b, m, v, cd, acc, X, RI, RW, HA, U1, Pn, Ts⟩ := hrel;have hbt := X.o.ps.lt
    obtain ⟨m, rfl⟩ : ∃ q, m = q + 1 := ⟨m - 1, by have := U1.o; omega⟩
    go_wp2_with fail;refine (Vo pb tb cap b _ 2 ts [[101, 120, 112, 111, 114, 116], [102, 110]] _ _ X.o.ps.rd (by simp) (by simp)).mono ?_;rintro e w3 ⟨rfl, Q1⟩;have X2 := Za (X.o.below Q1);have RI2 := Za (RI.o.stay (Zl.of X.o.ps.ltp Q1) (show pb < w.heap.size + 2 by omega));have RW2 := Za (RW.o.stay (Zl.of X.o.ps.ltp Q1) (show pb < w.heap.size + 2 by omega));clear Q1;simp only [List.any_cons, List.any_nil, Bool.or_false]
    have M9 : acc.length <= 8193 := by have := Pn.o; have := OK.o.len; omega
    cases hs : (Zh ts b [101, 120, 112, 111, 114, 116] || Zh ts b [102, 110]) with
    | false =>
     have HD := Za (nE HA.o hs);clear hs X RI RW HA U1;obtain ⟨da, dc, rfl⟩ := U9 RW2.o.ow;obtain ⟨⟨c0, c1⟩, ⟨z0, z1⟩, Yz⟩ := Fk X2.o.box;obtain ⟨⟨r0, r1⟩, ⟨f0, f1⟩, Xu⟩ := Fk X2.o.res;go_wp2_with fail;rw [HD.o];have hI := (Qv (Qv RI2.o (q := w.heap.size) (by omega) 0 (.slice ia is.length ic)) (q := w.heap.size) (by omega) 1 (.slice da acc.length dc)).form Do;have hD := (Qv (Qv RW2.o (q := w.heap.size) (by omega) 0 (.slice ia is.length ic)) (q := w.heap.size) (by omega) 1 (.slice da acc.length dc)).form Gp
     obtain ⟨ia', ic', e1, _, hI⟩ := hI;obtain ⟨da', dc', e2, _, hD⟩ := hD;injection e1 with e1 _ _;injection e2 with e2 _ _;subst e1 e2;refine bodyPost_ret (results_cell_row rfl _ _ w.heap.size 26 _ (0, 0) _ rfl (qD X2.o.res (.slice ia is.length ic) (.slice da acc.length dc)) underlying26 rfl (by kernel_rfl)) rfl ⟨(X2.o.st.own hp (xR) 0 _).own hp (xR) 1 _, (X2.o.ps.other hp 0 _).other hp 1 _, _, rfl, ia, ic, da, dc, rfl, B4, M9, ?_, ?_⟩
     ·exact Od Do hI (by omega)
     ·exact Od Gp hD (by omega)
    | true =>
     have Ub := Za hs;clear hs X RI RW;go_wp2_with fail;have X3 := Za X2.o.drew;have RI3 : xQ (Ym N9 (w.heap.size + 2) 58 4 v.ownBlock w3.drew (.slice ia is.length ic) cs is) := RI2.o.stay (Zl.refl pb w3).drew (show pb < w.heap.size + 2 by omega);have RW3 : xQ (Ym N2 (w.heap.size + 2) 48 15 none w3.drew v cd acc) := RW2.o.stay (Zl.refl pb w3).drew (show pb < w.heap.size + 2 by omega);obtain ⟨⟨c0, c1⟩, ⟨z0, z1⟩, Yz⟩ := Fk X3.o.box
     have HC : xQ (Calls prog 29 #[pP pb] w3.drew fun e w9 => (∃ chain, e = .panicked chain /\ Z7 pb tb cap ts 0 w Cp R e w9) ∨ ∃ (s : List UInt8) (ex : Bool) (vs : List (List UInt8 × Ty)) (va : Option Addr) (vc : Nat) (pm : List UInt8) (ta : Option Addr) (tc : Nat) (x : NV) (li co : Nat) (D : Ty) (b1 : Nat), e = .returned (.agg #[.string ⟨s.toArray⟩, .bool ex, .slice va vs.length vc, .string ⟨pm.toArray⟩, .slice ta 2 tc, .int .i64 x.k, .string x.tx, .int .i64 x.N, .int .i64 x.li, .int .i64 x.co, .slice x.ta x.tl x.tc, .slice x.na x.nl x.nc, .slice x.ka x.kl x.kc, .int .i64 li, .int .i64 co]) /\ (w9.cell? ⟨w.heap.size + 1, 0, none⟩ = some (.slice ia is.length ic) /\ w9.cell? ⟨w.heap.size + 1, 1, none⟩ = some v) /\ w.heap.size + 1 < w9.heap.size /\
       xQ (G7 ts R is (acc ++ [D]) m b1 /\ b + 1 <= b1 /\ Uu pb tb cap ts w w9 b1 (.slice ia is.length ic) v /\ Ym N2 (w.heap.size + 2) 48 15 none w9 v cd acc /\ Wz N2 (w.heap.size + 2) (fun q => v.ownBlock = some q ∨ (none : Option Nat) = some q) w9 [.string ⟨s.toArray⟩, .bool ex, .slice va vs.length vc, .string ⟨pm.toArray⟩, .slice ta 2 tc, .int .i64 x.k, .string x.tx, .int .i64 x.N, .int .i64 x.li, .int .i64 x.co, .slice x.ta x.tl x.tc, .slice x.na x.nl x.nc, .slice x.ka x.kl x.kc, .int .i64 li, .int .i64 co] D /\ Ym N9 (w.heap.size + 2) 58 4 v.ownBlock w9 (.slice ia is.length ic) cs is)) := by
      refine (decl_c pb tb cap ts OK.o b _ X3.o.ps).mono ?_;intro e w9 Zg;rcases Yj Zg with ⟨er, li, co, hr, rfl, Zb⟩ | ⟨D, b1, v1, hr, rfl, Zb, Zc, hv⟩
      ·exact .inl ⟨_, rfl, X3.o.st.trans Zb, by rw [nF HA.o Ub.o hr]⟩
      obtain ⟨c, rfl, hc⟩ := hv;have Hb := hc;obtain ⟨s, ex, vs, va, vc, pm, ta, tc, tys, x, B, li, co, md, rfl, _⟩ := hc;have XN := X3.o.step Zb Zc;have hb := Fk XN.box;exact .inr ⟨s, ex, vs, va, vc, pm, ta, tc, x, li, co, D, b1, rfl, hb.1, hb.2.2, nG HA.o Ub.o hr, wJ _ _ hr, XN, RW3.o.stay Zb (by omega), Wz.new (rep := N2) Hb X3.o.lt (fun q hq => RW3.o.all q hq), RI3.o.stay Zb (by omega)⟩
     go_region_law (first
      | (go_simp; go_at_call 29; refine HC.o.mono ?_; rintro e w9 (⟨ch, rfl, hf⟩ | ⟨s, ex, vs, va, vc, pm, ta, tc, x, li, co, D, b1, rfl, ⟨t0, t1⟩, hl9, HX⟩); exact ⟨rfl, hf⟩)
      | (refine qU rfl (.tmp 22) (.tmp 25) 24 rfl (w.heap.size + 2) 48 i1 _ 15 224 underlying24 Qs hz0' hz1' hz2' rfl (by decide) v _ _ (by first | rfl | simp [Act.eval, Act.put]) (HX.o.2.2.2.1.ow.alloc _) ⟨w9.heap.size, 0, none⟩ 1 1 [.string ⟨s.toArray⟩, .bool ex, .slice va vs.length vc, .string ⟨pm.toArray⟩, .slice ta 2 tc, .int .i64 x.k, .string x.tx, .int .i64 x.N, .int .i64 x.li, .int .i64 x.co, .slice x.ta x.tl x.tc, .slice x.na x.nl x.nc, .slice x.ka x.kl x.kc, .int .i64 li, .int .i64 co] (by first | rfl | simp [Act.eval, Act.put]) rfl (Pt _ _ _) (by simp [Value.oneCell']) (by unfold maxLen; omega) (by omega) (by rw [xS]; omega) ?_; intro v' w4 Z1 Zy Ys; obtain ⟨av, cv, rfl⟩ := U9 Z1;
                have HN : xQ (Uu pb tb cap ts w w4 b1 (.slice ia is.length ic) v /\ Ym N2 (w.heap.size + 2) 48 15 none w4 (.slice av (acc.length + 1) cv) (cd ++ [[.string ⟨s.toArray⟩, .bool ex, .slice va vs.length vc, .string ⟨pm.toArray⟩, .slice ta 2 tc, .int .i64 x.k, .string x.tx, .int .i64 x.N, .int .i64 x.li, .int .i64 x.co, .slice x.ta x.tl x.tc, .slice x.na x.nl x.nc, .slice x.ka x.kl x.kc, .int .i64 li, .int .i64 co]]) (acc ++ [D]) /\ Ym N9 (w.heap.size + 2) 58 4 (Value.slice av (acc.length + 1) cv).ownBlock w4 (.slice ia is.length ic) cs is) := ⟨(HX.o.2.2.1.alloc _).grown Zy fun q hq => (HX.o.2.2.2.1.own q hq).1, HX.o.2.2.2.1.put Z1 Zy (Ys.imp_right fun e => ⟨_, e, by simp⟩) ((Zl.refl pb w9).alloc HX.o.2.2.1.ps.ltp _) (show pb < w.heap.size + 2 by omega) rfl (HX.o.2.2.2.2.1.stay ((Zl.refl pb w9).alloc HX.o.2.2.1.ps.ltp _) (show pb < w.heap.size + 2 by omega)), (HX.o.2.2.2.2.2.stay ((Zl.refl pb w9).alloc HX.o.2.2.1.ps.ltp _) (show pb < w.heap.size + 2 by omega)).beside Zy (Ys.imp_right fun e => ⟨_, e, xR, (Z1.lt _ e).2⟩) (by rw [xS]; omega)⟩;
                obtain ⟨⟨k0, k1⟩, ⟨f0, f1⟩, Lv⟩ := Fk HN.o.1.box; clear Z1 Zy Ys))
     all_goals
      go_wp2_with fail
      go_roundg (ts.length - b1)
      case measure => have := HX.o.2.1; omega
      case rel => exact ⟨b1, m, _, _, _, HN.o.1.set1 _, Qv HN.o.2.2 (by omega) 1 _, Qv HN.o.2.1 (by omega) 1 _, HX.o.1, (by have := U1.o; have := HX.o.2.1; show _ <= _; omega), (by have := Pn.o; have := HX.o.2.1; show (acc ++ [D]).length <= _; simp; omega), xR⟩
  | true =>
   have Z8 : b + 1 < ts.length := Q4 OK.o.ends hbt hs;have Ub := Za hs
   have M9 : acc.length <= 8193 := by have := Pn.o; have := OK.o.len; omega
   clear hs X RW;go_wp2_with fail;have X3 := Za X2.o.drew;have RW3 : xQ (Ym N9 (w.heap.size + 2) 58 4 none w2.drew v cs acc) := RW2.o.stay (Zl.refl pb w2).drew (show pb < w.heap.size + 2 by omega);obtain ⟨⟨c0, c1⟩, ⟨z0, z1⟩, Yz⟩ := Fk X3.o.box
   have HC : xQ (Calls prog 28 #[pP pb] w2.drew fun e w9 => (∃ chain, e = .panicked chain /\ Z7 pb tb cap ts 0 w Cp R e w9) ∨ ∃ (s : List UInt8) (l : List (List UInt8)) (na : Option Addr) (nc li co : Nat) (D : Ty) (b1 : Nat), e = .returned (.agg #[.string ⟨s.toArray⟩, .slice na l.length nc, .int .i64 li, .int .i64 co]) /\ (w9.cell? ⟨w.heap.size + 1, 0, none⟩ = some v /\ w9.cell? ⟨w.heap.size + 1, 1, none⟩ = some (.slice none 0 0)) /\ w.heap.size + 1 < w9.heap.size /\
     xQ (G8 ts R (acc ++ [D]) m b1 /\ b + 1 <= b1 /\ Uu pb tb cap ts w w9 b1 v (.slice none 0 0) /\ Ym N9 (w.heap.size + 2) 58 4 none w9 v cs acc /\ Wz N9 (w.heap.size + 2) (fun q => v.ownBlock = some q ∨ (none : Option Nat) = some q) w9 [.string ⟨s.toArray⟩, .slice na l.length nc, .int .i64 li, .int .i64 co] D)) := by
    refine (l9 pb tb cap 0 ts OK.o b _ X3.o.ps).mono ?_;intro e w9 Zg;rcases Yj Zg with ⟨er, li, co, hr, rfl, Zb⟩ | ⟨D, b1, v1, hr, rfl, Zb, Zc, hv⟩
    ·exact .inl ⟨_, rfl, X3.o.st.trans Zb, by rw [nJ HA.o Ub.o hr]⟩
    obtain ⟨c, rfl, hc⟩ := hv;have Hb := hc;obtain ⟨s, l, na, nc, li, co, rfl, _⟩ := hc;have XN := X3.o.step Zb Zc;have hb := Fk XN.box;exact .inr ⟨s, l, na, nc, li, co, D, b1, rfl, hb.1, hb.2.2, nK HA.o Ub.o hr, O9 _ _ hr, XN, RW3.o.stay Zb (by omega), Wz.new (rep := N9) Hb X3.o.lt fun q hq => RW3.o.all q hq⟩
   go_region_law (first
    | (go_simp; go_at_call 28; refine HC.o.mono ?_; rintro e w9 (⟨ch, rfl, hf⟩ | ⟨s, l, na, nc, li, co, D, b1, rfl, ⟨t0, t1⟩, hl9, HX⟩); exact ⟨rfl, hf⟩)
    | (refine qU rfl (.tmp 10) (.tmp 13) 23 rfl (w.heap.size + 2) 58 i0 _ 4 56 underlying23 hi Wp Xy Wr rfl (by decide) v _ _ (by first | rfl | simp [Act.eval, Act.put]) (HX.o.2.2.2.1.ow.alloc _) ⟨w9.heap.size, 0, none⟩ 1 1 [.string ⟨s.toArray⟩, .slice na l.length nc, .int .i64 li, .int .i64 co] (by first | rfl | simp [Act.eval, Act.put]) rfl (Pt _ _ _) (by simp [Value.oneCell']) (by unfold maxLen; omega) (by omega) (by rw [xS]; omega) ?_; intro v' w4 Z1 Zy Ys; obtain ⟨av, cv, rfl⟩ := U9 Z1;
                have HN : xQ (Uu pb tb cap ts w w4 b1 v (.slice none 0 0) /\ Ym N9 (w.heap.size + 2) 58 4 none w4 (.slice av (acc.length + 1) cv) (cs ++ [[.string ⟨s.toArray⟩, .slice na l.length nc, .int .i64 li, .int .i64 co]]) (acc ++ [D])) := ⟨(HX.o.2.2.1.alloc _).grown Zy fun q hq => (HX.o.2.2.2.1.own q hq).1, HX.o.2.2.2.1.put Z1 Zy (Ys.imp_right fun e => ⟨_, e, by simp⟩) ((Zl.refl pb w9).alloc HX.o.2.2.1.ps.ltp _) (show pb < w.heap.size + 2 by omega) rfl (HX.o.2.2.2.2.stay ((Zl.refl pb w9).alloc HX.o.2.2.1.ps.ltp _) (show pb < w.heap.size + 2 by omega))⟩;
                obtain ⟨⟨k0, k1⟩, ⟨f0, f1⟩, Lv⟩ := Fk HN.o.1.box; clear Z1 Zy Ys))
   all_goals
    go_wp2_with fail
    go_roundg (ts.length - b1)
    case measure => have := HX.o.2.1; omega
    case rel => exact ⟨b1, m, _, _, _, HN.o.1.set0 _, Qv HN.o.2 (by omega) 0 _, HX.o.1, (by have := U1.o; have := HX.o.2.1; show _ <= _; omega), (by have := Pn.o; have := HX.o.2.1; show (acc ++ [D]).length <= _; simp; omega), xR⟩
end Go.Proofs.YtfoejkhfdiodhaaGreatDoor
namespace Go.Proofs.YtfoejkhfdiodhaaGreatDoor
open Go.Proofs.Tryz
open Go.RowKit
structure MV where
 ia : Option Addr
 il : Nat
 ic : Nat
 da : Option Addr
 dl : Nat
 dc : Nat
abbrev MV.val (x : MV) : Value := .agg #[.slice x.ia x.il x.ic, .slice x.da x.dl x.dc]
abbrev MV.obj (x : MV) : Obj := .cells #[.slice x.ia x.il x.ic, .slice x.da x.dl x.dc] 26
abbrev Y2 : MV := ⟨none, 0, 0, none, 0, 0⟩
abbrev putM (w : World) (b : Nat) (x : MV) : World := (w.setCell ⟨b, 0, none⟩ (.slice x.ia x.il x.ic)).setCell ⟨b, 1, none⟩ (.slice x.da x.dl x.dc)
def Vu (lo : Nat) (w : World) (x : MV) (D : List Ty × List Ty) : Prop := x.il = D.1.length /\ x.dl = D.2.length /\ D.1.length <= 8193 /\ D.2.length <= 8193 /\ J3 N9 4 lo w x.ia D.1 /\ J3 N2 15 lo w x.da D.2
def Da (lo : Nat) (w : World) (v : Value) (D : List Ty × List Ty) : Prop := ∃ x : MV, v = x.val /\ Vu lo w x D
theorem mdE_of {lo : Nat} {w : World} {v : Value} {D : List Ty × List Ty} (h : Cp lo w v D) : Da lo w v D := by
 obtain ⟨ia, ic, da, dc, rfl, h1, h2, h3, h4⟩ := h
 exact ⟨⟨ia, D.1.length, ic, da, D.2.length, dc⟩, rfl, rfl, rfl, h1, h2, h3, h4⟩
section
variable {w w' : World} {lo lo' b pb : Nat} {x y : MV} {D : List Ty × List Ty}
theorem Gz (h : w.heap[b]? = some y.obj) : (putM w b x).heap[b]? = some x.obj := qD h _ _
theorem qE : (putM w b x).heap.size = w.heap.size := by
 unfold putM
 rw [Ye, Ye]
theorem Hp {i : Nat} (hi : i ≠ b) : (putM w b x).heap[i]? = w.heap[i]? := by
 unfold putM
 rw [xH hi, xH hi]
theorem Fj {B : Nat} {u : World} (h : Below B u w) (hb : B <= b) (x : MV) : Below B u (putM w b x) := (h.setCell hb _).setCell hb _
theorem Qd (h : w.heap[b]? = some x.obj) : (w.cell? ⟨b, 0, none⟩ = some (.slice x.ia x.il x.ic) /\ w.cell? ⟨b, 1, none⟩ = some (.slice x.da x.dl x.dc)) /\ (w.frozen? ⟨b, 0, none⟩ = false /\ w.frozen? ⟨b, 1, none⟩ = false) /\ b < w.heap.size := Fk h
theorem Vu.keep (h : Vu lo w x D) (hs : w.heap.size <= w'.heap.size) (hk : ∀ b, lo <= b -> b < w.heap.size -> w'.heap[b]? = w.heap[b]?) : Vu lo w' x D :=
 ⟨h.1, h.2.1, h.2.2.1, h.2.2.2.1, Rz Do h.2.2.2.2.1 hs hk, Rz Gp h.2.2.2.2.2 hs hk⟩
theorem Vu.lower (h : Vu lo w x D) (hl : lo' <= lo) : Vu lo' w x D :=
 ⟨h.1, h.2.1, h.2.2.1, h.2.2.2.1, Od Do h.2.2.2.2.1 hl, Od Gp h.2.2.2.2.2 hl⟩
theorem Vu.stay (h : Vu lo w x D) (hs : Zl pb w w') (hp : pb < lo) : Vu lo w' x D := h.keep hs.size fun b hb hl => hs.keep b (by omega) hl
theorem Vu.putM (h : Vu lo w x D) (hb : b < lo) (y : MV) : Vu lo (putM w b y) x D := h.keep (by rw [qE]; exact xR) fun i hi _ => Hp (by omega)
theorem Vu.set1 (h : Vu lo w x D) (hb : b < lo) (o : Nat) (u : Value) : Vu lo (w.setCell ⟨b, o, none⟩ u) x D :=
 h.keep (by rw [Ye]; exact xR) fun i hi _ => xH (by show i ≠ b; omega)
end
theorem jQ (pb : Nat) : Mx 12 pb := fun w => Bi func12 (by kernel_rfl) (by kernel_rfl) _ w
theorem jN (pb tb cap : Nat) (ts : List Tok) (ok : Yh ts) (w : World) (h : Ps w pb tb cap ts 0 0) :
  Calls prog 12 #[pP pb] w (Z7 pb tb cap ts 0 w Da (Dv ts)) :=
 (jP pb tb cap ts ok w h).mono fun e w' hp => by
  refine ⟨hp.1, ?_⟩;have h2 := hp.2
  revert h2
  cases Dv ts with
  | inr p => exact id
  | inl p =>
   rintro ⟨h1, v, h2, h3⟩;exact ⟨h1, v, h2, mdE_of h3⟩
theorem bM (p q : Addr) (w : World) :
  CallsD prog 25 #[.pointer (some p), .pointer (some q)] .returning w fun e u' w' => e = .returned (.tuple #[]) /\ u' = .returning /\ w' = w := by
 have hn := zP
 refine callsD_of_wpS func25 rfl fun c₀ cs hu => ?_
 apply wpS_seq
 apply wpS_region
 simp [wpOpsS, go_sem, recoverD, hu, ntmps25, Exit.thenS]
 refine wpS_of_wp ?_
 simp only [Array.replicate, List.replicate, List.setIfInBounds_toArray, List.set_cons_zero, List.set_cons_succ, List.append_toArray, List.cons_append, List.nil_append]
 go_wp2
 cases c₀
 simp_all [bodyPostS, results, results25]
theorem wA (ab db : Nat) (li co x : Int) (older : List PanicEntry) (w : World) (y : MV) (x0 x1 x2 x3 : Value) (ha : w.heap[ab]? = some y.obj) (hd : w.heap[db]? = some (.cells #[x0, x1, x2, x3] 29)) (K8 : ab ≠ db) :
  CallsD prog 25 #[.pointer (some ⟨ab, 0, none⟩), .pointer (some ⟨db, 0, none⟩)] (.panicking ({ v := .iface 29 (M6 li co x), recovered := false } :: older)) w fun e u' w' => e = .returned (.tuple #[]) /\ u' = .panicking ({ v := .iface 29 (M6 li co x), recovered := true } :: older) /\
   (w'.heap[ab]? = some Y2.obj /\ w'.heap[db]? = some (.cells #[.int .i64 0, .int .i64 li, .int .i64 co, .int .i64 x] 29)) /\ xQ (∀ B, B <= ab -> B <= db -> Below B w w') := by
 have hn := zO
 have hta := Ox
 obtain ⟨⟨a0, a1⟩, ⟨z0, z1⟩, Lw⟩ := Qd ha
 obtain ⟨⟨d0, d1, d2, d3⟩, ⟨g0, g1, g2, g3⟩, Jc⟩ := Z6 hd
 have HA := Za ha
 have HD := Za hd
 clear ha hd
 have hab' : ¬ db = ab := fun e => K8 e.symm
 refine callsD_of_wpS func25 rfl fun c₀ cs hu => ?_
 apply wpS_seq
 apply wpS_region
 simp [wpOpsS, go_sem, recoverD, hu, ntmps25, Exit.thenS]
 refine wpS_of_wp ?_
 simp only [Array.replicate, List.replicate, List.setIfInBounds_toArray, List.set_cons_zero, List.set_cons_succ, List.append_toArray, List.cons_append, List.nil_append]
 go_wp2
 go_region
 all_goals
  go_wp2;refine ⟨rfl, _, rfl, .tuple #[], results_none rfl _ _ _, rfl, rfl, ⟨?_, ?_⟩, fun B h1 h2 => ?_⟩
  ·rw [Hc]
   refine (xA (by simp only [Ye]; exact Lw)).trans ?_;exact (Xs K8 _ _ _ _).trans (Gz (x := Y2) HA.o)
  ·rw [Hc]
   refine (xA (by simp only [Ye]; exact Jc)).trans ?_;exact set4 ((Hp (x := Y2) hab').trans HD.o) _ _ _ _
  ·exact ((V9 (Fj (x := Y2) (Below.refl _ w) h1) h2 _ _ _ _).alloc (by simp only [Ye]; omega) _).drew
theorem uS {l : List UInt8} {ts : List Tok} (h : Tk l = .inl ts) : Nk l = Bh (Bz ts (Dv ts)) := by
 rw [uR]
 unfold Nk Bh
 rw [h]
 simp only
 cases Bz ts (Fw ts) <;> rfl
theorem fR {w : World} {pb tb cap a d b : Nat} {ts : List Tok} (h : Ps w pb tb cap ts a d) (h1 : b ≠ pb) (h2 : b ≠ tb) (x : MV) : Ps (putM w b x) pb tb cap ts a d :=
 ⟨(Hp (x := x) (fun e => h1 e.symm)).trans h.blk, h.tlt, Qk h.toks (Hp (x := x) (fun e => h2 e.symm)), h.lt⟩
theorem Vu.drew {lo : Nat} {w : World} {x : MV} {D : List Ty × List Ty} (h : Vu lo w x D) : Vu lo w.drew x D := h.keep (xR) fun _ _ _ => rfl
theorem Vu.set4 {lo b : Nat} {w : World} {x : MV} {D : List Ty × List Ty} (h : Vu lo w x D) (hb : b < lo) (x0 x1 x2 x3 : Value) : Vu lo ((((w.setCell ⟨b, 0, none⟩ x0).setCell ⟨b, 1, none⟩ x1).setCell ⟨b, 2, none⟩ x2).setCell ⟨b, 3, none⟩ x3) x D :=
 (((h.set1 hb 0 _).set1 hb 1 _).set1 hb 2 _).set1 hb 3 _
theorem eE (S : ByteArray) (hS : S.size <= 140737488351232) (w : World) (hw : Lx.Words w) :
  Calls prog 11 #[.string S, .func (.func 12) #[] #[]] w (J6 w Y2.val Da (Nk S.data.toList)) := by
 have hmf : ∀ (fn : Fn) (first cap : Array Value) (w : World), (Instr.makeFunc fn first cap).run prog w = .ok (.func fn first cap) w := fun _ _ _ _ => rfl
 have HX := Za (fun wx (hb : Below w.heap.size w wx) => Lx.lex_c S hS wx (hw.below hb))
 have Vv := jQ
 clear hw
 go_enter_defers func11, ntmps11
 go_wp2_with fail
 refine (HX.o _ (Zx (Zq _ _) (Zq _ _))).mono ?_
 intro e w2 Zg
 obtain ⟨Z0, hm⟩ := Zg
 have Yx := Za (Zx (Zx (Zq _ _) (Zq _ _)) Z0)
 have HA := Za ((Z0.block w.heap.size (by rw [xS, xS]; omega)).trans ((xA (by rw [xS]; omega)).trans (xL w _)))
 have HD := Za ((Z0.block (w.heap.size + 1) (by rw [xS, xS]; omega)).trans (Ti w _ _))
 clear Z0
 obtain ⟨⟨a0, a1⟩, ⟨z0, z1⟩, Lw⟩ := Qd (x := Y2) HA.o
 obtain ⟨⟨d0, d1, d2, d3⟩, ⟨g0, g1, g2, g3⟩, Jc⟩ := Z6 HD.o
 cases hl : Tk S.data.toList with
 | inr p =>
  obtain ⟨x, li, co⟩ := p;rw [hl] at hm;simp only at hm;subst hm
  have hx0 : (x != 0) = true := by simpa using Ip hl
  have HE : xQ (Nk S.data.toList = .inr (x, li, co)) := by show _ = _; unfold Nk; rw [hl]
  clear hl;unfold Lx.diagA;go_wp2_with fail;go_region
  all_goals
   go_wp2_with fail;have hh1 := Xs (w := w2) (b := w.heap.size + 1) (i := w.heap.size) (by omega) (.int .i64 0) (.int .i64 li) (.int .i64 co) (.int .i64 x);have Vk := Gz (x := Y2) (y := Y2) (hh1.trans HA.o);have Ui := set4 ((Hp (x := Y2) (b := w.heap.size) (i := w.heap.size + 1) (by omega)).trans (set4 HD.o (.int .i64 0) (.int .i64 li) (.int .i64 co) (.int .i64 x))) (.int .i64 0) (.int .i64 li) (.int .i64 co) (.int .i64 x)
   refine ⟨.tuple #[Y2.val, M6 li co x], Rx rfl _ rfl ((Xs (b := w.heap.size + 1) (i := w.heap.size) (by omega) (.int .i64 0) (.int .i64 li) (.int .i64 co) (.int .i64 x)).trans Vk) underlying26 (by kernel_rfl) rfl Ui underlying29 (by kernel_rfl), ?_⟩;rw [HE.o];exact ⟨(V9 (Fj (V9 Yx.o (by omega) _ _ _ _) (xR) Y2) (by omega) _ _ _ _).drew, rfl⟩
 | inl ts =>
  rw [hl] at hm;obtain ⟨g, cap, rfl, Xk⟩ := hm;have OK := Za (E2 hl);have HE := Za (uS hl);have HTc := Za (Ol Xk)
  have He : g < w2.heap.size /\ w.heap.size + 2 <= g := by
   have := Xk.lt g rfl;rw [xS, xS] at this;omega
  obtain ⟨hgl1, hgl2⟩ := He;obtain ⟨Wd, Mp⟩ := xE ((((w2.setCell ⟨w.heap.size + 1, 0, none⟩ (.int .i64 0)).setCell ⟨w.heap.size + 1, 1, none⟩ (.int .i64 0)).setCell ⟨w.heap.size + 1, 2, none⟩ (.int .i64 0)).setCell ⟨w.heap.size + 1, 3, none⟩ (.int .i64 0))
  have hWs : Wd.heap.size = w2.heap.size := by rw [Mp, Mg]
  have HAd : xQ (Wd.heap[w.heap.size]? = some Y2.obj) := by rw [Mp]; exact (Xs (by omega) _ _ _ _).trans HA.o
  have HDd : xQ (Wd.heap[w.heap.size + 1]? = some (.cells #[.int .i64 0, .int .i64 0, .int .i64 0, .int .i64 0] 29)) := by rw [Mp]; exact set4 HD.o _ _ _ _
  have HTd : xQ (Gl Wd g ts) := Qk HTc.o (by rw [Mp]; exact Xs (by omega) _ _ _ _)
  have HBd : xQ (Below w.heap.size w Wd) := by rw [Mp]; exact V9 Yx.o (by omega) _ _ _ _
  clear hl Xk;unfold Lx.diagA;go_wp2_with fail;rw [<- Mp, <- hWs]
  have P0 : Ps (Wd.alloc (.cells #[.slice (some ⟨g, 0, none⟩) ts.length cap, .int .i64 0, .int .i64 0] 74)) Wd.heap.size g cap ts 0 0 :=
   ⟨xL _ _, by omega, Qk HTd.o (xA (by omega)), OK.o.pos⟩
  have HP0 := Za P0;clear P0;refine (jN Wd.heap.size g cap ts OK.o _ HP0.o).mono ?_;intro e w3 Zg;have K0 := Za Zg;have V1 := Zg.1;have L7 := Za ((V1.below.block w.heap.size (by omega)).trans ((xA (by omega)).trans HAd.o));have Qm := Za ((V1.below.block (w.heap.size + 1) (by omega)).trans ((xA (by omega)).trans HDd.o));have Vr : xQ (Below w.heap.size w w3) := (HBd.o.alloc (by omega) _).trans (V1.below.mono (by omega))
  have Wt := Za V1.size;clear Zg V1 a0 a1 z0 z1 d0 d1 d2 d3 g0 g1 g2 g3;rcases Yj K0.o with ⟨er, li, co, hr, rfl, Zb⟩ | ⟨D, b, v, hr, rfl, Zb, Zc, x, rfl, hv⟩
  ·have To : xQ (Nk S.data.toList = .inr (er, li, co)) := by rw [HE.o, hr]; exact rfl
   clear hr Zb;go_wp2_with fail;refine leaves_cons (f := 25) (args := #[.pointer (some ⟨w.heap.size, 0, none⟩), .pointer (some ⟨w.heap.size + 1, 0, none⟩)]) (by simp) (by simp [go_sem]) ?_;refine (wA w.heap.size (w.heap.size + 1) li co er [] w3 Y2 _ _ _ _ L7.o Qm.o (by omega)).mono ?_;rintro e u' w4 ⟨rfl, rfl, ⟨h1, h2⟩, h3⟩;show ∃ v, _;refine ⟨_, La rfl _ rfl h1 underlying26 (by kernel_rfl) rfl h2 underlying29 (by kernel_rfl), ?_⟩
   rw [To.o];exact ⟨Vr.o.trans (h3.o _ (xR) (by omega)), rfl⟩
  ·have HV := Za hv
   have Vy := Za Zc;have HK := Za hr;obtain ⟨⟨a0, a1⟩, ⟨z0, z1⟩, hla3⟩ := Qd (x := Y2) L7.o;obtain ⟨⟨d0, d1, d2, d3⟩, ⟨g0, g1, g2, g3⟩, hld3⟩ := Z6 Qm.o;rw [hWs] at Vy;obtain ⟨We, Pu⟩ := xE (putM w3 w.heap.size x)
   have HPe : xQ (Ps We w2.heap.size g cap ts b 0) := by rw [Pu]; exact fR Vy.o (by omega) (by omega) x
   have HAe : xQ (We.heap[w.heap.size]? = some x.obj) := by rw [Pu]; exact Gz (y := Y2) L7.o
   have HDe : xQ (We.heap[w.heap.size + 1]? = some (.cells #[.int .i64 0, .int .i64 0, .int .i64 0, .int .i64 0] 29)) := by rw [Pu]; exact (Hp (x := x) (by omega)).trans Qm.o
   have HBe : xQ (Below w.heap.size w We) := by rw [Pu]; exact Fj Vr.o (xR) x
   have HVe : xQ (Vu (Wd.heap.size + 1) We x D) := by rw [Pu]; have := HV.o; rw [xS] at this; exact this.putM (by omega) x
   have Ub : xQ (We.heap.size = w3.heap.size) := by rw [Pu]; exact qE (x := x)
   unfold putM at Pu;clear hr Zb Zc hv;go_wp2_with fail;rw [<- Pu];clear Pu a0 a1 z0 z1 d0 d1 d2 d3 g0 g1 g2 g3;refine (O2 w2.heap.size g cap b 0 ts _ HPe.o).mono ?_;intro e w4 Zg;have V1 := Zg.1;have hpe := HPe.o.ltp;have Lf := Za ((V1.below.block w.heap.size (by omega)).trans HAe.o);have My := Za ((V1.below.block (w.heap.size + 1) (by omega)).trans HDe.o);have Mk : xQ (Below w.heap.size w w4) := HBe.o.trans (V1.below.mono (by omega))
   have P4 : xQ (Vu (w2.heap.size + 1) w4 x D) := by
    have := HVe.o;rw [hWs] at this;exact this.stay V1 (by omega)
   have HPo4 := Za Zg;clear Zg V1;rcases Yj HPo4.o with ⟨er, li, co, hr, rfl, Zb⟩ | ⟨u, b', v, hr, rfl, Zb, Zc, hv⟩
   ·have To : xQ (Nk S.data.toList = .inr (er, li, co)) := by
     rw [HE.o, HK.o];show Bh (if (Zk ts b).kind == 0 then .inl (D, b) else Wa ts 7 b) = _;by_cases h0 : ((Zk ts b).kind == 0) = true
     ·rw [if_pos h0] at hr; cases hr
     ·rw [if_neg h0] at hr ⊢
      injection hr with hr;exact congrArg Sum.inr hr
    clear hr Zb;go_wp2_with fail;refine leaves_cons (f := 25) (args := #[.pointer (some ⟨w.heap.size, 0, none⟩), .pointer (some ⟨w.heap.size + 1, 0, none⟩)]) (by simp) (by simp [go_sem]) ?_;refine (wA w.heap.size (w.heap.size + 1) li co er [] w4 x _ _ _ _ Lf.o My.o (by omega)).mono ?_;rintro e u' w5 ⟨rfl, rfl, ⟨h1, h2⟩, h3⟩;show ∃ v, _;refine ⟨_, La rfl _ rfl h1 underlying26 (by kernel_rfl) rfl h2 underlying29 (by kernel_rfl), ?_⟩
    rw [To.o];exact ⟨Mk.o.trans (h3.o _ (xR) (by omega)), rfl⟩
   ·have To : xQ (Nk S.data.toList = .inl D) := by
     rw [HE.o, HK.o];show Bh (if (Zk ts b).kind == 0 then .inl (D, b) else Wa ts 7 b) = _;by_cases h0 : ((Zk ts b).kind == 0) = true
     ·rw [if_pos h0]; exact rfl
     ·rw [if_neg h0] at hr; cases hr
    obtain ⟨⟨a0, a1⟩, ⟨z0, z1⟩, hla4⟩ := Qd (x := x) Lf.o;obtain ⟨⟨d0, d1, d2, d3⟩, ⟨g0, g1, g2, g3⟩, hld4⟩ := Z6 My.o;clear hr Zb Zc hv;go_wp2_with fail;go_region
    all_goals
     go_wp2_with fail;have Vk := (Xs (b := w.heap.size + 1) (i := w.heap.size) (by omega) (.int .i64 0) (.int .i64 0) (.int .i64 0) (.int .i64 0)).trans (Gz (x := x) (y := x) Lf.o);have Ui := set4 ((Hp (x := x) (b := w.heap.size) (i := w.heap.size + 1) (by omega)).trans My.o) (.int .i64 0) (.int .i64 0) (.int .i64 0) (.int .i64 0);have hT := ((P4.o.putM (b := w.heap.size) (by omega) x).set4 (b := w.heap.size + 1) (by omega) (.int .i64 0) (.int .i64 0) (.int .i64 0) (.int .i64 0)).lower (lo' := w.heap.size) (by omega)
     have hBf := V9 (Fj Mk.o (xR) x) (show w.heap.size <= w.heap.size + 1 by omega) (.int .i64 0) (.int .i64 0) (.int .i64 0) (.int .i64 0);generalize Zs : (((((putM w4 w.heap.size x).setCell ⟨w.heap.size + 1, 0, none⟩ (.int .i64 0)).setCell ⟨w.heap.size + 1, 1, none⟩ (.int .i64 0)).setCell ⟨w.heap.size + 1, 2, none⟩ (.int .i64 0)).setCell ⟨w.heap.size + 1, 3, none⟩ (.int .i64 0)) = Wf at Vk Ui hT hBf
     refine leaves_cons (f := 25) (args := #[.pointer (some ⟨w.heap.size, 0, none⟩), .pointer (some ⟨w.heap.size + 1, 0, none⟩)]) (by simp) (by simp [go_sem]) ?_;refine (bM ⟨w.heap.size, 0, none⟩ ⟨w.heap.size + 1, 0, none⟩ _).mono ?_;rintro e u' w5 ⟨rfl, rfl, rfl⟩;show ∃ v, _;refine ⟨_, Rx rfl _ rfl Vk underlying26 (by kernel_rfl) rfl Ui underlying29 (by kernel_rfl), ?_⟩;rw [To.o];exact ⟨hBf.drew, _, rfl, x, rfl, hT.drew⟩
theorem zW (S : ByteArray) (hS : S.size <= 140737488351232) (w : World) (hw : Lx.Words w) :
  Calls prog 5 #[.string S] w (J6 w Y2.val Da (Nk S.data.toList)) := by
 have HW := Za (eE S hS _ (hw.below (Zx (Zq w Y2.obj) (Zq _ (.cells #[.int .i64 0, .int .i64 0, .int .i64 0, .int .i64 0] 29)))))
 obtain ⟨R, hR⟩ := xE (Nk S.data.toList)
 rw [<- hR] at HW ⊢
 clear hw hR
 go_enter func5, ntmps5
 go_wp2_with fail
 refine HW.o.mono ?_
 intro e w2 Zg
 obtain ⟨Z0, hm⟩ := Zg
 have Yx := Za (Zx (Zx (Zq _ _) (Zq _ _)) Z0)
 have HA := Za ((Z0.block w.heap.size (by rw [xS, xS]; omega)).trans ((xA (by rw [xS]; omega)).trans (xL w _)))
 have HD := Za ((Z0.block (w.heap.size + 1) (by rw [xS, xS]; omega)).trans (Ti w _ _))
 clear Z0
 obtain ⟨⟨a0, a1⟩, ⟨z0, z1⟩, Lw⟩ := Qd (x := Y2) HA.o
 obtain ⟨⟨d0, d1, d2, d3⟩, ⟨g0, g1, g2, g3⟩, Jc⟩ := Z6 HD.o
 rw [xS, xS] at hm
 rcases R with D | ⟨er, li, co⟩
 ·obtain ⟨v, rfl, x, rfl, hv⟩ := hm
  have HV := Za hv;clear hv;go_wp2_with fail;have Vk := (Xs (b := w.heap.size + 1) (i := w.heap.size) (by omega) (.int .i64 0) (.int .i64 0) (.int .i64 0) (.int .i64 0)).trans (Gz (x := x) (y := Y2) HA.o);have Ui := set4 ((Hp (x := x) (b := w.heap.size) (i := w.heap.size + 1) (by omega)).trans HD.o) (.int .i64 0) (.int .i64 0) (.int .i64 0) (.int .i64 0);refine bodyPost_ret (La rfl _ rfl Vk underlying26 (by kernel_rfl) rfl Ui underlying29 (by kernel_rfl)) rfl ⟨V9 (Fj Yx.o (xR) x) (by omega) _ _ _ _, _, rfl, x, rfl, ?_⟩
  exact ((HV.o.putM (b := w.heap.size) (by omega) x).set4 (b := w.heap.size + 1) (by omega) _ _ _ _).lower (by omega)
 ·subst hm
  go_wp2_with fail;have Vk := (Xs (b := w.heap.size + 1) (i := w.heap.size) (by omega) (.int .i64 0) (.int .i64 li) (.int .i64 co) (.int .i64 er)).trans (Gz (x := Y2) (y := Y2) HA.o);have Ui := set4 ((Hp (x := Y2) (b := w.heap.size) (i := w.heap.size + 1) (by omega)).trans HD.o) (.int .i64 0) (.int .i64 li) (.int .i64 co) (.int .i64 er);refine bodyPost_ret (La rfl _ rfl Vk underlying26 (by kernel_rfl) rfl Ui underlying29 (by kernel_rfl)) rfl ⟨V9 (Fj Yx.o (xR) Y2) (by omega) _ _ _ _, rfl⟩
def Eg : Nat -> Ty -> Ty -> Prop
 | 0, _, _ => False
 | n + 1, D, D' => (∃ s l c, D = Zn 4 s 0 l c [] [] [] /\ D' = Mt 4 s 0 [] /\ s.length <= 1000) ∨ ∃ o l c x y x' y', D = Zn 14 o 0 l c [] [] [x, y] /\ D' = Mt 14 o 0 [x', y'] /\ o.length <= 1000 /\ Eg n x x' /\ Eg n y y'
abbrev E8 (x : NV) : PX := ⟨x.li, x.co, x.ta, x.tc, x.na, x.nc⟩
theorem uF {s : List UInt8} {b : ByteArray} (h : s = b.data.toList) : b.size = s.length := by rw [h]; rfl
theorem zN {w : World} {lo : Nat} : ∀ (n m : Nat) (x : NV) (D D' : Ty), Eg m D D' -> Bx w lo n x D -> ∃ k : Nat, x.k = k /\ x.N = 0 /\ x.tl = 0 /\ x.nl = 0 /\ Bb w n k x.tx 0 (E8 x) x.ka x.kl x.kc D'
 | 0, _, _, _, _, _, h => h.elim
 | n + 1, 0, _, _, _, hb, _ => hb.elim
 | n + 1, m + 1, x, D, D', hb, h => by
  obtain ⟨tys, ns, ks, e, ⟨e1, e2, e3⟩, _, _, _, hr⟩ := h;rcases hb with ⟨s, l, c, rfl, rfl, hs⟩ | ⟨o, l, c, y, z, y', z', rfl, rfl, ho, hy, hz⟩
  ·obtain ⟨f1, f2, f3, f4, f5, rfl, rfl, rfl⟩ := Ix e
   refine ⟨4, f1.symm, f3.symm, e1, e2, [], e3, ?_, by decide, ?_, by decide, xZ _, by decide, .inl rfl⟩
   ·rw [f2]
   ·rw [uF f2]; omega
  ·obtain ⟨f1, f2, f3, f4, f5, rfl, rfl, rfl⟩ := Ix e
   refine ⟨14, f1.symm, f3.symm, e1, e2, [y', z'], e3, ?_, by decide, ?_, by decide, xZ _, (by show 2 <= 1000; decide), ?_⟩
   ·rw [f2]
   ·rw [uF f2]; omega
   ·rcases hr with hr | ⟨b, o, ea, hl, Yz, hc⟩
    ·cases hr
    ·refine .inr ⟨b, o, ea, Yz, fun i hi => ?_⟩
     have hi2 : i < 2 := hi;obtain ⟨u, ⟨q0, q1, q2, q3, q4, q5, q6, q7⟩, hu⟩ := hc i hi2
     have key : ∃ k : Nat, u.k = k /\ u.N = 0 /\ u.tl = 0 /\ u.nl = 0 /\ Bb w n k u.tx 0 (E8 u) u.ka u.kl u.kc [y', z'][i] := by
      match i, hi2, hu with
      | 0, _, hu => exact zN n m u y y' hy hu
      | 1, _, hu => exact zN n m u z z' hz hu
     obtain ⟨k, g1, g2, g3, g4, hn⟩ := key;rw [g1] at q0;rw [g2] at q2;rw [g3] at q5;rw [g4] at q6;exact ⟨k, u.tx, 0, E8 u, u.ka, u.kl, u.kc, ⟨q0, q1, q2, q3, q4, q5, q6, q7⟩, hn⟩
theorem jC {w : World} (hB : Sa w) {lo m : Nat} {x : NV} {D D' : Ty} (hb : Eg m D D') (hS : Dc m D') (h : Yi lo w x D) (hs : ∀ n, Qw n D' <= 1000) (hh : ∀ n, Ud n D' <= 25) (hl : (Ko m D').length <= 900) :
  Calls prog 10 #[x.val] w (Ow w (Ko m D')) := by
 obtain ⟨n, h⟩ := h
 have h' := Ga h (show n <= max n m by omega)
 obtain ⟨q, hq⟩ : ∃ q, max n m = q + 1 := by
  cases m with
  | zero => exact hb.elim
  | succ m => exact ⟨max n (m + 1) - 1, by omega⟩
 rw [hq] at h'
 obtain ⟨k, g1, g2, g3, g4, hn⟩ := zN (q + 1) m x D D' hb h'
 have e : x.val = Jm k x.tx 0 (E8 x) x.ka x.kl x.kc := by
  unfold NV.val Jm E8;rw [g1, g2, g3, g4];rfl
 rw [e]
 exact jU hB hS (by omega) hn (hs _) (hh _) hl
def xD : Ty := Zn 14 [45] 0 1 7 [] [] [Zn 14 [45] 0 1 3 [] [] [Zn 4 [97] 0 1 1 [] [] [], Zn 4 [98] 0 1 5 [] [] []], Zn 14 [42] 0 1 11 [] [] [Zn 4 [99] 0 1 9 [] [] [], Zn 4 [100] 0 1 13 [] [] []]]
def xN : Ty := Mt 14 [45] 0 [Mt 14 [45] 0 [Mt 4 [97] 0 [], Mt 4 [98] 0 []], Mt 14 [42] 0 [Mt 4 [99] 0 [], Mt 4 [100] 0 []]]
theorem x_eval : J8 [97, 32, 45, 32, 98, 32, 45, 32, 99, 32, 42, 32, 100] = .inl xD := by kernel_rfl
theorem t_eval : Hq [105, 110, 116, 32, 124, 32, 110, 117, 108, 108, 32, 45, 62, 32, 123, 97, 58, 32, 115, 116, 114, 125] = .inl (Yq 6 [] [] [Yq 7 [] [] [Yq 3 [] [] [], Yq 1 [] [] []], Yq 5 [] [[97]] [Yq 4 [] [] []]]) := by kernel_rfl
theorem m_eval : Nk [102, 110, 32, 102, 40, 120, 41, 32, 61, 32, 120, 59] = .inl ([], [Qu [102] false [] [120] [Yq 0 [] [] [], Yq 0 [] [] []] (Zn 4 [120] 0 1 11 [] [] []) 1 1]) := by kernel_rfl
theorem g_eval : Nk [102, 110, 32, 102, 40, 120, 41, 32, 61, 32, 59] = .inr (7, 1, 11) := by kernel_rfl
theorem x_bare : Eg 3 xD xN :=
 .inr ⟨_, _, _, _, _, _, _, rfl, rfl, by decide, .inr ⟨_, _, _, _, _, _, _, rfl, rfl, by decide, .inl ⟨_, _, _, rfl, rfl, by decide⟩, .inl ⟨_, _, _, rfl, rfl, by decide⟩⟩, .inr ⟨_, _, _, _, _, _, _, rfl, rfl, by decide, .inl ⟨_, _, _, rfl, rfl, by decide⟩, .inl ⟨_, _, _, rfl, rfl, by decide⟩⟩⟩
theorem yW : Dc 3 xN :=
 .inr ⟨_, _, _, rfl, by decide, by decide, .inr ⟨_, _, _, rfl, by decide, by decide, .inl ⟨_, rfl, by decide, by decide⟩, .inl ⟨_, rfl, by decide, by decide⟩⟩, .inr ⟨_, _, _, rfl, by decide, by decide, .inl ⟨_, rfl, by decide, by decide⟩, .inl ⟨_, rfl, by decide, by decide⟩⟩⟩
theorem I0 : ∀ (m : Nat) (D : Ty), Dc m D -> ∀ n, Qw n D + 1 <= 2 ^ m /\ Ud n D <= m
 | 0, _, h, _ => h.elim
 | m + 1, D, _, 0 => by
  have := Nat.one_le_two_pow (n := m + 1);exact ⟨by rw [Qw]; omega, by rw [Ud]; omega⟩
 | m + 1, D, h, n + 1 => by
  have := Nat.one_le_two_pow (n := m);rw [Qw, Ud];rcases h with ⟨s, rfl, _⟩ | ⟨o, x, y, rfl, _, _, hx, hy⟩
  ·rw [Mt, Il]
   refine ⟨?_, ?_⟩
   ·show 1 + 0 + 1 <= 2 ^ (m + 1)
    rw [Nat.pow_succ];omega
   ·show 1 + 0 <= m + 1
    omega
  ·have h1 := I0 m x hx n
   have h2 := I0 m y hy n;rw [Mt, Il];refine ⟨?_, ?_⟩
   ·show 1 + (Qw n x + (Qw n y + 0)) + 1 <= 2 ^ (m + 1)
    rw [Nat.pow_succ];omega
   ·show 1 + max (Ud n x) (max (Ud n y) 0) <= m + 1
    omega
structure Ou (w : World) : Prop where
 tr : Sa w
 lx : Lx.Words w
theorem jW {lo : Nat} {w : World} {x : NV} {k N : Int} {tx : List UInt8} {l c : Nat} {ts : List Ty} {ns : List (List UInt8)} {ks : List Ty} (h : Yi lo w x (Zn k tx N l c ts ns ks)) : x.k = k /\ x.tx.data.toList = tx /\ x.N = N /\ x.li = l /\ x.co = c /\ x.tl = ts.length /\ x.nl = ns.length /\ x.kl = ks.length := by
 obtain ⟨m, h⟩ := h
 cases m with
 | zero => exact h.elim
 | succ m =>
  obtain ⟨tys, ns', ks', e, ⟨e1, e2, e3⟩, _⟩ := h;obtain ⟨f1, f2, f3, f4, f5, rfl, rfl, rfl⟩ := Ix e;exact ⟨f1.symm, f2.symm, f3.symm, f4.symm, f5.symm, e1, e2, e3⟩
theorem rK {lo : Nat} {w : World} {k k' : Int} {nm : ByteArray} {na ka : Option Addr} {nl nc kl kc : Nat} {s : List UInt8} {ns : List (List UInt8)} {ks : List Ty} (h : Yb lo w (.agg #[.int .i64 k, .string nm, .slice na nl nc, .slice ka kl kc]) (Yq k' s ns ks)) : k = k' := by
 obtain ⟨m, h⟩ := h
 cases m with
 | zero => exact h.elim
 | succ m =>
  obtain ⟨k1, nm1, na1, nc1, ka1, kc1, ns1, ks1, e1, e2, _⟩ := h;injection e1 with e1;simp only [Array.mk.injEq, List.cons.injEq] at e1;obtain ⟨e1, _⟩ := e1;injection e1 with _ e1;rw [e1];exact (Iy e2).1.symm
theorem bY {lo : Nat} {w : World} {a : Option Addr} {D : Ty} (h : J3 N2 15 lo w a [D]) : ∃ g ta tc, a = some ⟨g, 0, none⟩ /\ w.cell? ⟨g, 4, none⟩ = some (.slice ta 2 tc) /\ g < w.heap.size := by
 rcases h with h | ⟨g, e, _, hc, hr⟩
 ·cases h
 ·obtain ⟨c, h1, h2, h3⟩ := hr 0 (by simp)
  obtain ⟨s, ex, vs, va, vc, pm, ta, tc, tys, x, B, li, co, m, rfl, _⟩ := h3;exact ⟨g, ta, tc, e, h2 4 (by decide), Nr hc⟩
theorem n9 (w : World) (hB : Ou w) : Calls prog 4 #[] w fun e w' => e = .returned (.bool true) /\ Below w.heap.size w w' := by
 have HB := Za hB
 have HE := Za (fun wx (h : Below w.heap.size w wx) => gX ⟨#[97, 32, 45, 32, 98, 32, 45, 32, 99, 32, 42, 32, 100]⟩ (by decide) wx (hB.lx.below h))
 have HT := Za (fun wx (h : Below w.heap.size w wx) => fB ⟨#[105, 110, 116, 32, 124, 32, 110, 117, 108, 108, 32, 45, 62, 32, 123, 97, 58, 32, 115, 116, 114, 125]⟩ (by decide) wx (hB.lx.below h))
 have HM := Za (fun wx (h : Below w.heap.size w wx) => zW ⟨#[102, 110, 32, 102, 40, 120, 41, 32, 61, 32, 120, 59]⟩ (by decide) wx (hB.lx.below h))
 have HG := Za (fun wx (h : Below w.heap.size w wx) => zW ⟨#[102, 110, 32, 102, 40, 120, 41, 32, 61, 32, 59]⟩ (by decide) wx (hB.lx.below h))
 clear hB
 go_enter func4, ntmps4
 go_wp2_with fail
 refine (HE.o _ (Below.refl _ _)).mono ?_
 intro e w1 Zg
 have Zg : J6 w Zi.val Z4 (J8 [97, 32, 45, 32, 98, 32, 45, 32, 99, 32, 42, 32, 100]) e w1 := Zg
 rw [x_eval] at Zg
 obtain ⟨Zt, v, rfl, x, rfl, hv⟩ := Zg
 have Yl := Za (Zx (Zx Zt (Zq w1 x.obj)) (Zq _ (.cells #[.int .i64 0, .int .i64 0, .int .i64 0, .int .i64 0] 29)))
 have HX1 : xQ (Yi w.heap.size ((w1.alloc x.obj).alloc (.cells #[.int .i64 0, .int .i64 0, .int .i64 0, .int .i64 0] 29)) x xD) := (hv.alloc _).alloc _
 have T0 : xQ (((w1.alloc x.obj).alloc (.cells #[.int .i64 0, .int .i64 0, .int .i64 0, .int .i64 0] 29)).heap[w1.heap.size]? = some x.obj) := (xA (by simp)).trans (xL _ _)
 have Nm : xQ (((w1.alloc x.obj).alloc (.cells #[.int .i64 0, .int .i64 0, .int .i64 0, .int .i64 0] 29)).heap[w1.heap.size + 1]? = some (.cells #[.int .i64 0, .int .i64 0, .int .i64 0, .int .i64 0] 29)) := Ti _ _ _
 have HTOP := Za (jW (show Yi w.heap.size w1 x (Zn _ _ _ _ _ _ _ _) from hv))
 clear Zt hv HE
 obtain ⟨nb, Wb⟩ := xE w1.heap.size
 rw [<- Wb] at T0 Nm
 go_wp2_with fail
 rw [<- Wb]
 generalize (w1.alloc x.obj).alloc (.cells #[.int .i64 0, .int .i64 0, .int .i64 0, .int .i64 0] 29) = W1 at Yl HX1 T0 Nm ⊢
 clear Wb
 refine (HT.o _ Yl.o).mono ?_
 intro e w2 Zg
 have Zg : J6 W1 zTy Yb (Hq [105, 110, 116, 32, 124, 32, 110, 117, 108, 108, 32, 45, 62, 32, 123, 97, 58, 32, 115, 116, 114, 125]) e w2 := Zg
 rw [t_eval] at Zg
 obtain ⟨Z0, v, rfl, hv⟩ := Zg
 obtain ⟨k1, nm1, na1, nl1, nc1, ka1, kl1, kc1, rfl⟩ := hv.cells
 obtain rfl := rK hv
 have Qr := Zx (Zx Z0 (Zq w2 (Z5 6 nm1 na1 nl1 nc1 ka1 kl1 kc1))) (Zq _ (.cells #[.int .i64 0, .int .i64 0, .int .i64 0, .int .i64 0] 29))
 have Yx := Za (Zx Yl.o Qr)
 have Zv := Za (HX1.o.below Qr)
 have Xz := Za ((Qr.block _ (xB T0.o)).trans T0.o)
 have HD2 := Za ((Qr.block _ (xB Nm.o)).trans Nm.o)
 have Jz : xQ (((w2.alloc (Z5 6 nm1 na1 nl1 nc1 ka1 kl1 kc1)).alloc (.cells #[.int .i64 0, .int .i64 0, .int .i64 0, .int .i64 0] 29)).heap[w2.heap.size]? = some (Z5 6 nm1 na1 nl1 nc1 ka1 kl1 kc1)) := (xA (by simp)).trans (xL _ _)
 have To : xQ (((w2.alloc (Z5 6 nm1 na1 nl1 nc1 ka1 kl1 kc1)).alloc (.cells #[.int .i64 0, .int .i64 0, .int .i64 0, .int .i64 0] 29)).heap[w2.heap.size + 1]? = some (.cells #[.int .i64 0, .int .i64 0, .int .i64 0, .int .i64 0] 29)) := Ti _ _ _
 clear Z0 hv Qr Yl HX1 T0 Nm HT
 obtain ⟨tb, Ww⟩ := xE w2.heap.size
 rw [<- Ww] at Jz To
 go_wp2_with fail
 rw [<- Ww]
 generalize (w2.alloc (Z5 6 nm1 na1 nl1 nc1 ka1 kl1 kc1)).alloc (.cells #[.int .i64 0, .int .i64 0, .int .i64 0, .int .i64 0] 29) = W2 at Yx Zv Xz HD2 Jz To ⊢
 clear Ww
 refine (HM.o _ Yx.o).mono ?_
 intro e w3 Zg
 have Zg : J6 W2 Y2.val Da (Nk [102, 110, 32, 102, 40, 120, 41, 32, 61, 32, 120, 59]) e w3 := Zg
 rw [m_eval] at Zg
 obtain ⟨Q1, v, rfl, y, rfl, hv⟩ := Zg
 obtain ⟨eil, edl, _, _, _, hdr⟩ := hv
 obtain ⟨g, ta, tc, eda, hgc, He⟩ := bY hdr
 have Qr := Zx (Zx Q1 (Zq w3 y.obj)) (Zq _ (.cells #[.int .i64 0, .int .i64 0, .int .i64 0, .int .i64 0] 29))
 have hbC := Zx (Zq w3 y.obj) (Zq _ (.cells #[.int .i64 0, .int .i64 0, .int .i64 0, .int .i64 0] 29))
 have Vr := Za (Zx Yx.o Qr)
 have Tq := Za (Zv.o.below Qr)
 have Pp := Za ((Qr.block _ (xB Xz.o)).trans Xz.o)
 have Qm := Za ((Qr.block _ (xB HD2.o)).trans HD2.o)
 have Kc := Za ((Qr.block _ (xB Jz.o)).trans Jz.o)
 have HE3 := Za ((Qr.block _ (xB To.o)).trans To.o)
 have Tt : xQ (((w3.alloc y.obj).alloc (.cells #[.int .i64 0, .int .i64 0, .int .i64 0, .int .i64 0] 29)).cell? ⟨g, 4, none⟩ = some (.slice ta 2 tc) /\ g < ((w3.alloc y.obj).alloc (.cells #[.int .i64 0, .int .i64 0, .int .i64 0, .int .i64 0] 29)).heap.size) := ⟨(hbC.cell (p := ⟨g, 4, none⟩) He).trans hgc, xT He hbC.size⟩
 obtain ⟨ia, il, ic, da, dl, dc⟩ := y
 simp only at eil edl eda
 obtain rfl : il = 0 := eil
 obtain rfl : dl = 1 := edl
 subst eda
 have HM3 : xQ (((w3.alloc (MV.obj ⟨ia, 0, ic, some ⟨g, 0, none⟩, 1, dc⟩)).alloc (.cells #[.int .i64 0, .int .i64 0, .int .i64 0, .int .i64 0] 29)).heap[w3.heap.size]? = some (MV.obj ⟨ia, 0, ic, some ⟨g, 0, none⟩, 1, dc⟩)) := (xA (by simp)).trans (xL _ _)
 have Tw : xQ (((w3.alloc (MV.obj ⟨ia, 0, ic, some ⟨g, 0, none⟩, 1, dc⟩)).alloc (.cells #[.int .i64 0, .int .i64 0, .int .i64 0, .int .i64 0] 29)).heap[w3.heap.size + 1]? = some (.cells #[.int .i64 0, .int .i64 0, .int .i64 0, .int .i64 0] 29)) := Ti _ _ _
 clear Q1 hdr Qr hbC hgc He Yx Zv Xz HD2 Jz To HM
 obtain ⟨mb, Nw⟩ := xE w3.heap.size
 rw [<- Nw] at HM3 Tw
 go_wp2_with fail
 rw [<- Nw]
 generalize (w3.alloc (MV.obj ⟨ia, 0, ic, some ⟨g, 0, none⟩, 1, dc⟩)).alloc (.cells #[.int .i64 0, .int .i64 0, .int .i64 0, .int .i64 0] 29) = W3 at Vr Tq Pp Qm Kc HE3 Tt HM3 Tw ⊢
 clear Nw
 refine (HG.o _ Vr.o).mono ?_
 intro e w4 Zg
 have Zg : J6 W3 Y2.val Da (Nk [102, 110, 32, 102, 40, 120, 41, 32, 61, 32, 59]) e w4 := Zg
 rw [g_eval] at Zg
 obtain ⟨Ha, rfl⟩ := Zg
 have Qr := Zx (Zx Ha (Zq w4 Y2.obj)) (Zq _ (.cells #[.int .i64 0, .int .i64 1, .int .i64 11, .int .i64 7] 29))
 have Mk := Za (Zx Vr.o Qr)
 have Q9 := Za (Tq.o.below Qr)
 have Lg := Za ((Qr.block _ (xB Pp.o)).trans Pp.o)
 have My := Za ((Qr.block _ (xB Qm.o)).trans Qm.o)
 have HT4 := Za ((Qr.block _ (xB Kc.o)).trans Kc.o)
 have HE4 := Za ((Qr.block _ (xB HE3.o)).trans HE3.o)
 have HM4 := Za ((Qr.block _ (xB HM3.o)).trans HM3.o)
 have Ml := Za ((Qr.block _ (xB Tw.o)).trans Tw.o)
 have N4 : xQ (((w4.alloc Y2.obj).alloc (.cells #[.int .i64 0, .int .i64 1, .int .i64 11, .int .i64 7] 29)).cell? ⟨g, 4, none⟩ = some (.slice ta 2 tc) /\ g < ((w4.alloc Y2.obj).alloc (.cells #[.int .i64 0, .int .i64 1, .int .i64 11, .int .i64 7] 29)).heap.size) := ⟨(Qr.cell (p := ⟨g, 4, none⟩) Tt.o.2).trans Tt.o.1, xT Tt.o.2 Qr.size⟩
 have HG4 : xQ (((w4.alloc Y2.obj).alloc (.cells #[.int .i64 0, .int .i64 1, .int .i64 11, .int .i64 7] 29)).heap[w4.heap.size + 1]? = some (.cells #[.int .i64 0, .int .i64 1, .int .i64 11, .int .i64 7] 29)) := Ti _ _ _
 clear Ha Qr Vr Tq Pp Qm Kc HE3 Tt HM3 Tw HG
 obtain ⟨gb, hgb⟩ := xE w4.heap.size
 rw [<- hgb] at HG4
 obtain ⟨⟨d0, d1, d2, d3⟩, _, Nt⟩ := Z6 My.o
 obtain ⟨⟨n0, n1, n2, n3, n4, n5, n6, n7⟩, _, Y0⟩ := Zm Lg.o
 go_wp2_with fail
 rw [<- hgb]
 clear hgb d0 d1 d2 d3 Nt n0 n1 n2 n3 n4 n5 n6 n7 Y0
 generalize (w4.alloc Y2.obj).alloc (.cells #[.int .i64 0, .int .i64 1, .int .i64 11, .int .i64 7] 29) = W4 at Mk Q9 Lg My HT4 HE4 HM4 Ml N4 HG4 ⊢
 refine (jC (HB.o.tr.below Mk.o) x_bare yW Q9.o (fun n => by have := I0 3 xN yW n; omega) (fun n => by have := I0 3 xN yW n; omega) (by decide)).mono ?_
 rintro e w5 ⟨⟨s, rfl, hs⟩, U5⟩
 have Mr : s = ⟨#[40, 40, 97, 32, 45, 32, 98, 41, 32, 45, 32, 40, 99, 32, 42, 32, 100, 41, 41]⟩ := by
  rw [show Ko 3 xN = [40, 40, 97, 32, 45, 32, 98, 41, 32, 45, 32, 40, 99, 32, 42, 32, 100, 41, 41] by kernel_rfl] at hs;exact pC hs
 subst Mr
 have L8 := Za (Zx Mk.o U5)
 have N7 := Za ((U5.block _ (xB Lg.o)).trans Lg.o)
 have HT5 := Za ((U5.block _ (xB HT4.o)).trans HT4.o)
 have HE5 := Za ((U5.block _ (xB HE4.o)).trans HE4.o)
 have HM5 := Za ((U5.block _ (xB HM4.o)).trans HM4.o)
 have HF5 := Za ((U5.block _ (xB Ml.o)).trans Ml.o)
 have HG5 := Za ((U5.block _ (xB HG4.o)).trans HG4.o)
 have hc5 := (U5.cell (p := ⟨g, 4, none⟩) N4.o.2).trans N4.o.1
 have hg5 := xT N4.o.2 U5.size
 clear hs U5 Mk Q9 Lg My HT4 HE4 HM4 Ml N4 HG4
 obtain ⟨⟨n0, n1, n2, n3, n4, n5, n6, n7⟩, _, Y0⟩ := Zm N7.o
 obtain ⟨ek, _, _, el, ec, _⟩ := HTOP.o
 rw [el] at n3
 rw [ec] at n4
 obtain ⟨⟨t0, t1, t2, t3⟩, _, Vd⟩ := Z6 HT5.o
 obtain ⟨⟨e0, e1, e2, e3⟩, _, hel⟩ := Z6 HE5.o
 obtain ⟨⟨m0, m1⟩, _, Ly⟩ := Qd HM5.o
 obtain ⟨⟨f0, f1, f2, f3⟩, _, hfl⟩ := Z6 HF5.o
 obtain ⟨⟨g0, g1, g2, g3⟩, _, He⟩ := Z6 HG5.o
 clear ek el ec
 go_wp2_with fail
 go_ret
 exact ⟨rfl, L8.o⟩
end Go.Proofs.YtfoejkhfdiodhaaGreatDoor
namespace Go.Proofs.YtfoejkhfdiodhaaGreatDoor
open Go.Proofs.Tryz
open Go.ChangeShapes Go.WideShapes Go.ChangeAt Go.RowKit
open Go.ChangeMaps (open_string shut_string)
theorem own : ownKnob prog.godebug = none := by kernel_rfl
theorem uB : laidOutB prog = true := by kernel_rfl
def Ag : List (String × DataW Unit) := Rows.parseTextsRow.laid
theorem lC (os : Os) (args : Array Value) : laidMetH prog Ag ((World.doorLaid prog 150 os).forCall (fun _ _ => 0) ⟨#[], args, []⟩).memory :=
 laidMetH_of_parts3 (fuel := 8) (laidMet_of_run' 8 (by kernel_rfl) (by kernel_rfl)) (by kernel_rfl) (by kernel_rfl)
def Jp (i : Nat) : String := (Ag.map (·.1)).getD i (toString 0)
theorem mO : prog.globalNamed (Jp 3) = some 4 := by kernel_rfl
theorem eM : (prog.globals[4]?).map (·.type) = some 181 := by kernel_rfl
theorem tB : prog.globalNamed (Jp 4) = some 2 := by kernel_rfl
theorem j9 : (prog.globals[2]?).map (·.type) = some 139 := by kernel_rfl
theorem tM : prog.globalNamed (Jp 9) = some 5 := by kernel_rfl
theorem gP : (prog.globals[5]?).map (·.type) = some 189 := by kernel_rfl
theorem eL : (Rows.laid_gradus_lex_ownWords : DataW Unit) = .agg (Tl.map fun t => .lit (.string t)) := by kernel_rfl
theorem gM : (Rows.laid_gradus_tree_ops : DataW Unit) = .agg (Kk.map fun t => .lit (.string t)) := by kernel_rfl
def Ew (q : Nat × Nat × Nat × Nat × Nat × Nat × Bool) : DataW Unit := .agg [.lit (.int .i64 q.1), .lit (.int .i64 q.2.1), .agg [.lit (.int .i64 q.2.2.1), .lit (.int .i64 q.2.2.2.1)], .agg [.lit (.int .i64 q.2.2.2.2.1), .lit (.int .i64 q.2.2.2.2.2.1)], .lit (.bool q.2.2.2.2.2.2)]
theorem j8 : (Rows.laid_gradus_tree_nodeForms : DataW Unit) = .agg ((List.range 20).map fun k => Ew (Qz k)) := by kernel_rfl
theorem wD {H : Type} {enc : TypeId × Value -> H} {w : World} {base : Nat} {sp : Nat -> Bool} {held : Bool} {fuel : Nat} {cs : List Value} {p : List MemPlace} {T K : Nat} {L : List (List UInt8)} (ht : prog.underlying T = some (.array K 9)) (hct : prog.cellsOf T = K) (hLK : L.length = K)
  (h : DataW.trod enc prog w base sp held fuel T cs = some (.agg (L.map fun t => .lit (.string t)), p)) : cs = L.map fun t => Value.string ⟨t.toArray⟩ := by
 have hce : prog.cellsOf 9 = 1 := by kernel_rfl
 cases fuel with
 | zero => simp [DataW.trod] at h
 | succ fuel =>
  simp only [DataW.trod, ht, hce, hct, Nat.mul_one] at h
  split at h
  ·rename_i hl
   obtain ⟨xs, hm, hx⟩ := Option.map_eq_some_iff.1 h
   have hxs : xs.map (·.1) = L.map fun t => (DataW.lit (.string t) : DataW H) := by
    have := congrArg Prod.fst hx
    simpa using this
   have hxl : xs.length = K := by simpa using Lib.mapM_length hm
   apply List.ext_getElem?
   intro i;by_cases hi : i < K
   ·obtain ⟨b, hb, hf⟩ := Lib.mapM_at hm i i (by simp [hi])
    obtain ⟨s, hc, rfl, _⟩ := DataW.trod_string underlying9 hf
    have h1 : cs[i]? = some (.string s) := by
     have := congrArg (·[0]?) hc
     simpa [List.getElem?_take, List.getElem?_drop] using this
    have h2 : (xs.map (·.1))[i]? = some (DataW.lit (.string s.data.toList) : DataW H) := by simp [hb]
    rw [hxs] at h2;simp only [List.getElem?_map, Option.map_eq_some_iff, DataW.lit.injEq, Lit.string.injEq] at h2;obtain ⟨t, ht', rfl⟩ := h2;rw [h1, List.getElem?_map, ht'];rfl
   ·rw [List.getElem?_eq_none (by omega), List.getElem?_eq_none (by simp only [List.length_map]; omega)]
  ·cases h
section
variable {enc : TypeId × Value -> Unit} {w : World} {base : Nat} {sp : Nat -> Bool} {held : Bool} {fuel : Nat} {cs : List Value} {p : List MemPlace}
theorem Ih {n : Int} (h : DataW.trod enc prog w base sp held fuel 3 cs = some (.lit (.int .i64 n), p)) : cs = [.int .i64 n] := by
 obtain ⟨m, rfl, e, _⟩ := DataW.trod_int underlying3 h
 simp at e
 rw [e.1]
theorem bF {b : Bool} (h : DataW.trod enc prog w base sp held fuel 4 cs = some (.lit (.bool b), p)) : cs = [.bool b] := by
 obtain ⟨m, rfl, e⟩ := DataW.trod_bool underlying4 h
 simp at e
 rw [e.1]
theorem D7 {α : Type} {xs : List (DataW Unit × α)} {ds : List (DataW Unit)} {i : Nat} {d : DataW Unit} (h : xs.map (·.1) = ds) (hd : ds[i]? = some d) : ∃ q, xs[i]? = some (d, q) := by
 rw [<- h, List.getElem?_map] at hd
 obtain ⟨⟨x, q⟩, e, rfl⟩ := Option.map_eq_some_iff.1 hd
 exact ⟨q, e⟩
theorem two_of {cs : List Value} {a b : Value} (hl : cs.length = 2) (h0 : (cs.drop 0).take 1 = [a]) (h1 : (cs.drop 1).take 1 = [b]) : cs = [a, b] := by
 match cs, hl with
 | [x0, x1], _ =>
  simp at h0 h1;rw [h0, h1]
theorem sS {cs : List Value} {a b c d e f g : Value} (hl : cs.length = 7) (h0 : (cs.drop 0).take 1 = [a]) (h1 : (cs.drop 1).take 1 = [b]) (h2 : (cs.drop 2).take 2 = [c, d]) (h3 : (cs.drop 4).take 2 = [e, f]) (h4 : (cs.drop 6).take 1 = [g]) : cs = [a, b, c, d, e, f, g] := by
 match cs, hl with
 | [x0, x1, x2, x3, x4, x5, x6], _ =>
  simp at h0 h1 h2 h3 h4;rw [h0, h1, h2.1, h2.2, h3.1, h3.2, h4]
theorem qS {l m : Int} (h : DataW.trod enc prog w base sp held fuel 136 cs = some (.agg [.lit (.int .i64 l), .lit (.int .i64 m)], p)) : cs = [.int .i64 l, .int .i64 m] := by
 obtain ⟨xs, n, _, e, hl, _, hf⟩ := DataW.trod_struct underlying136 h
 have V0 : cs.length = 2 := hl.trans (by kernel_rfl)
 simp only [Prod.mk.injEq, DataW.agg.injEq] at e
 obtain ⟨q0, e0⟩ := D7 e.1.symm (i := 0) rfl
 obtain ⟨q1, e1⟩ := D7 e.1.symm (i := 1) rfl
 have f0 : (cs.drop 0).take (prog.cellsOf 3) = [.int .i64 l] := Ih ((hf 0 _ rfl).trans e0)
 have f1 : (cs.drop 1).take (prog.cellsOf 3) = [.int .i64 m] := Ih ((hf 1 _ rfl).trans e1)
 have hc : prog.cellsOf 3 = 1 := by kernel_rfl
 rw [hc] at f0 f1
 exact two_of V0 f0 f1
theorem jZ {q : Nat × Nat × Nat × Nat × Nat × Nat × Bool} (h : DataW.trod enc prog w base sp held fuel 138 cs = some (Ew q, p)) : cs = [.int .i64 q.1, .int .i64 q.2.1, .int .i64 q.2.2.1, .int .i64 q.2.2.2.1, .int .i64 q.2.2.2.2.1, .int .i64 q.2.2.2.2.2.1, .bool q.2.2.2.2.2.2] := by
 unfold Ew at h
 obtain ⟨xs, n, _, e, hl, _, hf⟩ := DataW.trod_struct underlying138 h
 have V0 : cs.length = 7 := hl.trans (by kernel_rfl)
 simp only [Prod.mk.injEq, DataW.agg.injEq] at e
 obtain ⟨q0, e0⟩ := D7 e.1.symm (i := 0) rfl
 obtain ⟨q1, e1⟩ := D7 e.1.symm (i := 1) rfl
 obtain ⟨q2, e2⟩ := D7 e.1.symm (i := 2) rfl
 obtain ⟨q3, e3⟩ := D7 e.1.symm (i := 3) rfl
 obtain ⟨q4, e4⟩ := D7 e.1.symm (i := 4) rfl
 have f0 : (cs.drop 0).take (prog.cellsOf 3) = [.int .i64 q.1] := Ih ((hf 0 _ rfl).trans e0)
 have f1 : (cs.drop 1).take (prog.cellsOf 3) = [.int .i64 q.2.1] := Ih ((hf 1 _ rfl).trans e1)
 have f2 : (cs.drop 2).take (prog.cellsOf 136) = [.int .i64 q.2.2.1, .int .i64 q.2.2.2.1] := qS ((hf 2 _ rfl).trans e2)
 have f3 : (cs.drop 4).take (prog.cellsOf 136) = [.int .i64 q.2.2.2.2.1, .int .i64 q.2.2.2.2.2.1] := qS ((hf 3 _ rfl).trans e3)
 have f4 : (cs.drop 6).take (prog.cellsOf 4) = [.bool q.2.2.2.2.2.2] := bF ((hf 4 _ rfl).trans e4)
 have hc : prog.cellsOf 3 = 1 := by kernel_rfl
 have Ns : prog.cellsOf 136 = 2 := by kernel_rfl
 have hc3 : prog.cellsOf 4 = 1 := by kernel_rfl
 rw [hc] at f0 f1
 rw [Ns] at f2 f3
 rw [hc3] at f4
 exact sS V0 f0 f1 f2 f3 f4
end
theorem lE {cs L : List Value} {i m r : Nat} (h : (cs.drop (i * m)).take m = L) (hr : r < m) : cs[i * m + r]? = L[r]? := by
 rw [<- h, List.getElem?_take, if_pos hr, List.getElem?_drop]
theorem kL : Ag = [(Jp 0, Rows.laid_math_bits_deBruijn32tab), (Jp 1, Rows.laid_math_bits_deBruijn64tab), (Jp 2, Rows.laid_internal_strconv_uint64pow10), (Jp 3, .agg (Tl.map fun t => .lit (.string t))), (Jp 4, .agg ((List.range 20).map fun k => Ew (Qz k))), (Jp 5, Rows.laid_gradus_tree_typeForms), (Jp 6, Rows.laid_gradus_tree_plainNames), (Jp 7, Rows.laid_gradus_tree_tagNames), (Jp 8, Rows.laid_gradus_tree_boolNames), (Jp 9, .agg (Kk.map fun t => .lit (.string t)))] := by
 rw [<- eL, <- gM, <- j8]
 kernel_rfl
theorem aQ {W : World} (h : laidMetH prog Ag W) : Ou W := by
 rw [MakeChecks.laidMetH_plain _ _ _ (by kernel_rfl)] at h
 rw [kL] at h
 obtain ⟨ps, ⟨g0, t0, cs0, f0, p0, q0, hg0, ht0, hv0, Bl, ⟨g1, t1, cs1, f1, p1, q1, Vj, Vt, hv1, Tr, ⟨g2, t2, cs2, f2, p2, q2, Wu, Hl, hv2, hd2, ⟨g3, t3, cs3, f3, p3, q3, hg3, ht3, hv3, hd3, ⟨g4, t4, cs4, f4, p4, q4, hg4, ht4, hv4, hd4, ⟨g5, t5, cs5, f5, p5, q5, hg5, ht5, hv5, hd5, ⟨g6, t6, cs6, f6, p6, q6, hg6, ht6, hv6, hd6, ⟨g7, t7, cs7, f7, p7, q7, hg7, ht7, hv7, Kg, ⟨g8, t8, cs8, f8, p8, q8, hg8, ht8, hv8, hd8, ⟨g9, t9, cs9, f9, p9, q9, hg9, ht9, hv9, hd9, _, _⟩, _⟩, _⟩, _⟩, _⟩, _⟩, _⟩, _⟩, _⟩, _⟩, _⟩ := h
 obtain rfl := Option.some.inj (mO.symm.trans hg3)
 obtain rfl := Option.some.inj (eM.symm.trans ht3)
 obtain rfl := Option.some.inj (tB.symm.trans hg4)
 obtain rfl := Option.some.inj (j9.symm.trans ht4)
 obtain rfl := Option.some.inj (tM.symm.trans hg9)
 obtain rfl := Option.some.inj (gP.symm.trans ht9)
 have c3 : cs3 = (Tl.map fun t => Value.string ⟨t.toArray⟩).toArray := by rw [<- wD underlying181 (by kernel_rfl) (by kernel_rfl) hd3]
 have c9 : cs9 = (Kk.map fun t => Value.string ⟨t.toArray⟩).toArray := by rw [<- wD underlying189 (by kernel_rfl) (by kernel_rfl) hd9]
 subst c3 c9
 have hW : ∀ i, i < 25 -> W.cell? ⟨4, i, none⟩ = some (.string (Mi i)) := fun i hi => by
  rw [World.var?_cell mO hv3 i];simp only [List.getElem?_toArray, List.getElem?_map];rw [List.getElem?_eq_getElem (show i < Tl.length from hi)];unfold Mi;rw [List.getD_eq_getElem?_getD, List.getElem?_eq_getElem (show i < Tl.length from hi)];rfl
 refine ⟨⟨fun k hk => ?_, hW, fun i hi => ?_⟩, hW⟩
 ·obtain ⟨xs, n, _, e, hl, _, hf⟩ := DataW.trod_array underlying139 hd4
  simp only [Prod.mk.injEq, DataW.agg.injEq] at e;obtain ⟨q, eq⟩ := D7 e.1.symm (i := k) (d := Ew (Qz k)) (by simp [hk]);have hc := jZ ((hf k hk).trans eq)
  have h7 : prog.cellsOf 138 = 7 := by kernel_rfl
  rw [h7] at hc
  have hx : ∀ r, r < 7 -> W.cell? ⟨2, k * 7 + r, none⟩ = [Value.int .i64 (Qz k).1, .int .i64 (Qz k).2.1, .int .i64 (Qz k).2.2.1, .int .i64 (Qz k).2.2.2.1, .int .i64 (Qz k).2.2.2.2.1, .int .i64 (Qz k).2.2.2.2.2.1, .bool (Qz k).2.2.2.2.2.2][r]? := fun r hr => by
   rw [World.var?_cell tB hv4 (k * 7 + r), <- Array.getElem?_toList];exact lE hc hr
  exact ⟨hx 0 (by omega), hx 1 (by omega), hx 2 (by omega), hx 3 (by omega), hx 4 (by omega), hx 5 (by omega), hx 6 (by omega)⟩
 ·rw [World.var?_cell tM hv9 i]
  simp only [List.getElem?_toArray, List.getElem?_map];rw [List.getElem?_eq_getElem (show i < Kk.length from hi)];unfold Fy;rw [List.getD_eq_getElem?_getD, List.getElem?_eq_getElem (show i < Kk.length from hi)];rfl
theorem aO {s : ByteArray} (h : s.data.toList.length <= reachBytes) : s.size <= 140737488351232 := by
 rw [Xw] at h
 exact h
end Go.Proofs.YtfoejkhfdiodhaaGreatDoor
