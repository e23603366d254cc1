/- Part. -/
import Derived.Deep.RegionLaw
import Derived.Test.YtbnjllkkhhkkaaaGreatDoorPart16
set_option maxRecDepth 100000
set_option maxHeartbeats 4000000
namespace Go.Proofs.YtbnjllkkhhkkaaaGreatDoor
open Tryz
open Go.RowKit
attribute [local go_sem ↓] Go.wp_at_zero Go.wp_at_succ
theorem zaz (pb tb cap : Nat) (ts : List Tok) (ok : Z0 ts) (w : World) (h : Ps w pb tb cap ts 0 0) :
  Calls prog 44 #[.pointer (some ⟨pb, 0, none⟩)] w (Zs pb tb cap ts 0 w Lw (Mb ts)) := by
 have OK := Za ok
 have hp := h.ltp
 have X0 : xQ (Xo pb tb cap ts w ((w.alloc zMod).alloc zMod) 0 (.slice none 0 0) (.slice none 0 0)) :=
  ⟨((Zj.refl pb w).alloc hp _).alloc hp _, (h.alloc _).alloc _, hp, (xA (by simp)).trans (xL w _), Wn w _ _⟩
 obtain ⟨R, hR⟩ : ∃ R : Pr (List Ty × List Ty), R = Mb ts := ⟨_, rfl⟩
 rw [← hR]
 have HA0 : xQ (Pa ts R [] ts.length 0) := by rw [hR]; exact zfh ts
 clear h ok hR
 go_enter func44, ntmps44
 go_wp2_with fail
 obtain ⟨i0, hi, hz0, hz1, hz2⟩ := info_parts Oi
 obtain ⟨i1, hi', hz0', hz1', hz2'⟩ := info_parts zdt
 go_loopg [4] (ts.length) (fun gk _ wr => ∃ (b m : Nat) (v : Value) (cs : List (List Value)) (acc : List Ty), xQ (Xo pb tb cap ts w wr b v (.slice none 0 0)) ∧ xQ (Z8 U8 (w.heap.size + 2) 68 4 none wr v cs acc) ∧ xQ (Pa ts R acc m b) ∧ xQ (ts.length ≤ b + m) ∧ xQ (acc.length ≤ b) ∧ ts.length - b ≤ gk)
 case atStart => exact ⟨0, ts.length, _, [], [], X0, T0 _ _ _ _ _, HA0, (by show _ ≤ _; omega), xR, by omega⟩
 case round =>
  clear X0 HA0
  obtain ⟨b, m, v, cs, acc, X, RW, HA, HLe, HAc, hgk⟩ := hrel
  have hbt := X.o.ps.lt
  obtain ⟨m, rfl⟩ : ∃ q, m = q + 1 := ⟨m - 1, by have := HLe.o; omega⟩
  go_wp2_with fail
  refine (Y3 pb tb cap b _ 1 ts [[105, 109, 112, 111, 114, 116]] _ _ X.o.ps.rd (by simp) (by simp)).mono ?_
  rintro e w2 ⟨rfl, hb2⟩
  have X2 := Za (X.o.below hb2)
  have RW2 := Za (RW.o.stay (Zj.of X.o.ps.ltp hb2) (show pb < w.heap.size + 2 by omega))
  clear hb2
  simp only [List.any_cons, List.any_nil, Bool.or_false]
  cases hs : Zc ts b [105, 109, 112, 111, 114, 116] with
  | false =>
   have HD := Za (Iu HA.o hs)
   clear hs
   clear X RW HA HLe hbt
   obtain ⟨wo, hwo⟩ := xE w2
   rw [← hwo] at X2 RW2 ⊢
   clear hwo
   obtain ⟨is, his⟩ := xE acc
   have hil : is.length ≤ 8193 := by have := HAc.o; have := OK.o.len; have := X2.o.ps.lt; rw [his]; omega
   rw [← his] at RW2 HD
   clear his
   obtain ⟨ia, ic, rfl⟩ := Vb RW2.o.ow
   have hb2 := X2.o.ps.lt
   go_wp2_with fail
   go_loopg [16] (ts.length) (fun gk _ wr => ∃ (b m : Nat) (v : Value) (cd : List (List Value)) (acc : List Ty), xQ (Xo pb tb cap ts w wr b (.slice ia is.length ic) v) ∧ xQ (Z8 U8 (w.heap.size + 2) 68 4 v.ownBlock wr (.slice ia is.length ic) cs is) ∧ xQ (Z8 Qp (w.heap.size + 2) 52 15 none wr v cd acc) ∧ xQ (Q8 ts R is acc m b) ∧ xQ (ts.length + 1 ≤ b + m) ∧ xQ (acc.length ≤ b) ∧ ts.length - b ≤ gk)
   case atStart => exact ⟨b, ts.length + 1, .slice none 0 0, [], [], X2, RW2, T0 _ _ _ _ _, HD, (by show _ ≤ _; omega), xZ _, by omega⟩
   case round =>
    clear X2 RW2 HD HAc hb2
    obtain ⟨b, m, v, cd, acc, X, RI, RW, HA, HLe, HAc, hgk⟩ := hrel
    have hbt := X.o.ps.lt
    obtain ⟨m, rfl⟩ : ∃ q, m = q + 1 := ⟨m - 1, by have := HLe.o; omega⟩
    go_wp2_with fail
    refine (Y3 pb tb cap b _ 2 ts [[101, 120, 112, 111, 114, 116], [102, 110]] _ _ X.o.ps.rd (by simp) (by simp)).mono ?_
    rintro e w3 ⟨rfl, hb3⟩
    have X2 := Za (X.o.below hb3)
    have RI2 := Za (RI.o.stay (Zj.of X.o.ps.ltp hb3) (show pb < w.heap.size + 2 by omega))
    have RW2 := Za (RW.o.stay (Zj.of X.o.ps.ltp hb3) (show pb < w.heap.size + 2 by omega))
    clear hb3
    simp only [List.any_cons, List.any_nil, Bool.or_false]
    have hac : acc.length ≤ 8193 := by have := HAc.o; have := OK.o.len; omega
    cases hs : (Zc ts b [101, 120, 112, 111, 114, 116] || Zc ts b [102, 110]) with
    | false =>
     have HD := Za (zhl HA.o hs)
     clear hs X RI RW HA HLe
     obtain ⟨da, dc, rfl⟩ := Vb RW2.o.ow
     obtain ⟨⟨c0, c1⟩, ⟨z0, z1⟩, hcl⟩ := Pz X2.o.box
     obtain ⟨⟨r0, r1⟩, ⟨f0, f1⟩, hrl⟩ := Pz X2.o.res
     go_wp2_with fail
     rw [HD.o]
     have hI := (Na (Na RI2.o (q := w.heap.size) (by omega) 0 (.slice ia is.length ic)) (q := w.heap.size) (by omega) 1 (.slice da acc.length dc)).form Lr
     have hD := (Na (Na RW2.o (q := w.heap.size) (by omega) 0 (.slice ia is.length ic)) (q := w.heap.size) (by omega) 1 (.slice da acc.length dc)).form Ke
     obtain ⟨ia', ic', e1, _, hI⟩ := hI
     obtain ⟨da', dc', e2, _, hD⟩ := hD
     injection e1 with e1 _ _
     injection e2 with e2 _ _
     subst e1 e2
     refine bodyPost_ret (results_cell_row rfl _ _ w.heap.size 42 _ (0, 0) _ rfl (Gk X2.o.res (.slice ia is.length ic) (.slice da acc.length dc)) underlying42 rfl (by kernel_rfl)) rfl ⟨(X2.o.st.own hp (xR) 0 _).own hp (xR) 1 _, (X2.o.ps.other hp 0 _).other hp 1 _, _, rfl, ia, ic, da, dc, rfl, hil, hac, ?_, ?_⟩
     ·exact K6 Lr hI (by omega)
     ·exact K6 Ke hD (by omega)
    | true =>
     have HSe := Za hs
     clear hs X RI RW
     go_wp2_with fail
     have X3 := Za X2.o.drew
     have RI3 : xQ (Z8 U8 (w.heap.size + 2) 68 4 v.ownBlock w3.drew (.slice ia is.length ic) cs is) := RI2.o.stay (Zj.refl pb w3).drew (show pb < w.heap.size + 2 by omega)
     have RW3 : xQ (Z8 Qp (w.heap.size + 2) 52 15 none w3.drew v cd acc) := RW2.o.stay (Zj.refl pb w3).drew (show pb < w.heap.size + 2 by omega)
     obtain ⟨⟨c0, c1⟩, ⟨z0, z1⟩, hcl⟩ := Pz X3.o.box
     have HC : xQ (Calls prog 85 #[.pointer (some ⟨pb, 0, none⟩)] w3.drew fun e w9 => (∃ chain, e = .panicked chain ∧ Zs pb tb cap ts 0 w Lw R e w9) ∨ ∃ (s : List UInt8) (ex : Bool) (vs : List (List UInt8 × Ty)) (va : Option Addr) (vc : Nat) (pm : List UInt8) (ta : Option Addr) (tc : Nat) (x : NV) (li co : Nat) (D : Ty) (b1 : Nat), e = .returned (.agg #[.string ⟨s.toArray⟩, .bool ex, .slice va vs.length vc, .string ⟨pm.toArray⟩, .slice ta 2 tc, .int .i64 x.k, .string x.tx, .int .i64 x.N, .int .i64 x.li, .int .i64 x.co, .slice x.ta x.tl x.tc, .slice x.na x.nl x.nc, .slice x.ka x.kl x.kc, .int .i64 li, .int .i64 co]) ∧ (w9.cell? ⟨w.heap.size + 1, 0, none⟩ = some (.slice ia is.length ic) ∧ w9.cell? ⟨w.heap.size + 1, 1, none⟩ = some v) ∧ w.heap.size + 1 < w9.heap.size ∧
       xQ (Q8 ts R is (acc ++ [D]) m b1 ∧ b + 1 ≤ b1 ∧ Xo pb tb cap ts w w9 b1 (.slice ia is.length ic) v ∧ Z8 Qp (w.heap.size + 2) 52 15 none w9 v cd acc ∧ Xg Qp (w.heap.size + 2) (fun q => v.ownBlock = some q ∨ (none : Option Nat) = some q) w9 [.string ⟨s.toArray⟩, .bool ex, .slice va vs.length vc, .string ⟨pm.toArray⟩, .slice ta 2 tc, .int .i64 x.k, .string x.tx, .int .i64 x.N, .int .i64 x.li, .int .i64 x.co, .slice x.ta x.tl x.tc, .slice x.na x.nl x.nc, .slice x.ka x.kl x.kc, .int .i64 li, .int .i64 co] D ∧ Z8 U8 (w.heap.size + 2) 68 4 v.ownBlock w9 (.slice ia is.length ic) cs is)) := by
      refine (decl_c pb tb cap ts OK.o b _ X3.o.ps).mono ?_
      intro e w9 zhm
      rcases Zy zhm with ⟨er, li, co, hr, rfl, hst⟩ | ⟨D, b1, v1, hr, rfl, hst, hps, hv⟩
      ·exact .inl ⟨_, rfl, X3.o.st.trans hst, by rw [Ep HA.o HSe.o hr]⟩
      obtain ⟨c, rfl, hc⟩ := hv
      have hc' := hc
      obtain ⟨s, ex, vs, va, vc, pm, ta, tc, tys, x, B, li, co, md, rfl, _⟩ := hc
      have XN := X3.o.step hst hps
      have hb := Pz XN.box
      exact .inr ⟨s, ex, vs, va, vc, pm, ta, tc, x, li, co, D, b1, rfl, hb.1, hb.2.2, Eg HA.o HSe.o hr, En _ _ hr, XN, RW3.o.stay hst (by omega), Xg.new (rep := Qp) hc' X3.o.lt (fun q hq => RW3.o.all q hq), RI3.o.stay hst (by omega)⟩
     go_region_law (first
      | (go_simp; go_at_call 85; refine HC.o.mono ?_; rintro e w9 (⟨ch, rfl, hf⟩ | ⟨s, ex, vs, va, vc, pm, ta, tc, x, li, co, D, b1, rfl, ⟨t0, t1⟩, hl9, HX⟩); exact ⟨rfl, hf⟩)
      | (refine Fo rfl (.tmp 22) (.tmp 25) 40 rfl (w.heap.size + 2) 52 i1 _ 15 224 underlying40 hi' hz0' hz1' hz2' rfl (by decide) v _ _ (by first | rfl | simp [Act.eval, Act.put]) (HX.o.2.2.2.1.ow.alloc _) ⟨w9.heap.size, 0, none⟩ 1 1 [.string ⟨s.toArray⟩, .bool ex, .slice va vs.length vc, .string ⟨pm.toArray⟩, .slice ta 2 tc, .int .i64 x.k, .string x.tx, .int .i64 x.N, .int .i64 x.li, .int .i64 x.co, .slice x.ta x.tl x.tc, .slice x.na x.nl x.nc, .slice x.ka x.kl x.kc, .int .i64 li, .int .i64 co] (by first | rfl | simp [Act.eval, Act.put]) rfl (Uq _ _ _) (by simp [Value.oneCell']) (by unfold maxLen; omega) (by omega) (by rw [xS]; omega) ?_; intro v' w4 zho zhn hloc; obtain ⟨av, cv, rfl⟩ := Vb zho;
                have HN : xQ (Xo pb tb cap ts w w4 b1 (.slice ia is.length ic) v ∧ Z8 Qp (w.heap.size + 2) 52 15 none w4 (.slice av (acc.length + 1) cv) (cd ++ [[.string ⟨s.toArray⟩, .bool ex, .slice va vs.length vc, .string ⟨pm.toArray⟩, .slice ta 2 tc, .int .i64 x.k, .string x.tx, .int .i64 x.N, .int .i64 x.li, .int .i64 x.co, .slice x.ta x.tl x.tc, .slice x.na x.nl x.nc, .slice x.ka x.kl x.kc, .int .i64 li, .int .i64 co]]) (acc ++ [D]) ∧ Z8 U8 (w.heap.size + 2) 68 4 (Value.slice av (acc.length + 1) cv).ownBlock w4 (.slice ia is.length ic) cs is) := ⟨(HX.o.2.2.1.alloc _).grown zhn fun q hq => (HX.o.2.2.2.1.own q hq).1, HX.o.2.2.2.1.put zho zhn (hloc.imp_right fun e => ⟨_, e, by simp⟩) ((Zj.refl pb w9).alloc HX.o.2.2.1.ps.ltp _) (show pb < w.heap.size + 2 by omega) rfl (HX.o.2.2.2.2.1.stay ((Zj.refl pb w9).alloc HX.o.2.2.1.ps.ltp _) (show pb < w.heap.size + 2 by omega)), (HX.o.2.2.2.2.2.stay ((Zj.refl pb w9).alloc HX.o.2.2.1.ps.ltp _) (show pb < w.heap.size + 2 by omega)).beside zhn (hloc.imp_right fun e => ⟨_, e, xR, (zho.lt _ e).2⟩) (by rw [xS]; omega)⟩;
                obtain ⟨⟨k0, k1⟩, ⟨f0, f1⟩, hk4⟩ := Pz HN.o.1.box; clear zho zhn hloc))
     all_goals
      go_wp2_with fail
      go_roundg (ts.length - b1)
      case measure => have := HX.o.2.1; omega
      case rel => exact ⟨b1, m, _, _, _, HN.o.1.set1 _, Na HN.o.2.2 (by omega) 1 _, Na HN.o.2.1 (by omega) 1 _, HX.o.1, (by have := HLe.o; have := HX.o.2.1; show _ ≤ _; omega), (by have := HAc.o; have := HX.o.2.1; show (acc ++ [D]).length ≤ _; simp; omega), xR⟩
  | true =>
   have hbl : b + 1 < ts.length := Wz OK.o.ends hbt hs
   have HSe := Za hs
   have hac : acc.length ≤ 8193 := by have := HAc.o; have := OK.o.len; omega
   clear hs X RW
   go_wp2_with fail
   have X3 := Za X2.o.drew
   have RW3 : xQ (Z8 U8 (w.heap.size + 2) 68 4 none w2.drew v cs acc) := RW2.o.stay (Zj.refl pb w2).drew (show pb < w.heap.size + 2 by omega)
   obtain ⟨⟨c0, c1⟩, ⟨z0, z1⟩, hcl⟩ := Pz X3.o.box
   have HC : xQ (Calls prog 84 #[.pointer (some ⟨pb, 0, none⟩)] w2.drew fun e w9 => (∃ chain, e = .panicked chain ∧ Zs pb tb cap ts 0 w Lw R e w9) ∨ ∃ (s : List UInt8) (l : List (List UInt8)) (na : Option Addr) (nc li co : Nat) (D : Ty) (b1 : Nat), e = .returned (.agg #[.string ⟨s.toArray⟩, .slice na l.length nc, .int .i64 li, .int .i64 co]) ∧ (w9.cell? ⟨w.heap.size + 1, 0, none⟩ = some v ∧ w9.cell? ⟨w.heap.size + 1, 1, none⟩ = some (.slice none 0 0)) ∧ w.heap.size + 1 < w9.heap.size ∧
     xQ (Pa ts R (acc ++ [D]) m b1 ∧ b + 1 ≤ b1 ∧ Xo pb tb cap ts w w9 b1 v (.slice none 0 0) ∧ Z8 U8 (w.heap.size + 2) 68 4 none w9 v cs acc ∧ Xg U8 (w.heap.size + 2) (fun q => v.ownBlock = some q ∨ (none : Option Nat) = some q) w9 [.string ⟨s.toArray⟩, .slice na l.length nc, .int .i64 li, .int .i64 co] D)) := by
    refine (R0 pb tb cap 0 ts OK.o b _ X3.o.ps).mono ?_
    intro e w9 zhm
    rcases Zy zhm with ⟨er, li, co, hr, rfl, hst⟩ | ⟨D, b1, v1, hr, rfl, hst, hps, hv⟩
    ·exact .inl ⟨_, rfl, X3.o.st.trans hst, by rw [zgr HA.o HSe.o hr]⟩
    obtain ⟨c, rfl, hc⟩ := hv
    have hc' := hc
    obtain ⟨s, l, na, nc, li, co, rfl, _⟩ := hc
    have XN := X3.o.step hst hps
    have hb := Pz XN.box
    exact .inr ⟨s, l, na, nc, li, co, D, b1, rfl, hb.1, hb.2.2, zdj HA.o HSe.o hr, zbp _ _ hr, XN, RW3.o.stay hst (by omega), Xg.new (rep := U8) hc' X3.o.lt fun q hq => RW3.o.all q hq⟩
   go_region_law (first
    | (go_simp; go_at_call 84; refine HC.o.mono ?_; rintro e w9 (⟨ch, rfl, hf⟩ | ⟨s, l, na, nc, li, co, D, b1, rfl, ⟨t0, t1⟩, hl9, HX⟩); exact ⟨rfl, hf⟩)
    | (refine Fo rfl (.tmp 10) (.tmp 13) 39 rfl (w.heap.size + 2) 68 i0 _ 4 56 underlying39 hi hz0 hz1 hz2 rfl (by decide) v _ _ (by first | rfl | simp [Act.eval, Act.put]) (HX.o.2.2.2.1.ow.alloc _) ⟨w9.heap.size, 0, none⟩ 1 1 [.string ⟨s.toArray⟩, .slice na l.length nc, .int .i64 li, .int .i64 co] (by first | rfl | simp [Act.eval, Act.put]) rfl (Uq _ _ _) (by simp [Value.oneCell']) (by unfold maxLen; omega) (by omega) (by rw [xS]; omega) ?_; intro v' w4 zho zhn hloc; obtain ⟨av, cv, rfl⟩ := Vb zho;
                have HN : xQ (Xo pb tb cap ts w w4 b1 v (.slice none 0 0) ∧ Z8 U8 (w.heap.size + 2) 68 4 none w4 (.slice av (acc.length + 1) cv) (cs ++ [[.string ⟨s.toArray⟩, .slice na l.length nc, .int .i64 li, .int .i64 co]]) (acc ++ [D])) := ⟨(HX.o.2.2.1.alloc _).grown zhn fun q hq => (HX.o.2.2.2.1.own q hq).1, HX.o.2.2.2.1.put zho zhn (hloc.imp_right fun e => ⟨_, e, by simp⟩) ((Zj.refl pb w9).alloc HX.o.2.2.1.ps.ltp _) (show pb < w.heap.size + 2 by omega) rfl (HX.o.2.2.2.2.stay ((Zj.refl pb w9).alloc HX.o.2.2.1.ps.ltp _) (show pb < w.heap.size + 2 by omega))⟩;
                obtain ⟨⟨k0, k1⟩, ⟨f0, f1⟩, hk4⟩ := Pz HN.o.1.box; clear zho zhn hloc))
   all_goals
    go_wp2_with fail
    go_roundg (ts.length - b1)
    case measure => have := HX.o.2.1; omega
    case rel => exact ⟨b1, m, _, _, _, HN.o.1.set0 _, Na HN.o.2 (by omega) 0 _, HX.o.1, (by have := HLe.o; have := HX.o.2.1; show _ ≤ _; omega), (by have := HAc.o; have := HX.o.2.1; show (acc ++ [D]).length ≤ _; simp; omega), xR⟩
end Go.Proofs.YtbnjllkkhhkkaaaGreatDoor
namespace Go.Proofs.YtbnjllkkhhkkaaaGreatDoor
open Tryz
open Go.RowKit
structure MV where
 ia : Option Addr
 il : Nat
 ic : Nat
 da : Option Addr
 dl : Nat
 dc : Nat
abbrev MV.val (x : MV) : Value := .agg #[.slice x.ia x.il x.ic, .slice x.da x.dl x.dc]
abbrev MV.obj (x : MV) : Obj := .cells #[.slice x.ia x.il x.ic, .slice x.da x.dl x.dc] 42
abbrev Xp : MV := ⟨none, 0, 0, none, 0, 0⟩
abbrev putM (w : World) (b : Nat) (x : MV) : World := (w.setCell ⟨b, 0, none⟩ (.slice x.ia x.il x.ic)).setCell ⟨b, 1, none⟩ (.slice x.da x.dl x.dc)
def Wq (lo : Nat) (w : World) (x : MV) (D : List Ty × List Ty) : Prop := x.il = D.1.length ∧ x.dl = D.2.length ∧ D.1.length ≤ 8193 ∧ D.2.length ≤ 8193 ∧ Q9 U8 4 lo w x.ia D.1 ∧ Q9 Qp 15 lo w x.da D.2
def MdE (lo : Nat) (w : World) (v : Value) (D : List Ty × List Ty) : Prop := ∃ x : MV, v = x.val ∧ Wq lo w x D
theorem mdE_of {lo : Nat} {w : World} {v : Value} {D : List Ty × List Ty} (h : Lw lo w v D) : MdE lo w v D := by
 obtain ⟨ia, ic, da, dc, rfl, h1, h2, h3, h4⟩ := h
 exact ⟨⟨ia, D.1.length, ic, da, D.2.length, dc⟩, rfl, rfl, rfl, h1, h2, h3, h4⟩
section
variable {w w' : World} {lo lo' b pb : Nat} {x y : MV} {D : List Ty × List Ty}
theorem N1 (h : w.heap[b]? = some y.obj) : (putM w b x).heap[b]? = some x.obj := Gk h _ _
theorem Rt : (putM w b x).heap.size = w.heap.size := by
 unfold putM
 rw [Zw, Zw]
theorem Pp {i : Nat} (hi : i ≠ b) : (putM w b x).heap[i]? = w.heap[i]? := by
 unfold putM
 rw [xH hi, xH hi]
theorem Nt {B : Nat} {u : World} (h : Below B u w) (hb : B ≤ b) (x : MV) : Below B u (putM w b x) := (h.setCell hb _).setCell hb _
theorem N8 (h : w.heap[b]? = some x.obj) : (w.cell? ⟨b, 0, none⟩ = some (.slice x.ia x.il x.ic) ∧ w.cell? ⟨b, 1, none⟩ = some (.slice x.da x.dl x.dc)) ∧ (w.frozen? ⟨b, 0, none⟩ = false ∧ w.frozen? ⟨b, 1, none⟩ = false) ∧ b < w.heap.size := Pz h
theorem Wq.keep (h : Wq lo w x D) (hs : w.heap.size ≤ w'.heap.size) (hk : ∀ b, lo ≤ b → b < w.heap.size → w'.heap[b]? = w.heap[b]?) : Wq lo w' x D :=
 ⟨h.1, h.2.1, h.2.2.1, h.2.2.2.1, Gt Lr h.2.2.2.2.1 hs hk, Gt Ke h.2.2.2.2.2 hs hk⟩
theorem Wq.lower (h : Wq lo w x D) (hl : lo' ≤ lo) : Wq lo' w x D :=
 ⟨h.1, h.2.1, h.2.2.1, h.2.2.2.1, K6 Lr h.2.2.2.2.1 hl, K6 Ke h.2.2.2.2.2 hl⟩
theorem Wq.stay (h : Wq lo w x D) (hs : Zj pb w w') (hp : pb < lo) : Wq lo w' x D := h.keep hs.size fun b hb hl => hs.keep b (by omega) hl
theorem Wq.putM (h : Wq lo w x D) (hb : b < lo) (y : MV) : Wq lo (putM w b y) x D := h.keep (by rw [Rt]; exact xR) fun i hi _ => Pp (by omega)
theorem Wq.set1 (h : Wq lo w x D) (hb : b < lo) (o : Nat) (u : Value) : Wq lo (w.setCell ⟨b, o, none⟩ u) x D :=
 h.keep (by rw [Zw]; exact xR) fun i hi _ => xH (by show i ≠ b; omega)
end
theorem I0 (pb : Nat) : V1 44 pb := fun w => V8 func44 (by kernel_rfl) (by kernel_rfl) _ w
theorem zev (pb tb cap : Nat) (ts : List Tok) (ok : Z0 ts) (w : World) (h : Ps w pb tb cap ts 0 0) :
  Calls prog 44 #[.pointer (some ⟨pb, 0, none⟩)] w (Zs pb tb cap ts 0 w MdE (Mb ts)) :=
 (zaz pb tb cap ts ok w h).mono fun e w' hp => by
  refine ⟨hp.1, ?_⟩
  have h2 := hp.2
  revert h2
  cases Mb ts with
  | inr p => exact id
  | inl p =>
   rintro ⟨h1, v, h2, h3⟩
   exact ⟨h1, v, h2, mdE_of h3⟩
theorem zhb (p q : Addr) (w : World) :
  CallsD prog 82 #[.pointer (some p), .pointer (some q)] .returning w fun e u' w' => e = .returned (.tuple #[]) ∧ u' = .returning ∧ w' = w := by
 have hn := He
 refine callsD_of_wpS func82 rfl fun c₀ cs hu => ?_
 apply wpS_seq
 apply wpS_region
 simp [wpOpsS, go_sem, recoverD, hu, ntmps82, Exit.thenS]
 refine wpS_of_wp ?_
 simp only [Array.replicate, List.replicate, List.setIfInBounds_toArray, List.set_cons_zero, List.set_cons_succ, List.append_toArray, List.cons_append, List.nil_append]
 go_wp2
 cases c₀
 simp_all [bodyPostS, results, results82]
theorem Fj (ab db : Nat) (li co x : Int) (older : List PanicEntry) (w : World) (y : MV) (x0 x1 x2 x3 : Value) (ha : w.heap[ab]? = some y.obj) (hd : w.heap[db]? = some (.cells #[x0, x1, x2, x3] 30)) (hab : ab ≠ db) :
  CallsD prog 82 #[.pointer (some ⟨ab, 0, none⟩), .pointer (some ⟨db, 0, none⟩)] (.panicking ({ v := .iface 30 (Vx li co x), recovered := false } :: older)) w fun e u' w' => e = .returned (.tuple #[]) ∧ u' = .panicking ({ v := .iface 30 (Vx li co x), recovered := true } :: older) ∧
   (w'.heap[ab]? = some Xp.obj ∧ w'.heap[db]? = some (.cells #[.int .i64 0, .int .i64 li, .int .i64 co, .int .i64 x] 30)) ∧ xQ (∀ B, B ≤ ab → B ≤ db → Below B w w') := by
 have hn := Jv
 have hta := Ht
 obtain ⟨⟨a0, a1⟩, ⟨z0, z1⟩, hla⟩ := N8 ha
 obtain ⟨⟨d0, d1, d2, d3⟩, ⟨g0, g1, g2, g3⟩, hld⟩ := Zr hd
 have HA := Za ha
 have HD := Za hd
 clear ha hd
 have hab' : ¬ db = ab := fun e => hab e.symm
 refine callsD_of_wpS func82 rfl fun c₀ cs hu => ?_
 apply wpS_seq
 apply wpS_region
 simp [wpOpsS, go_sem, recoverD, hu, ntmps82, Exit.thenS]
 refine wpS_of_wp ?_
 simp only [Array.replicate, List.replicate, List.setIfInBounds_toArray, List.set_cons_zero, List.set_cons_succ, List.append_toArray, List.cons_append, List.nil_append]
 go_wp2
 go_region
 all_goals
  go_wp2
  refine ⟨rfl, _, rfl, .tuple #[], results_none rfl _ _ _, rfl, rfl, ⟨?_, ?_⟩, fun B h1 h2 => ?_⟩
  ·rw [T4]
   refine (xA (by simp only [Zw]; exact hla)).trans ?_
   exact (Yn hab _ _ _ _).trans (N1 (x := Xp) HA.o)
  ·rw [T4]
   refine (xA (by simp only [Zw]; exact hld)).trans ?_
   exact set4 ((Pp (x := Xp) hab').trans HD.o) _ _ _ _
  ·exact ((Xd (Nt (x := Xp) (Below.refl _ w) h1) h2 _ _ _ _).alloc (by simp only [Zw]; omega) _).drew
theorem Cl {l : List UInt8} {ts : List Tok} (h : Wb l = .inl ts) : U9 l = Uj (Uv ts (Mb ts)) := by
 rw [zfp]
 unfold U9 Uj
 rw [h]
 simp only
 cases Uv ts (Kd ts) <;> rfl
theorem E0 {w : World} {pb tb cap a d b : Nat} {ts : List Tok} (h : Ps w pb tb cap ts a d) (h1 : b ≠ pb) (h2 : b ≠ tb) (x : MV) : Ps (putM w b x) pb tb cap ts a d :=
 ⟨(Pp (x := x) (fun e => h1 e.symm)).trans h.blk, h.tlt, Wj h.toks (Pp (x := x) (fun e => h2 e.symm)), h.lt⟩
theorem Wq.drew {lo : Nat} {w : World} {x : MV} {D : List Ty × List Ty} (h : Wq lo w x D) : Wq lo w.drew x D := h.keep (xR) fun _ _ _ => rfl
theorem Wq.set4 {lo b : Nat} {w : World} {x : MV} {D : List Ty × List Ty} (h : Wq lo w x D) (hb : b < lo) (x0 x1 x2 x3 : Value) : Wq lo ((((w.setCell ⟨b, 0, none⟩ x0).setCell ⟨b, 1, none⟩ x1).setCell ⟨b, 2, none⟩ x2).setCell ⟨b, 3, none⟩ x3) x D :=
 (((h.set1 hb 0 _).set1 hb 1 _).set1 hb 2 _).set1 hb 3 _
theorem zan (S : ByteArray) (hS : S.size ≤ 140737488351232) (w : World) (hw : Lx.Words w) :
  Calls prog 43 #[.string S, .func (.func 44) #[] #[]] w (Tx w Xp.val MdE (U9 S.data.toList)) := by
 have hmf : ∀ (fn : Fn) (first cap : Array Value) (w : World), (Instr.makeFunc fn first cap).run prog w = .ok (.func fn first cap) w := fun _ _ _ _ => rfl
 have HX := Za (fun wx (hb : Below w.heap.size w wx) => Lx.lex_c S hS wx (hw.below hb))
 have hen := I0
 clear hw
 go_enter_defers func43, ntmps43
 go_wp2_with fail
 refine (HX.o _ (Zn (Zl _ _) (Zl _ _))).mono ?_
 intro e w2 zhm
 obtain ⟨hb2, hm⟩ := zhm
 have HB2 := Za (Zn (Zn (Zl _ _) (Zl _ _)) hb2)
 have HA := Za ((hb2.block w.heap.size (by rw [xS, xS]; omega)).trans ((xA (by rw [xS]; omega)).trans (xL w _)))
 have HD := Za ((hb2.block (w.heap.size + 1) (by rw [xS, xS]; omega)).trans (Wn w _ _))
 clear hb2
 obtain ⟨⟨a0, a1⟩, ⟨z0, z1⟩, hla⟩ := N8 (x := Xp) HA.o
 obtain ⟨⟨d0, d1, d2, d3⟩, ⟨g0, g1, g2, g3⟩, hld⟩ := Zr HD.o
 cases hl : Wb S.data.toList with
 | inr p =>
  obtain ⟨x, li, co⟩ := p
  rw [hl] at hm
  simp only at hm
  subst hm
  have hx0 : (x != 0) = true := by simpa using K2 hl
  have HE : xQ (U9 S.data.toList = .inr (x, li, co)) := by show _ = _; unfold U9; rw [hl]
  clear hl
  unfold Lx.diagA
  go_wp2_with fail
  go_region
  all_goals
   go_wp2_with fail
   have hh1 := Yn (w := w2) (b := w.heap.size + 1) (i := w.heap.size) (by omega) (.int .i64 0) (.int .i64 li) (.int .i64 co) (.int .i64 x)
   have hga := N1 (x := Xp) (y := Xp) (hh1.trans HA.o)
   have hgd := set4 ((Pp (x := Xp) (b := w.heap.size) (i := w.heap.size + 1) (by omega)).trans (set4 HD.o (.int .i64 0) (.int .i64 li) (.int .i64 co) (.int .i64 x))) (.int .i64 0) (.int .i64 li) (.int .i64 co) (.int .i64 x)
   refine ⟨.tuple #[Xp.val, Vx li co x], N2 rfl _ rfl ((Yn (b := w.heap.size + 1) (i := w.heap.size) (by omega) (.int .i64 0) (.int .i64 li) (.int .i64 co) (.int .i64 x)).trans hga) underlying42 (by kernel_rfl) rfl hgd underlying30 (by kernel_rfl), ?_⟩
   rw [HE.o]
   exact ⟨(Xd (Nt (Xd HB2.o (by omega) _ _ _ _) (xR) Xp) (by omega) _ _ _ _).drew, rfl⟩
 | inl ts =>
  rw [hl] at hm
  obtain ⟨g, cap, rfl, hown⟩ := hm
  have OK := Za (Lk hl)
  have HE := Za (Cl hl)
  have HTc := Za (Kq hown)
  have hgl : g < w2.heap.size ∧ w.heap.size + 2 ≤ g := by
   have := hown.lt g rfl
   rw [xS, xS] at this
   omega
  obtain ⟨hgl1, hgl2⟩ := hgl
  obtain ⟨Wd, hWd⟩ := xE ((((w2.setCell ⟨w.heap.size + 1, 0, none⟩ (.int .i64 0)).setCell ⟨w.heap.size + 1, 1, none⟩ (.int .i64 0)).setCell ⟨w.heap.size + 1, 2, none⟩ (.int .i64 0)).setCell ⟨w.heap.size + 1, 3, none⟩ (.int .i64 0))
  have hWs : Wd.heap.size = w2.heap.size := by rw [hWd, Vj]
  have HAd : xQ (Wd.heap[w.heap.size]? = some Xp.obj) := by rw [hWd]; exact (Yn (by omega) _ _ _ _).trans HA.o
  have HDd : xQ (Wd.heap[w.heap.size + 1]? = some (.cells #[.int .i64 0, .int .i64 0, .int .i64 0, .int .i64 0] 30)) := by rw [hWd]; exact set4 HD.o _ _ _ _
  have HTd : xQ (Q7 Wd g ts) := Wj HTc.o (by rw [hWd]; exact Yn (by omega) _ _ _ _)
  have HBd : xQ (Below w.heap.size w Wd) := by rw [hWd]; exact Xd HB2.o (by omega) _ _ _ _
  clear hl hown
  unfold Lx.diagA
  go_wp2_with fail
  rw [← hWd, ← hWs]
  have P0 : Ps (Wd.alloc (.cells #[.slice (some ⟨g, 0, none⟩) ts.length cap, .int .i64 0, .int .i64 0] 103)) Wd.heap.size g cap ts 0 0 :=
   ⟨xL _ _, by omega, Wj HTd.o (xA (by omega)), OK.o.pos⟩
  have HP0 := Za P0
  clear P0
  refine (zev Wd.heap.size g cap ts OK.o _ HP0.o).mono ?_
  intro e w3 zhm
  have HPo := Za zhm
  have hst0 := zhm.1
  have HA3 := Za ((hst0.below.block w.heap.size (by omega)).trans ((xA (by omega)).trans HAd.o))
  have HD3 := Za ((hst0.below.block (w.heap.size + 1) (by omega)).trans ((xA (by omega)).trans HDd.o))
  have HB3 : xQ (Below w.heap.size w w3) := (HBd.o.alloc (by omega) _).trans (hst0.below.mono (by omega))
  have HS3 := Za hst0.size
  clear zhm hst0 a0 a1 z0 z1 d0 d1 d2 d3 g0 g1 g2 g3
  rcases Zy HPo.o with ⟨er, li, co, hr, rfl, hst⟩ | ⟨D, b, v, hr, rfl, hst, hps, x, rfl, hv⟩
  ·have HE2 : xQ (U9 S.data.toList = .inr (er, li, co)) := by rw [HE.o, hr]; exact rfl
   clear hr hst
   go_wp2_with fail
   refine leaves_cons (f := 82) (args := #[.pointer (some ⟨w.heap.size, 0, none⟩), .pointer (some ⟨w.heap.size + 1, 0, none⟩)]) (by simp) (by simp [go_sem]) ?_
   refine (Fj w.heap.size (w.heap.size + 1) li co er [] w3 Xp _ _ _ _ HA3.o HD3.o (by omega)).mono ?_
   rintro e u' w4 ⟨rfl, rfl, ⟨h1, h2⟩, h3⟩
   show ∃ v, _
   refine ⟨_, Up rfl _ rfl h1 underlying42 (by kernel_rfl) rfl h2 underlying30 (by kernel_rfl), ?_⟩
   rw [HE2.o]
   exact ⟨HB3.o.trans (h3.o _ (xR) (by omega)), rfl⟩
  ·have HV := Za hv
   have HPs := Za hps
   have HK := Za hr
   obtain ⟨⟨a0, a1⟩, ⟨z0, z1⟩, hla3⟩ := N8 (x := Xp) HA3.o
   obtain ⟨⟨d0, d1, d2, d3⟩, ⟨g0, g1, g2, g3⟩, hld3⟩ := Zr HD3.o
   rw [hWs] at HPs
   obtain ⟨We, hWe⟩ := xE (putM w3 w.heap.size x)
   have HPe : xQ (Ps We w2.heap.size g cap ts b 0) := by rw [hWe]; exact E0 HPs.o (by omega) (by omega) x
   have HAe : xQ (We.heap[w.heap.size]? = some x.obj) := by rw [hWe]; exact N1 (y := Xp) HA3.o
   have HDe : xQ (We.heap[w.heap.size + 1]? = some (.cells #[.int .i64 0, .int .i64 0, .int .i64 0, .int .i64 0] 30)) := by rw [hWe]; exact (Pp (x := x) (by omega)).trans HD3.o
   have HBe : xQ (Below w.heap.size w We) := by rw [hWe]; exact Nt HB3.o (xR) x
   have HVe : xQ (Wq (Wd.heap.size + 1) We x D) := by rw [hWe]; have := HV.o; rw [xS] at this; exact this.putM (by omega) x
   have HSe : xQ (We.heap.size = w3.heap.size) := by rw [hWe]; exact Rt (x := x)
   unfold putM at hWe
   clear hr hst hps hv
   go_wp2_with fail
   rw [← hWe]
   clear hWe a0 a1 z0 z1 d0 d1 d2 d3 g0 g1 g2 g3
   refine (H4 w2.heap.size g cap b 0 ts _ HPe.o).mono ?_
   intro e w4 zhm
   have hst0 := zhm.1
   have hpe := HPe.o.ltp
   have HA4 := Za ((hst0.below.block w.heap.size (by omega)).trans HAe.o)
   have HD4 := Za ((hst0.below.block (w.heap.size + 1) (by omega)).trans HDe.o)
   have HB4 : xQ (Below w.heap.size w w4) := HBe.o.trans (hst0.below.mono (by omega))
   have HV4 : xQ (Wq (w2.heap.size + 1) w4 x D) := by
    have := HVe.o
    rw [hWs] at this
    exact this.stay hst0 (by omega)
   have HPo4 := Za zhm
   clear zhm hst0
   rcases Zy HPo4.o with ⟨er, li, co, hr, rfl, hst⟩ | ⟨u, b', v, hr, rfl, hst, hps, hv⟩
   ·have HE2 : xQ (U9 S.data.toList = .inr (er, li, co)) := by
     rw [HE.o, HK.o]
     show Uj (if (Zg ts b).kind == 0 then .inl (D, b) else Ys ts 7 b) = _
     by_cases h0 : ((Zg ts b).kind == 0) = true
     ·rw [if_pos h0] at hr; cases hr
     ·rw [if_neg h0] at hr ⊢
      injection hr with hr
      exact congrArg Sum.inr hr
    clear hr hst
    go_wp2_with fail
    refine leaves_cons (f := 82) (args := #[.pointer (some ⟨w.heap.size, 0, none⟩), .pointer (some ⟨w.heap.size + 1, 0, none⟩)]) (by simp) (by simp [go_sem]) ?_
    refine (Fj w.heap.size (w.heap.size + 1) li co er [] w4 x _ _ _ _ HA4.o HD4.o (by omega)).mono ?_
    rintro e u' w5 ⟨rfl, rfl, ⟨h1, h2⟩, h3⟩
    show ∃ v, _
    refine ⟨_, Up rfl _ rfl h1 underlying42 (by kernel_rfl) rfl h2 underlying30 (by kernel_rfl), ?_⟩
    rw [HE2.o]
    exact ⟨HB4.o.trans (h3.o _ (xR) (by omega)), rfl⟩
   ·have HE2 : xQ (U9 S.data.toList = .inl D) := by
     rw [HE.o, HK.o]
     show Uj (if (Zg ts b).kind == 0 then .inl (D, b) else Ys ts 7 b) = _
     by_cases h0 : ((Zg ts b).kind == 0) = true
     ·rw [if_pos h0]; exact rfl
     ·rw [if_neg h0] at hr; cases hr
    obtain ⟨⟨a0, a1⟩, ⟨z0, z1⟩, hla4⟩ := N8 (x := x) HA4.o
    obtain ⟨⟨d0, d1, d2, d3⟩, ⟨g0, g1, g2, g3⟩, hld4⟩ := Zr HD4.o
    clear hr hst hps hv
    go_wp2_with fail
    go_region
    all_goals
     go_wp2_with fail
     have hga := (Yn (b := w.heap.size + 1) (i := w.heap.size) (by omega) (.int .i64 0) (.int .i64 0) (.int .i64 0) (.int .i64 0)).trans (N1 (x := x) (y := x) HA4.o)
     have hgd := set4 ((Pp (x := x) (b := w.heap.size) (i := w.heap.size + 1) (by omega)).trans HD4.o) (.int .i64 0) (.int .i64 0) (.int .i64 0) (.int .i64 0)
     have hT := ((HV4.o.putM (b := w.heap.size) (by omega) x).set4 (b := w.heap.size + 1) (by omega) (.int .i64 0) (.int .i64 0) (.int .i64 0) (.int .i64 0)).lower (lo' := w.heap.size) (by omega)
     have hBf := Xd (Nt HB4.o (xR) x) (show w.heap.size ≤ w.heap.size + 1 by omega) (.int .i64 0) (.int .i64 0) (.int .i64 0) (.int .i64 0)
     generalize hWf : (((((putM w4 w.heap.size x).setCell ⟨w.heap.size + 1, 0, none⟩ (.int .i64 0)).setCell ⟨w.heap.size + 1, 1, none⟩ (.int .i64 0)).setCell ⟨w.heap.size + 1, 2, none⟩ (.int .i64 0)).setCell ⟨w.heap.size + 1, 3, none⟩ (.int .i64 0)) = Wf at hga hgd hT hBf
     refine leaves_cons (f := 82) (args := #[.pointer (some ⟨w.heap.size, 0, none⟩), .pointer (some ⟨w.heap.size + 1, 0, none⟩)]) (by simp) (by simp [go_sem]) ?_
     refine (zhb ⟨w.heap.size, 0, none⟩ ⟨w.heap.size + 1, 0, none⟩ _).mono ?_
     rintro e u' w5 ⟨rfl, rfl, rfl⟩
     show ∃ v, _
     refine ⟨_, N2 rfl _ rfl hga underlying42 (by kernel_rfl) rfl hgd underlying30 (by kernel_rfl), ?_⟩
     rw [HE2.o]
     exact ⟨hBf.drew, _, rfl, x, rfl, hT.drew⟩
theorem Sh (S : ByteArray) (hS : S.size ≤ 140737488351232) (w : World) (hw : Lx.Words w) :
  Calls prog 17 #[.string S] w (Tx w Xp.val MdE (U9 S.data.toList)) := by
 have HW := Za (zan S hS _ (hw.below (Zn (Zl w Xp.obj) (Zl _ (.cells #[.int .i64 0, .int .i64 0, .int .i64 0, .int .i64 0] 30)))))
 obtain ⟨R, hR⟩ := xE (U9 S.data.toList)
 rw [← hR] at HW ⊢
 clear hw hR
 go_enter func17, ntmps17
 go_wp2_with fail
 refine HW.o.mono ?_
 intro e w2 zhm
 obtain ⟨hb2, hm⟩ := zhm
 have HB2 := Za (Zn (Zn (Zl _ _) (Zl _ _)) hb2)
 have HA := Za ((hb2.block w.heap.size (by rw [xS, xS]; omega)).trans ((xA (by rw [xS]; omega)).trans (xL w _)))
 have HD := Za ((hb2.block (w.heap.size + 1) (by rw [xS, xS]; omega)).trans (Wn w _ _))
 clear hb2
 obtain ⟨⟨a0, a1⟩, ⟨z0, z1⟩, hla⟩ := N8 (x := Xp) HA.o
 obtain ⟨⟨d0, d1, d2, d3⟩, ⟨g0, g1, g2, g3⟩, hld⟩ := Zr HD.o
 rw [xS, xS] at hm
 rcases R with D | ⟨er, li, co⟩
 ·obtain ⟨v, rfl, x, rfl, hv⟩ := hm
  have HV := Za hv
  clear hv
  go_wp2_with fail
  have hga := (Yn (b := w.heap.size + 1) (i := w.heap.size) (by omega) (.int .i64 0) (.int .i64 0) (.int .i64 0) (.int .i64 0)).trans (N1 (x := x) (y := Xp) HA.o)
  have hgd := set4 ((Pp (x := x) (b := w.heap.size) (i := w.heap.size + 1) (by omega)).trans HD.o) (.int .i64 0) (.int .i64 0) (.int .i64 0) (.int .i64 0)
  refine bodyPost_ret (Up rfl _ rfl hga underlying42 (by kernel_rfl) rfl hgd underlying30 (by kernel_rfl)) rfl ⟨Xd (Nt HB2.o (xR) x) (by omega) _ _ _ _, _, rfl, x, rfl, ?_⟩
  exact ((HV.o.putM (b := w.heap.size) (by omega) x).set4 (b := w.heap.size + 1) (by omega) _ _ _ _).lower (by omega)
 ·subst hm
  go_wp2_with fail
  have hga := (Yn (b := w.heap.size + 1) (i := w.heap.size) (by omega) (.int .i64 0) (.int .i64 li) (.int .i64 co) (.int .i64 er)).trans (N1 (x := Xp) (y := Xp) HA.o)
  have hgd := set4 ((Pp (x := Xp) (b := w.heap.size) (i := w.heap.size + 1) (by omega)).trans HD.o) (.int .i64 0) (.int .i64 li) (.int .i64 co) (.int .i64 er)
  refine bodyPost_ret (Up rfl _ rfl hga underlying42 (by kernel_rfl) rfl hgd underlying30 (by kernel_rfl)) rfl ⟨Xd (Nt HB2.o (xR) Xp) (by omega) _ _ _ _, rfl⟩
def Bp : Nat → Ty → Ty → Prop
 | 0, _, _ => False
 | n + 1, D, D' => (∃ s l c, D = Zi 4 s 0 l c [] [] [] ∧ D' = Vt 4 s 0 [] ∧ s.length ≤ 1000) ∨ ∃ o l c x y x' y', D = Zi 14 o 0 l c [] [] [x, y] ∧ D' = Vt 14 o 0 [x', y'] ∧ o.length ≤ 1000 ∧ Bp n x x' ∧ Bp n y y'
abbrev Bo (x : NV) : PX := ⟨x.li, x.co, x.ta, x.tc, x.na, x.nc⟩
theorem D4 {s : List UInt8} {b : ByteArray} (h : s = b.data.toList) : b.size = s.length := by rw [h]; rfl
theorem Jg {w : World} {lo : Nat} : ∀ (n m : Nat) (x : NV) (D D' : Ty), Bp m D D' → Um w lo n x D → ∃ k : Nat, x.k = k ∧ x.N = 0 ∧ x.tl = 0 ∧ x.nl = 0 ∧ V4 w n k x.tx 0 (Bo x) x.ka x.kl x.kc D'
 | 0, _, _, _, _, _, h => h.elim
 | n + 1, 0, _, _, _, hb, _ => hb.elim
 | n + 1, m + 1, x, D, D', hb, h => by
  obtain ⟨tys, ns, ks, e, ⟨e1, e2, e3⟩, _, _, _, hr⟩ := h
  rcases hb with ⟨s, l, c, rfl, rfl, hs⟩ | ⟨o, l, c, y, z, y', z', rfl, rfl, ho, hy, hz⟩
  ·obtain ⟨f1, f2, f3, f4, f5, rfl, rfl, rfl⟩ := Kl e
   refine ⟨4, f1.symm, f3.symm, e1, e2, [], e3, ?_, by decide, ?_, by decide, xZ _, by decide, .inl rfl⟩
   ·rw [f2]
   ·rw [D4 f2]; omega
  ·obtain ⟨f1, f2, f3, f4, f5, rfl, rfl, rfl⟩ := Kl e
   refine ⟨14, f1.symm, f3.symm, e1, e2, [y', z'], e3, ?_, by decide, ?_, by decide, xZ _, (by show 2 ≤ 1000; decide), ?_⟩
   ·rw [f2]
   ·rw [D4 f2]; omega
   ·rcases hr with hr | ⟨b, o, ea, hl, hcl, hc⟩
    ·cases hr
    ·refine .inr ⟨b, o, ea, hcl, fun i hi => ?_⟩
     have hi2 : i < 2 := hi
     obtain ⟨u, ⟨q0, q1, q2, q3, q4, q5, q6, q7⟩, hu⟩ := hc i hi2
     have key : ∃ k : Nat, u.k = k ∧ u.N = 0 ∧ u.tl = 0 ∧ u.nl = 0 ∧ V4 w n k u.tx 0 (Bo u) u.ka u.kl u.kc [y', z'][i] := by
      match i, hi2, hu with
      | 0, _, hu => exact Jg n m u y y' hy hu
      | 1, _, hu => exact Jg n m u z z' hz hu
     obtain ⟨k, g1, g2, g3, g4, hn⟩ := key
     rw [g1] at q0
     rw [g2] at q2
     rw [g3] at q5
     rw [g4] at q6
     exact ⟨k, u.tx, 0, Bo u, u.ka, u.kl, u.kc, ⟨q0, q1, q2, q3, q4, q5, q6, q7⟩, hn⟩
theorem zbs {w : World} (hB : Nc w) {lo m : Nat} {x : NV} {D D' : Ty} (hb : Bp m D D') (hS : Mj m D') (h : Zv lo w x D) (hs : ∀ n, Wl n D' ≤ 1000) (hh : ∀ n, Xf n D' ≤ 25) (hl : (Td m D').length ≤ 900) :
  Calls prog 21 #[x.val] w (J4 w (Td m D')) := by
 obtain ⟨n, h⟩ := h
 have h' := Qh h (show n ≤ max n m by omega)
 obtain ⟨q, hq⟩ : ∃ q, max n m = q + 1 := by
  cases m with
  | zero => exact hb.elim
  | succ m => exact ⟨max n (m + 1) - 1, by omega⟩
 rw [hq] at h'
 obtain ⟨k, g1, g2, g3, g4, hn⟩ := Jg (q + 1) m x D D' hb h'
 have e : x.val = Tv k x.tx 0 (Bo x) x.ka x.kl x.kc := by
  unfold NV.val Tv Bo
  rw [g1, g2, g3, g4]
  rfl
 rw [e]
 exact Ik hB hS (by omega) hn (hs _) (hh _) hl
def xD : Ty := Zi 14 [45] 0 1 7 [] [] [Zi 14 [45] 0 1 3 [] [] [Zi 4 [97] 0 1 1 [] [] [], Zi 4 [98] 0 1 5 [] [] []], Zi 14 [42] 0 1 11 [] [] [Zi 4 [99] 0 1 9 [] [] [], Zi 4 [100] 0 1 13 [] [] []]]
def xN : Ty := Vt 14 [45] 0 [Vt 14 [45] 0 [Vt 4 [97] 0 [], Vt 4 [98] 0 []], Vt 14 [42] 0 [Vt 4 [99] 0 [], Vt 4 [100] 0 []]]
theorem x_eval : Ui [97, 32, 45, 32, 98, 32, 45, 32, 99, 32, 42, 32, 100] = .inl xD := by kernel_rfl
theorem t_eval : T9 [105, 110, 116, 32, 124, 32, 110, 117, 108, 108, 32, 45, 62, 32, 123, 97, 58, 32, 115, 116, 114, 125] = .inl (Z6 6 [] [] [Z6 7 [] [] [Z6 3 [] [] [], Z6 1 [] [] []], Z6 5 [] [[97]] [Z6 4 [] [] []]]) := by kernel_rfl
theorem m_eval : U9 [102, 110, 32, 102, 40, 120, 41, 32, 61, 32, 120, 59] = .inl ([], [Vq [102] false [] [120] [Z6 0 [] [] [], Z6 0 [] [] []] (Zi 4 [120] 0 1 11 [] [] []) 1 1]) := by kernel_rfl
theorem g_eval : U9 [102, 110, 32, 102, 40, 120, 41, 32, 61, 32, 59] = .inr (7, 1, 11) := by kernel_rfl
theorem x_bare : Bp 3 xD xN :=
 .inr ⟨_, _, _, _, _, _, _, rfl, rfl, by decide, .inr ⟨_, _, _, _, _, _, _, rfl, rfl, by decide, .inl ⟨_, _, _, rfl, rfl, by decide⟩, .inl ⟨_, _, _, rfl, rfl, by decide⟩⟩, .inr ⟨_, _, _, _, _, _, _, rfl, rfl, by decide, .inl ⟨_, _, _, rfl, rfl, by decide⟩, .inl ⟨_, _, _, rfl, rfl, by decide⟩⟩⟩
theorem Js : Mj 3 xN :=
 .inr ⟨_, _, _, rfl, by decide, by decide, .inr ⟨_, _, _, rfl, by decide, by decide, .inl ⟨_, rfl, by decide, by decide⟩, .inl ⟨_, rfl, by decide, by decide⟩⟩, .inr ⟨_, _, _, rfl, by decide, by decide, .inl ⟨_, rfl, by decide, by decide⟩, .inl ⟨_, rfl, by decide, by decide⟩⟩⟩
theorem Jd : ∀ (m : Nat) (D : Ty), Mj m D → ∀ n, Wl n D + 1 ≤ 2 ^ m ∧ Xf n D ≤ m
 | 0, _, h, _ => h.elim
 | m + 1, D, _, 0 => by
  have := Nat.one_le_two_pow (n := m + 1)
  exact ⟨by rw [Wl]; omega, by rw [Xf]; omega⟩
 | m + 1, D, h, n + 1 => by
  have := Nat.one_le_two_pow (n := m)
  rw [Wl, Xf]
  rcases h with ⟨s, rfl, _⟩ | ⟨o, x, y, rfl, _, _, hx, hy⟩
  ·rw [Vt, Kb]
   refine ⟨?_, ?_⟩
   ·show 1 + 0 + 1 ≤ 2 ^ (m + 1)
    rw [Nat.pow_succ]
    omega
   ·show 1 + 0 ≤ m + 1
    omega
  ·have h1 := Jd m x hx n
   have h2 := Jd m y hy n
   rw [Vt, Kb]
   refine ⟨?_, ?_⟩
   ·show 1 + (Wl n x + (Wl n y + 0)) + 1 ≤ 2 ^ (m + 1)
    rw [Nat.pow_succ]
    omega
   ·show 1 + max (Xf n x) (max (Xf n y) 0) ≤ m + 1
    omega
structure Jm (w : World) : Prop where
 tr : Nc w
 lx : Lx.Words w
theorem zdd {lo : Nat} {w : World} {x : NV} {k N : Int} {tx : List UInt8} {l c : Nat} {ts : List Ty} {ns : List (List UInt8)} {ks : List Ty} (h : Zv lo w x (Zi k tx N l c ts ns ks)) : x.k = k ∧ x.tx.data.toList = tx ∧ x.N = N ∧ x.li = l ∧ x.co = c ∧ x.tl = ts.length ∧ x.nl = ns.length ∧ x.kl = ks.length := by
 obtain ⟨m, h⟩ := h
 cases m with
 | zero => exact h.elim
 | succ m =>
  obtain ⟨tys, ns', ks', e, ⟨e1, e2, e3⟩, _⟩ := h
  obtain ⟨f1, f2, f3, f4, f5, rfl, rfl, rfl⟩ := Kl e
  exact ⟨f1.symm, f2.symm, f3.symm, f4.symm, f5.symm, e1, e2, e3⟩
theorem zav {lo : Nat} {w : World} {k k' : Int} {nm : ByteArray} {na ka : Option Addr} {nl nc kl kc : Nat} {s : List UInt8} {ns : List (List UInt8)} {ks : List Ty} (h : Zt lo w (.agg #[.int .i64 k, .string nm, .slice na nl nc, .slice ka kl kc]) (Z6 k' s ns ks)) : k = k' := by
 obtain ⟨m, h⟩ := h
 cases m with
 | zero => exact h.elim
 | succ m =>
  obtain ⟨k1, nm1, na1, nc1, ka1, kc1, ns1, ks1, e1, e2, _⟩ := h
  injection e1 with e1
  simp only [Array.mk.injEq, List.cons.injEq] at e1
  obtain ⟨e1, _⟩ := e1
  injection e1 with _ e1
  rw [e1]
  exact (Kf e2).1.symm
theorem zaq {lo : Nat} {w : World} {a : Option Addr} {D : Ty} (h : Q9 Qp 15 lo w a [D]) : ∃ g ta tc, a = some ⟨g, 0, none⟩ ∧ w.cell? ⟨g, 4, none⟩ = some (.slice ta 2 tc) ∧ g < w.heap.size := by
 rcases h with h | ⟨g, e, _, hc, hr⟩
 ·cases h
 ·obtain ⟨c, h1, h2, h3⟩ := hr 0 (by simp)
  obtain ⟨s, ex, vs, va, vc, pm, ta, tc, tys, x, B, li, co, m, rfl, _⟩ := h3
  exact ⟨g, ta, tc, e, h2 4 (by decide), Ux hc⟩
theorem zds (w : World) (hB : Jm w) : Calls prog 8 #[] w fun e w' => e = .returned (.bool true) ∧ Below w.heap.size w w' := by
 have HB := Za hB
 have HE := Za (fun wx (h : Below w.heap.size w wx) => Gh ⟨#[97, 32, 45, 32, 98, 32, 45, 32, 99, 32, 42, 32, 100]⟩ (by decide) wx (hB.lx.below h))
 have HT := Za (fun wx (h : Below w.heap.size w wx) => zaj ⟨#[105, 110, 116, 32, 124, 32, 110, 117, 108, 108, 32, 45, 62, 32, 123, 97, 58, 32, 115, 116, 114, 125]⟩ (by decide) wx (hB.lx.below h))
 have HM := Za (fun wx (h : Below w.heap.size w wx) => Sh ⟨#[102, 110, 32, 102, 40, 120, 41, 32, 61, 32, 120, 59]⟩ (by decide) wx (hB.lx.below h))
 have HG := Za (fun wx (h : Below w.heap.size w wx) => Sh ⟨#[102, 110, 32, 102, 40, 120, 41, 32, 61, 32, 59]⟩ (by decide) wx (hB.lx.below h))
 clear hB
 go_enter func8, ntmps8
 go_wp2_with fail
 refine (HE.o _ (Below.refl _ _)).mono ?_
 intro e w1 zhm
 have zhm : Tx w Ze.val Zo (Ui [97, 32, 45, 32, 98, 32, 45, 32, 99, 32, 42, 32, 100]) e w1 := zhm
 rw [x_eval] at zhm
 obtain ⟨hb1, v, rfl, x, rfl, hv⟩ := zhm
 have HB1 := Za (Zn (Zn hb1 (Zl w1 x.obj)) (Zl _ (.cells #[.int .i64 0, .int .i64 0, .int .i64 0, .int .i64 0] 30)))
 have HX1 : xQ (Zv w.heap.size ((w1.alloc x.obj).alloc (.cells #[.int .i64 0, .int .i64 0, .int .i64 0, .int .i64 0] 30)) x xD) := (hv.alloc _).alloc _
 have HN1 : xQ (((w1.alloc x.obj).alloc (.cells #[.int .i64 0, .int .i64 0, .int .i64 0, .int .i64 0] 30)).heap[w1.heap.size]? = some x.obj) := (xA (by simp)).trans (xL _ _)
 have HD1 : xQ (((w1.alloc x.obj).alloc (.cells #[.int .i64 0, .int .i64 0, .int .i64 0, .int .i64 0] 30)).heap[w1.heap.size + 1]? = some (.cells #[.int .i64 0, .int .i64 0, .int .i64 0, .int .i64 0] 30)) := Wn _ _ _
 have HTOP := Za (zdd (show Zv w.heap.size w1 x (Zi _ _ _ _ _ _ _ _) from hv))
 clear hb1 hv HE
 obtain ⟨nb, hnb⟩ := xE w1.heap.size
 rw [← hnb] at HN1 HD1
 go_wp2_with fail
 rw [← hnb]
 generalize (w1.alloc x.obj).alloc (.cells #[.int .i64 0, .int .i64 0, .int .i64 0, .int .i64 0] 30) = W1 at HB1 HX1 HN1 HD1 ⊢
 clear hnb
 refine (HT.o _ HB1.o).mono ?_
 intro e w2 zhm
 have zhm : Tx W1 zTy Zt (T9 [105, 110, 116, 32, 124, 32, 110, 117, 108, 108, 32, 45, 62, 32, 123, 97, 58, 32, 115, 116, 114, 125]) e w2 := zhm
 rw [t_eval] at zhm
 obtain ⟨hb2, v, rfl, hv⟩ := zhm
 obtain ⟨k1, nm1, na1, nl1, nc1, ka1, kl1, kc1, rfl⟩ := hv.cells
 obtain rfl := zav hv
 have hbA := Zn (Zn hb2 (Zl w2 (Zq 6 nm1 na1 nl1 nc1 ka1 kl1 kc1))) (Zl _ (.cells #[.int .i64 0, .int .i64 0, .int .i64 0, .int .i64 0] 30))
 have HB2 := Za (Zn HB1.o hbA)
 have HX2 := Za (HX1.o.below hbA)
 have HN2 := Za ((hbA.block _ (xB HN1.o)).trans HN1.o)
 have HD2 := Za ((hbA.block _ (xB HD1.o)).trans HD1.o)
 have HT2 : xQ (((w2.alloc (Zq 6 nm1 na1 nl1 nc1 ka1 kl1 kc1)).alloc (.cells #[.int .i64 0, .int .i64 0, .int .i64 0, .int .i64 0] 30)).heap[w2.heap.size]? = some (Zq 6 nm1 na1 nl1 nc1 ka1 kl1 kc1)) := (xA (by simp)).trans (xL _ _)
 have HE2 : xQ (((w2.alloc (Zq 6 nm1 na1 nl1 nc1 ka1 kl1 kc1)).alloc (.cells #[.int .i64 0, .int .i64 0, .int .i64 0, .int .i64 0] 30)).heap[w2.heap.size + 1]? = some (.cells #[.int .i64 0, .int .i64 0, .int .i64 0, .int .i64 0] 30)) := Wn _ _ _
 clear hb2 hv hbA HB1 HX1 HN1 HD1 HT
 obtain ⟨tb, htb⟩ := xE w2.heap.size
 rw [← htb] at HT2 HE2
 go_wp2_with fail
 rw [← htb]
 generalize (w2.alloc (Zq 6 nm1 na1 nl1 nc1 ka1 kl1 kc1)).alloc (.cells #[.int .i64 0, .int .i64 0, .int .i64 0, .int .i64 0] 30) = W2 at HB2 HX2 HN2 HD2 HT2 HE2 ⊢
 clear htb
 refine (HM.o _ HB2.o).mono ?_
 intro e w3 zhm
 have zhm : Tx W2 Xp.val MdE (U9 [102, 110, 32, 102, 40, 120, 41, 32, 61, 32, 120, 59]) e w3 := zhm
 rw [m_eval] at zhm
 obtain ⟨hb3, v, rfl, y, rfl, hv⟩ := zhm
 obtain ⟨eil, edl, _, _, _, hdr⟩ := hv
 obtain ⟨g, ta, tc, eda, hgc, hgl⟩ := zaq hdr
 have hbA := Zn (Zn hb3 (Zl w3 y.obj)) (Zl _ (.cells #[.int .i64 0, .int .i64 0, .int .i64 0, .int .i64 0] 30))
 have hbC := Zn (Zl w3 y.obj) (Zl _ (.cells #[.int .i64 0, .int .i64 0, .int .i64 0, .int .i64 0] 30))
 have HB3 := Za (Zn HB2.o hbA)
 have HX3 := Za (HX2.o.below hbA)
 have HN3 := Za ((hbA.block _ (xB HN2.o)).trans HN2.o)
 have HD3 := Za ((hbA.block _ (xB HD2.o)).trans HD2.o)
 have HT3 := Za ((hbA.block _ (xB HT2.o)).trans HT2.o)
 have HE3 := Za ((hbA.block _ (xB HE2.o)).trans HE2.o)
 have HC3 : xQ (((w3.alloc y.obj).alloc (.cells #[.int .i64 0, .int .i64 0, .int .i64 0, .int .i64 0] 30)).cell? ⟨g, 4, none⟩ = some (.slice ta 2 tc) ∧ g < ((w3.alloc y.obj).alloc (.cells #[.int .i64 0, .int .i64 0, .int .i64 0, .int .i64 0] 30)).heap.size) := ⟨(hbC.cell (p := ⟨g, 4, none⟩) hgl).trans hgc, xT hgl hbC.size⟩
 obtain ⟨ia, il, ic, da, dl, dc⟩ := y
 simp only at eil edl eda
 obtain rfl : il = 0 := eil
 obtain rfl : dl = 1 := edl
 subst eda
 have HM3 : xQ (((w3.alloc (MV.obj ⟨ia, 0, ic, some ⟨g, 0, none⟩, 1, dc⟩)).alloc (.cells #[.int .i64 0, .int .i64 0, .int .i64 0, .int .i64 0] 30)).heap[w3.heap.size]? = some (MV.obj ⟨ia, 0, ic, some ⟨g, 0, none⟩, 1, dc⟩)) := (xA (by simp)).trans (xL _ _)
 have HF3 : xQ (((w3.alloc (MV.obj ⟨ia, 0, ic, some ⟨g, 0, none⟩, 1, dc⟩)).alloc (.cells #[.int .i64 0, .int .i64 0, .int .i64 0, .int .i64 0] 30)).heap[w3.heap.size + 1]? = some (.cells #[.int .i64 0, .int .i64 0, .int .i64 0, .int .i64 0] 30)) := Wn _ _ _
 clear hb3 hdr hbA hbC hgc hgl HB2 HX2 HN2 HD2 HT2 HE2 HM
 obtain ⟨mb, hmb⟩ := xE w3.heap.size
 rw [← hmb] at HM3 HF3
 go_wp2_with fail
 rw [← hmb]
 generalize (w3.alloc (MV.obj ⟨ia, 0, ic, some ⟨g, 0, none⟩, 1, dc⟩)).alloc (.cells #[.int .i64 0, .int .i64 0, .int .i64 0, .int .i64 0] 30) = W3 at HB3 HX3 HN3 HD3 HT3 HE3 HC3 HM3 HF3 ⊢
 clear hmb
 refine (HG.o _ HB3.o).mono ?_
 intro e w4 zhm
 have zhm : Tx W3 Xp.val MdE (U9 [102, 110, 32, 102, 40, 120, 41, 32, 61, 32, 59]) e w4 := zhm
 rw [g_eval] at zhm
 obtain ⟨hb4, rfl⟩ := zhm
 have hbA := Zn (Zn hb4 (Zl w4 Xp.obj)) (Zl _ (.cells #[.int .i64 0, .int .i64 1, .int .i64 11, .int .i64 7] 30))
 have HB4 := Za (Zn HB3.o hbA)
 have HX4 := Za (HX3.o.below hbA)
 have HN4 := Za ((hbA.block _ (xB HN3.o)).trans HN3.o)
 have HD4 := Za ((hbA.block _ (xB HD3.o)).trans HD3.o)
 have HT4 := Za ((hbA.block _ (xB HT3.o)).trans HT3.o)
 have HE4 := Za ((hbA.block _ (xB HE3.o)).trans HE3.o)
 have HM4 := Za ((hbA.block _ (xB HM3.o)).trans HM3.o)
 have HF4 := Za ((hbA.block _ (xB HF3.o)).trans HF3.o)
 have HC4 : xQ (((w4.alloc Xp.obj).alloc (.cells #[.int .i64 0, .int .i64 1, .int .i64 11, .int .i64 7] 30)).cell? ⟨g, 4, none⟩ = some (.slice ta 2 tc) ∧ g < ((w4.alloc Xp.obj).alloc (.cells #[.int .i64 0, .int .i64 1, .int .i64 11, .int .i64 7] 30)).heap.size) := ⟨(hbA.cell (p := ⟨g, 4, none⟩) HC3.o.2).trans HC3.o.1, xT HC3.o.2 hbA.size⟩
 have HG4 : xQ (((w4.alloc Xp.obj).alloc (.cells #[.int .i64 0, .int .i64 1, .int .i64 11, .int .i64 7] 30)).heap[w4.heap.size + 1]? = some (.cells #[.int .i64 0, .int .i64 1, .int .i64 11, .int .i64 7] 30)) := Wn _ _ _
 clear hb4 hbA HB3 HX3 HN3 HD3 HT3 HE3 HC3 HM3 HF3 HG
 obtain ⟨gb, hgb⟩ := xE w4.heap.size
 rw [← hgb] at HG4
 obtain ⟨⟨d0, d1, d2, d3⟩, _, hdl⟩ := Zr HD4.o
 obtain ⟨⟨n0, n1, n2, n3, n4, n5, n6, n7⟩, _, hnl⟩ := Zh HN4.o
 go_wp2_with fail
 rw [← hgb]
 clear hgb d0 d1 d2 d3 hdl n0 n1 n2 n3 n4 n5 n6 n7 hnl
 generalize (w4.alloc Xp.obj).alloc (.cells #[.int .i64 0, .int .i64 1, .int .i64 11, .int .i64 7] 30) = W4 at HB4 HX4 HN4 HD4 HT4 HE4 HM4 HF4 HC4 HG4 ⊢
 refine (zbs (HB.o.tr.below HB4.o) x_bare Js HX4.o (fun n => by have := Jd 3 xN Js n; omega) (fun n => by have := Jd 3 xN Js n; omega) (by decide)).mono ?_
 rintro e w5 ⟨⟨s, rfl, hs⟩, hb5⟩
 have hs' : s = ⟨#[40, 40, 97, 32, 45, 32, 98, 41, 32, 45, 32, 40, 99, 32, 42, 32, 100, 41, 41]⟩ := by
  rw [show Td 3 xN = [40, 40, 97, 32, 45, 32, 98, 41, 32, 45, 32, 40, 99, 32, 42, 32, 100, 41, 41] by kernel_rfl] at hs
  exact F1 hs
 subst hs'
 have HB5 := Za (Zn HB4.o hb5)
 have HN5 := Za ((hb5.block _ (xB HN4.o)).trans HN4.o)
 have HT5 := Za ((hb5.block _ (xB HT4.o)).trans HT4.o)
 have HE5 := Za ((hb5.block _ (xB HE4.o)).trans HE4.o)
 have HM5 := Za ((hb5.block _ (xB HM4.o)).trans HM4.o)
 have HF5 := Za ((hb5.block _ (xB HF4.o)).trans HF4.o)
 have HG5 := Za ((hb5.block _ (xB HG4.o)).trans HG4.o)
 have hc5 := (hb5.cell (p := ⟨g, 4, none⟩) HC4.o.2).trans HC4.o.1
 have hg5 := xT HC4.o.2 hb5.size
 clear hs hb5 HB4 HX4 HN4 HD4 HT4 HE4 HM4 HF4 HC4 HG4
 obtain ⟨⟨n0, n1, n2, n3, n4, n5, n6, n7⟩, _, hnl⟩ := Zh HN5.o
 obtain ⟨ek, _, _, el, ec, _⟩ := HTOP.o
 rw [el] at n3
 rw [ec] at n4
 obtain ⟨⟨t0, t1, t2, t3⟩, _, htl⟩ := Zr HT5.o
 obtain ⟨⟨e0, e1, e2, e3⟩, _, hel⟩ := Zr HE5.o
 obtain ⟨⟨m0, m1⟩, _, hml⟩ := N8 HM5.o
 obtain ⟨⟨f0, f1, f2, f3⟩, _, hfl⟩ := Zr HF5.o
 obtain ⟨⟨g0, g1, g2, g3⟩, _, hgl⟩ := Zr HG5.o
 clear ek el ec
 go_wp2_with fail
 go_ret
 exact ⟨rfl, HB5.o⟩
end Go.Proofs.YtbnjllkkhhkkaaaGreatDoor
