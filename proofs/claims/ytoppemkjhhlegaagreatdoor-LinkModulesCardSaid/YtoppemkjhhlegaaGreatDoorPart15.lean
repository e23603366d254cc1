/- Part. -/
import Derived.ProofKit
import Derived.OpenShut
import Derived.ShutString
import Derived.ChangeOld
import Derived.LaidMore
import Derived.Stop.Joined
import Derived.Stop.LaidErr
import Derived.Lib.LaidTab
import Derived.Test.YtoppemkjhhlegaaGreatDoorPart14
import Derived.Test.YtoppemkjhhlegaaGreatDoorCards
import Derived.Test.YtoppemkjhhlegaaGreatDoorTie
set_option maxRecDepth 100000
set_option maxHeartbeats 4000000
namespace Go.Proofs.YtoppemkjhhlegaaGreatDoor
open Go.Proofs.Tryz
section
open Go.RowKit
theorem dC {l:bS} {ts:List Tok} (h:Pz l = .inl ts):P2 l=E8 (K7 ts (I5 ts)):=by
 rw [dB]
 unfold P2 E8
 rw [h]
 simp only
 cases K7 ts (Du ts) <;> rfl
theorem zfx {w:wD} {pb tb cap a d b:Nat} {ts:List Tok} (h:Ps w pb tb cap ts a d) (j:b≠pb) (z:b≠tb) (x:MV):Ps (putM w b x) pb tb cap ts a d :=
 ⟨(Ag (x:=x) (fun e=>j e.symm)).trans h.blk,h.tlt,Lf h.toks (Ag (x:=x) (fun e=>z e.symm)),h.lt⟩
theorem Ul.drew {lo:Nat} {w:wD} {x:MV} {D:List Ty×List Ty} (h:Ul lo w x D):Ul lo w.drew x D:=h.keep (xR) fun _ _ _=>rfl
theorem Ul.set4 {lo b:Nat} {w:wD} {x:MV} {D:List Ty×List Ty} (h:Ul lo w x D) (j:b<lo) (z C F A:vL):Ul lo ((((w.setCell (aP b 0) z).setCell (aP b 1) C).setCell (aP b 2) F).setCell (aP b 3) A) x D :=
 (((h.set1 j 0 _).set1 j 1 _).set1 j 2 _).set1 j 3 _
theorem zky (S:bA) (hS:S.size<=140737488351232) (w:wD) (hw:Lx.Words w) :
  Calls prog 51 #[.string S,.func (.func 52) #[] #[]] w (tU w Xf.val MdE (P2 S.data.toList)):=by
 have hmf:∀ (fn:Fn) (first cap:Array vL) (w:wD),(Instr.makeFunc fn first cap).run prog w = .ok (.func fn first cap) w:=fun _ _ _ _=>rfl
 have HX:=Za (fun wx (hb:Below w.heap.size w wx)=>Lx.lex_c S hS wx (hw.below hb))
 have U4:=zeg
 clear hw
 go_enter_defers func51,ntmps51
 go_wp2_with fail
 refine(HX.o _ (Zz (Zq _ _) (Zq _ _))).mono ?_
 intro e w2 H
 obtain⟨Z5,hm⟩:=H
 have Xa:=Za (Zz (Zz (Zq _ _) (Zq _ _)) Z5)
 have HA:=Za ((Z5.block w.heap.size (by rw [xS,xS]; omega)).trans ((xA (by rw [xS]; omega)).trans (xL w _)))
 have HD:=Za ((Z5.block (w.heap.size+1) (by rw [xS,xS]; omega)).trans (Bg w _ _))
 clear Z5
 obtain⟨⟨a0,a1⟩,⟨z0,z1⟩,hla⟩:=Nf (x:=Xf) HA.o
 obtain⟨⟨d0,d1,d2,d3⟩,⟨g0,g1,g2,g3⟩,hld⟩:=Yh HD.o
 cases hl:Pz S.data.toList with
 | inr p =>
  obtain⟨x,li,co⟩:=p;rw [hl] at hm;simp only at hm;subst hm
  have hx0:(x != 0)=true:=by simpa using nG hl
  have Y:xQ (P2 S.data.toList = .inr (x,li,co)):=by show _=_; unfold P2; rw [hl]
  clear hl;unfold Lx.diagA;go_wp2_with fail;go_region
  all_goals
   go_wp2_with fail;have hh1:=Q1 (w:=w2) (b:=w.heap.size+1) (i:=w.heap.size) (by omega) (iP 0) (iP li) (iP co) (iP x);have Nn:=Eh (x:=Xf) (y:=Xf) (hh1.trans HA.o);have Mv:=set4 ((Ag (x:=Xf) (b:=w.heap.size) (i:=w.heap.size+1) (by omega)).trans (set4 HD.o (iP 0) (iP li) (iP co) (iP x))) (iP 0) (iP li) (iP co) (iP x);refine⟨.tuple #[Xf.val,Da li co x],sZ rfl _ rfl ((Q1 (b:=w.heap.size+1) (i:=w.heap.size) (by omega) (iP 0) (iP li) (iP co) (iP x)).trans Nn) underlying40 (by kernel_rfl) rfl Mv underlying47 (by kernel_rfl),?_⟩
   rw [Y.o];exact⟨(G4 (E5 (G4 Xa.o (by omega) _ _ _ _) (xR) Xf) (by omega) _ _ _ _).drew,rfl⟩
 | inl ts =>
  rw [hl] at hm;obtain⟨g,cap,rfl,Wh⟩:=hm;have OK:=Za (uE hl);have Y:=Za (dC hl);have HTc:=Za (eC Wh)
  have Gb:g<w2.heap.size/\w.heap.size+2<=g:=by
   have:=Wh.lt g rfl;rw [xS,xS] at this;omega
  obtain⟨hgl1,hgl2⟩:=Gb;obtain⟨F,z⟩:=xE ((((w2.setCell (aP (w.heap.size+1) 0) (iP 0)).setCell (aP (w.heap.size+1) 1) (iP 0)).setCell (aP (w.heap.size+1) 2) (iP 0)).setCell (aP (w.heap.size+1) 3) (iP 0))
  have I:F.heap.size=w2.heap.size:=by rw [z,Ak]
  have HAd:xQ (F.heap[w.heap.size]?=some Xf.obj):=by rw [z]; exact(Q1 (by omega) _ _ _ _).trans HA.o
  have HDd:xQ (F.heap[w.heap.size+1]?=some (.cells #[iP 0,iP 0,iP 0,iP 0] 47)):=by rw [z]; exact set4 HD.o _ _ _ _
  have HTd:xQ (Ie F g ts):=Lf HTc.o (by rw [z]; exact Q1 (by omega) _ _ _ _)
  have HBd:xQ (Below w.heap.size w F):=by rw [z]; exact G4 Xa.o (by omega) _ _ _ _
  clear hl Wh;unfold Lx.diagA;go_wp2_with fail;rw [<- z,<- I]
  have P0:Ps (F.alloc (.cells #[lP g ts.length cap,iP 0,iP 0] 133)) F.heap.size g cap ts 0 0 :=
   ⟨xL _ _,by omega,Lf HTd.o (xA (by omega)),OK.o.pos⟩
  have HP0:=Za P0;clear P0;refine(zed F.heap.size g cap ts OK.o _ HP0.o).mono ?_;intro e w3 H;have HPo:=Za H;have A:=H.1;have Dz:=Za ((A.below.block w.heap.size (by omega)).trans ((xA (by omega)).trans HAd.o));have O:=Za ((A.below.block (w.heap.size+1) (by omega)).trans ((xA (by omega)).trans HDd.o));have Tn:xQ (Below w.heap.size w w3):=(HBd.o.alloc (by omega) _).trans (A.below.mono (by omega))
  have Vs:=Za A.size;clear H A a0 a1 z0 z1 d0 d1 d2 d3 g0 g1 g2 g3;rcases Yr HPo.o with⟨er,li,co,j,rfl,M⟩ | ⟨D,b,v,j,rfl,M,Zc,x,rfl,hv⟩
  ·have C:xQ (P2 S.data.toList = .inr (er,li,co)):=by rw [Y.o,j]; exact rfl
   clear j M;go_wp2_with fail;refine leaves_cons (f:=65) (args:=#[qP w.heap.size,qP (w.heap.size+1)]) (by simp) (by simp [go_sem]) ?_;refine(l7 w.heap.size (w.heap.size+1) li co er [] w3 Xf _ _ _ _ Dz.o O.o (by omega)).mono ?_;rintro e u' w4 ⟨rfl,rfl,⟨h1,h2⟩,h3⟩;show ∃ v,_;refine⟨_,Og rfl _ rfl h1 underlying40 (by kernel_rfl) rfl h2 underlying47 (by kernel_rfl),?_⟩;rw [C.o]
   exact⟨Tn.o.trans (h3.o _ (xR) (by omega)),rfl⟩
  ·have HV:=Za hv
   have Qt:=Za Zc;have HK:=Za j;obtain⟨⟨a0,a1⟩,⟨z0,z1⟩,hla3⟩:=Nf (x:=Xf) Dz.o;obtain⟨⟨d0,d1,d2,d3⟩,⟨g0,g1,g2,g3⟩,hld3⟩:=Yh O.o;rw [I] at Qt;obtain⟨T,h⟩:=xE (putM w3 w.heap.size x)
   have V:xQ (Ps T w2.heap.size g cap ts b 0):=by rw [h]; exact zfx Qt.o (by omega) (by omega) x
   have HAe:xQ (T.heap[w.heap.size]?=some x.obj):=by rw [h]; exact Eh (y:=Xf) Dz.o
   have HDe:xQ (T.heap[w.heap.size+1]?=some (.cells #[iP 0,iP 0,iP 0,iP 0] 47)):=by rw [h]; exact(Ag (x:=x) (by omega)).trans O.o
   have HBe:xQ (Below w.heap.size w T):=by rw [h]; exact E5 Tn.o (xR) x
   have HVe:xQ (Ul (F.heap.size+1) T x D):=by rw [h]; have:=HV.o; rw [xS] at this; exact this.putM (by omega) x
   have Uk:xQ (T.heap.size=w3.heap.size):=by rw [h]; exact sQ (x:=x)
   unfold putM at h;clear j M Zc hv;go_wp2_with fail;rw [<- h];clear h a0 a1 z0 z1 d0 d1 d2 d3 g0 g1 g2 g3;refine(end_c w2.heap.size g cap b 0 ts _ V.o).mono ?_;intro e w4 H;have A:=H.1;have hpe:=V.o.ltp;have N:=Za ((A.below.block w.heap.size (by omega)).trans HAe.o);have J:=Za ((A.below.block (w.heap.size+1) (by omega)).trans HDe.o);have Hh:xQ (Below w.heap.size w w4):=HBe.o.trans (A.below.mono (by omega))
   have Kw:xQ (Ul (w2.heap.size+1) w4 x D):=by
    have:=HVe.o;rw [I] at this;exact this.stay A (by omega)
   have HPo4:=Za H;clear H A;rcases Yr HPo4.o with⟨er,li,co,j,rfl,M⟩ | ⟨u,b',v,j,rfl,M,Zc,hv⟩
   ·have C:xQ (P2 S.data.toList = .inr (er,li,co)):=by
     rw [Y.o,HK.o];show E8 (if (Zk ts b).kind == 0 then .inl (D,b)else Vj ts 7 b)=_;by_cases Z:((Zk ts b).kind == 0)=true
     ·rw [if_pos Z] at j; cases j
     ·rw [if_neg Z] at j ⊢
      injection j with j;exact congrArg Sum.inr j
    clear j M;go_wp2_with fail;refine leaves_cons (f:=65) (args:=#[qP w.heap.size,qP (w.heap.size+1)]) (by simp) (by simp [go_sem]) ?_;refine(l7 w.heap.size (w.heap.size+1) li co er [] w4 x _ _ _ _ N.o J.o (by omega)).mono ?_;rintro e u' w5 ⟨rfl,rfl,⟨h1,h2⟩,h3⟩;show ∃ v,_;refine⟨_,Og rfl _ rfl h1 underlying40 (by kernel_rfl) rfl h2 underlying47 (by kernel_rfl),?_⟩
    rw [C.o];exact⟨Hh.o.trans (h3.o _ (xR) (by omega)),rfl⟩
   ·have C:xQ (P2 S.data.toList = .inl D):=by
     rw [Y.o,HK.o];show E8 (if (Zk ts b).kind == 0 then .inl (D,b)else Vj ts 7 b)=_;by_cases Z:((Zk ts b).kind == 0)=true
     ·rw [if_pos Z]; exact rfl
     ·rw [if_neg Z] at j; cases j
    obtain⟨⟨a0,a1⟩,⟨z0,z1⟩,hla4⟩:=Nf (x:=x) N.o;obtain⟨⟨d0,d1,d2,d3⟩,⟨g0,g1,g2,g3⟩,hld4⟩:=Yh J.o;clear j M Zc hv;go_wp2_with fail;go_region
    all_goals
     go_wp2_with fail;have Nn:=(Q1 (b:=w.heap.size+1) (i:=w.heap.size) (by omega) (iP 0) (iP 0) (iP 0) (iP 0)).trans (Eh (x:=x) (y:=x) N.o);have Mv:=set4 ((Ag (x:=x) (b:=w.heap.size) (i:=w.heap.size+1) (by omega)).trans J.o) (iP 0) (iP 0) (iP 0) (iP 0);have hT:=((Kw.o.putM (b:=w.heap.size) (by omega) x).set4 (b:=w.heap.size+1) (by omega) (iP 0) (iP 0) (iP 0) (iP 0)).lower (lo':=w.heap.size) (by omega)
     have hBf:=G4 (E5 Hh.o (xR) x) (show w.heap.size<=w.heap.size+1 by omega) (iP 0) (iP 0) (iP 0) (iP 0);generalize Zm:(((((putM w4 w.heap.size x).setCell (aP (w.heap.size+1) 0) (iP 0)).setCell (aP (w.heap.size+1) 1) (iP 0)).setCell (aP (w.heap.size+1) 2) (iP 0)).setCell (aP (w.heap.size+1) 3) (iP 0))=Wf at Nn Mv hT hBf;refine leaves_cons (f:=65) (args:=#[qP w.heap.size,qP (w.heap.size+1)]) (by simp) (by simp [go_sem]) ?_
     refine(oR (aP w.heap.size 0) (aP (w.heap.size+1) 0) _).mono ?_;rintro e u' w5 ⟨rfl,rfl,rfl⟩;show ∃ v,_;refine⟨_,sZ rfl _ rfl Nn underlying40 (by kernel_rfl) rfl Mv underlying47 (by kernel_rfl),?_⟩;rw [C.o];exact⟨hBf.drew,_,rfl,x,rfl,hT.drew⟩
theorem zfi (S:bA) (N:S.size<=140737488351232) (w:wD) (J:Lx.Words w) :
  Calls prog 37 #[.string S] w (tU w Xf.val MdE (P2 S.data.toList)):=by
 have H:=Za (zky S N _ (J.below (Zz (Zq w Xf.obj) (Zq _ (.cells #[iP 0,iP 0,iP 0,iP 0] 47)))))
 obtain⟨R,I⟩:=xE (P2 S.data.toList)
 rw [<- I] at H ⊢
 clear J I
 go_enter func37,ntmps37
 go_wp2_with fail
 refine H.o.mono ?_
 intro e w2 O
 obtain⟨h,hm⟩:=O
 have F:=Za (Zz (Zz (Zq _ _) (Zq _ _)) h)
 have C:=Za ((h.block w.heap.size (by rw [xS,xS]; omega)).trans ((xA (by rw [xS]; omega)).trans (xL w _)))
 have A:=Za ((h.block (w.heap.size+1) (by rw [xS,xS]; omega)).trans (Bg w _ _))
 clear h
 obtain⟨⟨a0,a1⟩,⟨z0,z1⟩,hla⟩:=Nf (x:=Xf) C.o
 obtain⟨⟨d0,d1,d2,d3⟩,⟨g0,g1,g2,g3⟩,hld⟩:=Yh A.o
 rw [xS,xS] at hm
 rcases R with D | ⟨er,li,co⟩
 ·obtain⟨v,rfl,x,rfl,hv⟩:=hm
  have M:=Za hv;clear hv;go_wp2_with fail;have z:=(Q1 (b:=w.heap.size+1) (i:=w.heap.size) (by omega) (iP 0) (iP 0) (iP 0) (iP 0)).trans (Eh (x:=x) (y:=Xf) C.o);have j:=set4 ((Ag (x:=x) (b:=w.heap.size) (i:=w.heap.size+1) (by omega)).trans A.o) (iP 0) (iP 0) (iP 0) (iP 0);refine bodyPost_ret (Og rfl _ rfl z underlying40 (by kernel_rfl) rfl j underlying47 (by kernel_rfl)) rfl ⟨G4 (E5 F.o (xR) x) (by omega) _ _ _ _,_,rfl,x,rfl,?_⟩
  exact((M.o.putM (b:=w.heap.size) (by omega) x).set4 (b:=w.heap.size+1) (by omega) _ _ _ _).lower (by omega)
 ·subst hm
  go_wp2_with fail;have z:=(Q1 (b:=w.heap.size+1) (i:=w.heap.size) (by omega) (iP 0) (iP li) (iP co) (iP er)).trans (Eh (x:=Xf) (y:=Xf) C.o);have j:=set4 ((Ag (x:=Xf) (b:=w.heap.size) (i:=w.heap.size+1) (by omega)).trans A.o) (iP 0) (iP li) (iP co) (iP er);refine bodyPost_ret (Og rfl _ rfl z underlying40 (by kernel_rfl) rfl j underlying47 (by kernel_rfl)) rfl ⟨G4 (E5 F.o (xR) Xf) (by omega) _ _ _ _,rfl⟩
end
namespace Lx
open Go.RowKit
theorem dG {S:bA} (h:S.size=0):Gj S.data.toList=false:=by
 have:S.data.toList=[]:=List.eq_nil_of_length_eq_zero (by rw [Wz]; exact h)
 rw [this]
 rfl
theorem dF {S:bA} (h:0<S.size):Gj S.data.toList=(decide (S.size<=32) && Tw S[0] && S.data.toList.all Xm && !P5.contains S.data.toList):=by
 have e:=Ue S 0 h
 rw [List.drop_zero] at e
 have j:=Wz S
 rw [e] at j
 conv=>lhs; rw [e]
 rw [Gj,j,<- e]
theorem zhi (S:bA) (p:UInt8->Bool):(Wk S 0 p=S.size)↔S.data.toList.all p=true:=by
 unfold Wk
 rw [List.drop_zero,<- Wz,Nat.zero_add]
 generalize S.data.toList=l
 induction l with
 | nil=>simp
 | cons b r ih =>
  by_cases h:p b=true
  ·rw [List.takeWhile_cons_of_pos h]
   simp [h,<- ih]
  ·rw [List.takeWhile_cons_of_neg h]
   simp [h]
theorem name_c (S:bA) (V:S.size<=140737488351232) (w:wD) (I:Words w):Calls prog 36 #[.string S] w fun e w'=>e = .returned (.bool (Gj S.data.toList))/\w'=w:=by
 by_cases J:S.size=0
 ·have Y:S.toList.isEmpty=true:=by rw [pX]; simp [J]
  rw [dG J];clear I;go_enter func36,ntmps36;go_wp2;go_ret;exact⟨rfl,rfl⟩
 have Z:0<S.size:=by omega
 have Y:S.toList.isEmpty=false:=by rw [pX]; simp [J]
 rw [dF Z]
 by_cases hl:32<S.size
 ·have H:decide (S.size<=32)=false:=by simp; omega
  rw [H];clear H I;go_enter func36,ntmps36;go_wp2;go_ret;exact⟨rfl,rfl⟩
 have H:decide (S.size<=32)=true:=by simp; omega
 rw [H]
 clear H J
 have C:=wO S[0]
 cases hb:Tw S[0]
 ·rw [hb] at C
  have F:=Za C;clear C hb I;simp only [Bool.and_false,Bool.false_and];go_enter func36,ntmps36;go_wp2_with fail;refine(F.o _).mono ?_;rintro e w' ⟨rfl,rfl⟩;go_wp2;go_ret;exact⟨rfl,rfl⟩
 rw [hb] at C
 have F:=Za C
 have N:=aC S V 0 (by omega)
 have A:=zhi S Xm
 have j:=fun w h=>g9 S w h
 have T:=Za I
 obtain⟨r,M⟩:=xE (Wk S 0 Xm)
 rw [<- M] at N A
 have O:=Za N
 have hrle:r<=S.size:=by rw [M]; exact Oh S 0 Xm (by omega)
 clear C hb N M I
 cases ha:S.data.toList.all Xm
 ·have Z1:((r:Int) == (S.size:Int))=false:=by
   have:r≠S.size:=fun e=>by rw [A.1 e] at ha; cases ha
   simp;omega
  clear A ha j;simp only [Bool.and_false,Bool.false_and];go_enter func36,ntmps36;go_wp2_with fail;refine(F.o _).mono ?_;rintro e w' ⟨rfl,rfl⟩;go_wp2_with fail;refine(O.o _).mono ?_;rintro e w' ⟨rfl,rfl⟩;go_wp2;go_ret;exact⟨rfl,rfl⟩
 ·have Bh:((r:Int) == (S.size:Int))=true:=by
   have:=A.2 ha;simp;omega
  cases hq:P5.contains S.data.toList
  ·rw [hq] at j
   have z:=Za j;clear A ha j hq;go_enter func36,ntmps36;go_wp2_with fail;refine(F.o _).mono ?_;rintro e w' ⟨rfl,rfl⟩;go_wp2_with fail;refine(O.o _).mono ?_;rintro e w' ⟨rfl,rfl⟩;go_wp2_with fail;refine(z.o _ T.o).mono ?_;rintro e w' ⟨rfl,rfl⟩;go_wp2;go_ret;exact⟨rfl,rfl⟩
  ·rw [hq] at j
   have z:=Za j;clear A ha j hq;go_enter func36,ntmps36;go_wp2_with fail;refine(F.o _).mono ?_;rintro e w' ⟨rfl,rfl⟩;go_wp2_with fail;refine(O.o _).mono ?_;rintro e w' ⟨rfl,rfl⟩;go_wp2_with fail;refine(z.o _ T.o).mono ?_;rintro e w' ⟨rfl,rfl⟩;go_wp2;go_ret;exact⟨rfl,rfl⟩
end Lx
section
open Go.RowKit Go.Maps
theorem cR {B:Nat} {w w':wD} (h:Lx.Words w) (A:Below B w w') (z:0<B):Lx.Words w':=fun i j=>(A.cell (p:=aP 0 i) z).trans (h i j)
abbrev He (S X:bA):Obj := .cells #[.string S,.string X] 44
theorem gW:(prog.info? 40).map (fun i=>(i.zero,i.size,i.bytes))=some (some (.agg #[nP,nP]),2,48):=by kernel_rfl
theorem zch:(prog.info? 49).map (fun i=>(i.zero,i.size,i.bytes))=some (some (.map none),1,8):=by kernel_rfl
structure Kp (nb kb lo:Nat) (w w':wD):Prop where
 below:Below nb w w'
 mid:∀ b,kb<b->b<lo->w'.heap[b]?=w.heap[b]?
section
variable {nb kb lo B : Nat} {w w1 w2 : wD} {S : Nat -> Prop}
theorem Kp.refl (nb kb lo:Nat) (w:wD):Kp nb kb lo w w:=⟨Below.refl _ _,fun _ _ _=>rfl⟩
theorem Kp.trans (h:Kp nb kb lo w w1) (k:Kp nb kb lo w1 w2):Kp nb kb lo w w2:=⟨h.below.trans k.below,fun b j z=>(k.mid b j z).trans (h.mid b j z)⟩
theorem Kp.drew (h:Kp nb kb lo w w1):Kp nb kb lo w w1.drew:=⟨h.below.drew,h.mid⟩
theorem Kp.bl (h:Below w.heap.size w w1) (j:nb<=w.heap.size) (h2:lo<=w.heap.size):Kp nb kb lo w w1:=⟨h.mono j,fun b _ hb=>h.block b (by omega)⟩
theorem Kp.chg (h:Z0 B S w w1) (j:nb<=B) (z:∀ b,S b->b=kb∨b=nb∨lo<=b) (hk:nb<kb) (hl:lo<=w.heap.size):Kp nb kb lo w w1 :=
 ⟨h.below.mono j,fun b h1 h2=>h.keep b (by omega) fun e=>by rcases z b e with e | e | e <;> omega⟩
end
def tQ (lo kb nb:Nat) (w:wD) (L:L1) (e:Ending) (w':wD):Prop:=e = .returned (.tuple #[])/\(∃ vN vM vF vD xs fb,P1 lo kb nb w' L vN vM vF vD xs fb/\fb.length=L.mods.length)/\Kp nb kb lo w w'
theorem zQ {lo kb nb:Nat} {W:wD} {L:L1} {vN vM vF vD:vL} {xs:List MV} {fb:List Nat} (h:P1 lo kb nb W L vN vM vF vD xs fb):(W.cell? (aP kb 0)=some vN/\W.cell? (aP kb 1)=some vM/\W.cell? (aP kb 6)=some (.map (some nb))/\W.cell? (aP kb 7)=some vF/\W.cell? (aP kb 8)=some vD)/\(W.frozen? (aP kb 0)=false/\W.frozen? (aP kb 1)=false/\W.frozen? (aP kb 7)=false)/\kb<W.heap.size:=by
 obtain⟨⟨I,F,p2,p3,p4,p5,C,z,A⟩,j,H⟩:=Mc h.box
 exact⟨⟨I,F,C,z,A⟩,⟨j 0,j 1,j 7⟩,H⟩
theorem pV {lo kb nb:Nat} {W:wD} {L:L1} {vN vM vF vD:vL} {xs:List MV} {fb:List Nat} (h:P1 lo kb nb W L vN vM vF vD xs fb) (j:fb.length=L.mods.length) (d:Dg) (hn:L.ds.length<=1000) :
  Calls prog 23 #[qP kb,iP d.m,iP d.li,iP d.co,iP d.er] W (tQ lo kb nb W { L with ds:=L.ds ++ [d] }) :=
 (bV kb lo L.ds.length d _ W _ _ _ _ _ _ _ _ vD h.box h.rD h.lt2 h.lt3 (by omega)).mono fun e w' ⟨h1,vD',h2,h3,h4,h5⟩=>⟨h1,⟨vN,vM,vF,vD',xs,fb,h.tell h2 h3 h4 h5,j⟩,Kp.chg h5 (Nat.le_of_lt h.lt1) (fun b e=>e.elim .inl fun e => .inr (.inr (h.rD.lt b e).1)) h.lt1 h.lt3⟩
theorem zC {lo kb et k n:Nat} {W j:wD} {v:vL} {A:List vL} {cs:Array vL} {T:TypeId} {C:Obj} (h:W.heap[kb]?=some (.cells cs T)) (own:W.ownsRow lo et k v n A) (hk:kb<lo) (z:(W.alloc C).grownBy j v.ownBlock):j.heap[kb]?=some (.cells cs T) :=
 (z.block kb (by rw [xS]; have:=xB h; omega) (fun e=>by have:=(own.lt kb e.symm).1; omega)).trans ((xA (xB h)).trans h)
theorem Jy {lo kb et k n:Nat} {W h:wD} {v:vL} {C:List vL} {cs:Array vL} {T:TypeId} {z:Obj} (o:Nat) (v':vL) (A:W.heap[kb]?=some (.cells cs T)) (own:W.ownsRow lo et k v n C) (F:kb<lo) (hl:lo<=W.heap.size) (j:(W.alloc z).grownBy h v.ownBlock) :
  (h.setCell (aP kb o) v').heap[kb]?=some (.cells (cs.setIfInBounds o v') T)/\Z0 kb (fun b=>b=kb∨v.ownBlock=some b) W (h.setCell (aP kb o) v') :=
 ⟨Y1 (zC A own F j),Z0.set (Z0.grown ((Z0.refl _ _ _).alloc (by omega) _) j (by rw [xS]; omega) fun q e=>⟨by have:=(own.lt q e).1; omega,fun _ => .inr e⟩) (xR) (fun _ => .inl rfl) o v'⟩
theorem xP {W:wD} {j:Obj} {v v':vL} (h:v'.ownBlock=v.ownBlock∨v'.ownBlock=some (W.alloc j).heap.size):Jt W v v':=h.imp_right fun e=>⟨_,e,by rw [xS]; omega⟩
theorem bJ (lo kb nb m:Nat) (S X:bA) (L:L1) (vN vM vF vD:vL) (xs:List MV) (fb:List Nat) (w:wD) (hP:P1 lo kb nb w L vN vM vF vD xs fb) (hfb:fb.length=L.mods.length) (hw:Lx.Words w) (hv:0<nb)
  (hS:S.size<=140737488351232) (hX:X.size<=140737488351232) (hm:m<=1000) (N5:L.ds.length<=1000) (Kl:L.num.length<=1000) (hn3:L.names.length<=1000) (hn4:L.mods.length<=1000) :
  Calls prog 24 #[qP kb,iP m,.agg #[.string S,.string X]] w (tQ lo kb nb w (Tx m S.data.toList X.data.toList L)):=by
 have HW:=Za hw
 have HV:=Za hv
 have HF:=Za hfb
 have hSm:S.size<=maxLen:=by unfold maxLen; omega
 have HP1:=Za (hP.alloc (He S X))
 have U0:xQ (Below w.heap.size w (w.alloc (He S X))):=Zq w _
 have Z8:=(zQ hP).2.2
 have Yb:=hP.num.lt
 have yV:=hP.lt1
 have Gf:=hP.lt2
 have hlt3:=hP.lt3
 have Ks:xQ (∀ W,Below w.heap.size w W->Kp nb kb lo w W):=fun W h=>Kp.bl h (Nat.le_of_lt Yb) hlt3
 obtain⟨L',hL'⟩:=xE (Tx m S.data.toList X.data.toList L)
 rw [<- hL']
 have HL:=Za hL'
 clear hw hP hfb hL' hv
 go_enter func24,ntmps24
 go_wp2_with fail
 refine(Lx.name_c S hS _ (HW.o.below U0.o)).mono ?_
 rintro e w1 ⟨rfl,rfl⟩
 by_cases Mj:Gj S.data.toList=false
 ·have Ny:xQ (L'={ L with ds:=L.ds ++ [⟨m,1,1,10⟩] }):=by
   rw [HL.o];show Tx _ _ _ _=_;unfold Tx;rw [if_pos Mj]
  go_wp2_with fail;refine(pV HP1.o HF.o ⟨m,1,1,10⟩ N5).mono ?_;rintro e w2 ⟨rfl,H,h3⟩;have H2:=Za H;have H3:=Za h3;clear H h3;go_wp2_with fail;refine bodyPost_ret (results_none rfl _ _ _) rfl ⟨rfl,?_,(Ks.o _ U0.o).trans H3.o⟩;rw [Ny.o];exact H2.o
 ·have T:Gj S.data.toList=true:=by simpa using Mj
  rw [T]
  have Ny:xQ (L'=(match Yp L.num S.data.toList with
   | some _=>{ L with ds:=L.ds ++ [⟨m,1,1,8⟩] }
   | none=>match P2 X.data.toList with
    | .inr (e,li,co)=>{ L with num:=(S.data.toList,m) :: L.num,ds:=L.ds ++ [⟨m,li,co,e⟩] }
    | .inl D=>{ num:=(S.data.toList,m) :: L.num,names:=L.names ++ [S.data.toList],mods:=L.mods ++ [Ea D],ds:=L.ds })):=by
   rw [HL.o];show Tx _ _ _ _=_;unfold Tx;rw [if_neg (by simp [T])];rfl
  clear Mj T HL;go_wp2_with fail;have Gw:=Za HP1.o.drew;have s0:(w.alloc (He S X)).drew.cell? (aP w.heap.size 0)=some (.string S):=(Nd (xL w (He S X))).1.1;obtain⟨⟨p0,p1,p6,p7,p8⟩,_,_⟩:=zQ Gw.o;have hl:=nY Gw.o.num S hSm
  cases hk:Yp L.num S.data.toList with
  | some j =>
   rw [hk] at Ny hl;clear hk;go_region
   all_goals
    go_wp2_with fail;refine(pV Gw.o HF.o ⟨m,1,1,8⟩ N5).mono ?_;rintro e w2 ⟨rfl,H,h3⟩;have H2:=Za H;have H3:=Za h3;clear H h3;go_wp2_with fail;refine bodyPost_ret (results_none rfl _ _ _) rfl ⟨rfl,?_,((Ks.o _ U0.o).drew).trans H3.o⟩;rw [Ny.o];exact H2.o
  | none =>
   rw [hk] at Ny hl;clear hk
   apply xY (w.alloc (He S X)).drew
   ·go_region
    all_goals exact⟨rfl,rfl⟩
   ·go_wp2_with fail
    clear hl p0 p1 p6 p7 p8 s0;have s0:(w.alloc (He S X)).drew.drew.cell? (aP w.heap.size 0)=some (.string S):=(Nd (xL w (He S X))).1.1;have M0:=Za Gw.o.drew;obtain⟨⟨p0,p1,p6,p7,p8⟩,_,_⟩:=zQ M0.o;obtain⟨w3,Je,hnum,M⟩:=dX M0.o.num (by omega) S hSm m (by omega);have Sa:=Za (M0.o.put hnum M);have HG:=Za M
    have HZ:xQ (w.heap.size+1<=w3.heap.size):=by have:=M.size; rw [show(w.alloc (He S X)).drew.drew.heap.size=w.heap.size+1 from xS _ _] at this; exact this
    have Tn:xQ (Kp nb kb lo w w3):=((Ks.o _ U0.o).drew.drew).trans (Kp.chg (B:=nb) (S:=fun b=>b=nb) ((Z0.refl nb (fun b=>b=nb) _).grown M (by show nb<=(w.alloc (He S X)).heap.size; rw [xS]; omega) fun q e=>by injection e with e; exact⟨by omega,fun _=>e.symm⟩) (xR) (fun b e => .inr (.inl e)) yV (by show lo<=(w.alloc (He S X)).heap.size; rw [xS]; omega));have P9:xQ (w3.heap[w.heap.size]?=some (He S X)):=(M.block w.heap.size (by show w.heap.size<(w.alloc (He S X)).heap.size; rw [xS]; omega) (by intro e; injection e with e; omega)).trans (xL w (He S X))
    clear hnum M
    apply xY w3
    ·go_region
     all_goals exact⟨rfl,rfl⟩
    ·clear Je p0 p1 p6 p7 p8 s0
     obtain⟨⟨s0,s1⟩,_,L2⟩:=Nd P9.o;go_wp2_with fail;refine(zfi X hX w3 (cR HW.o Tn.o.below HV.o)).mono ?_;intro e w4 Zh
     cases hmt:P2 X.data.toList with
     | inr p =>
      obtain⟨er,li,co⟩:=p;rw [hmt] at Zh Ny;obtain⟨Fa,rfl⟩:=Zh;have Sb:=Za (((Sa.o.below Fa).alloc Xf.obj).alloc (.cells #[iP 0,iP li,iP co,iP er] 47));have Vm:xQ (Kp nb kb lo w ((w4.alloc Xf.obj).alloc (.cells #[iP 0,iP li,iP co,iP er] 47))):=Tn.o.trans (Kp.bl (Zz (Zz Fa (Zq _ _)) (Zq _ _)) (by have:=HZ.o; omega) (by have:=HZ.o; omega));obtain⟨⟨e0,e1,e2,e3⟩,_,Fd⟩:=Yh (Bg w4 Xf.obj (.cells #[iP 0,iP li,iP co,iP er] 47))
      have her:(er != 0)=true:=by simpa using (qV hmt).1
      have her':¬ er=0:=(qV hmt).1;clear Fa hmt;go_wp2_with fail;refine(pV Sb.o HF.o ⟨m,li,co,er⟩ N5).mono ?_;rintro e w6 ⟨rfl,H,h3⟩;have H2:=Za H;have H3:=Za h3;clear H h3;go_wp2_with fail;refine bodyPost_ret (results_none rfl _ _ _) rfl ⟨rfl,?_,Vm.o.trans H3.o⟩;rw [Ny.o];exact H2.o
     | inl D =>
      rw [hmt] at Zh Ny;obtain⟨Fa,v,rfl,y,rfl,hv⟩:=Zh;obtain⟨i0,hi0,Ur,ha1,Us⟩:=info_parts Ix;obtain⟨i1,hi1,Wq,Zs,Z5⟩:=info_parts gW;obtain⟨i2,Pg,Pe,Ti,Qd⟩:=info_parts zch;have I:=Za (dD hmt);obtain⟨o,ho⟩:=xE (Ea D)
      have HMo:xQ (MoV w3.heap.size w4 y o):=by rw [ho]; exact dA hv
      have HL3:xQ (L'={ num:=(S.data.toList,m) :: L.num,names:=L.names ++ [S.data.toList],mods:=L.mods ++ [o],ds:=L.ds }):=by rw [ho]; exact Ny.o
      rw [<- ho] at I;clear Ny;have Sb:=Za (((Sa.o.below Fa).alloc y.obj).alloc (.cells #[iP 0,iP 0,iP 0,iP 0] 47));have Ga:=Zz (Zz Fa (Zq w4 y.obj)) (Zq _ (.cells #[iP 0,iP 0,iP 0,iP 0] 47));have Vm:xQ (Kp nb kb lo w ((w4.alloc y.obj).alloc (.cells #[iP 0,iP 0,iP 0,iP 0] 47))):=Tn.o.trans (Kp.bl Ga (by have:=HZ.o; omega) (by have:=HZ.o; omega));have Js:xQ (((w4.alloc y.obj).alloc (.cells #[iP 0,iP 0,iP 0,iP 0] 47)).heap[w.heap.size]?=some (He S X)):=(Ga.block _ L2).trans P9.o
      have HY5:xQ (((w4.alloc y.obj).alloc (.cells #[iP 0,iP 0,iP 0,iP 0] 47)).heap[w4.heap.size]?=some y.obj):=(xA (by rw [xS]; omega)).trans (xL w4 _)
      have HM5:xQ (Xt M4 lo (Mn vN vM vF vD) ((w4.alloc y.obj).alloc (.cells #[iP 0,iP 0,iP 0,iP 0] 47)) (Q0 y) o) :=
       (Xt.new (rep:=M4) (wx:=w4) ⟨y,rfl,HMo.o⟩ Sa.o.lt3 (fun q J=>(Sa.o.apart J).2.1)).chg (Z0.of (B:=0) (S:=fun _=>False) (Zz (Zq w4 y.obj) (Zq _ _)) (xZ _)) (fun _ e=>e.elim) fun q J => .inl J
      have hyr:w.heap.size+1<=w4.heap.size:=by have:=HZ.o; have:=Fa.size; omega
      have N:∀ q,Mn vN vM vF vD q->q<w4.heap.size:=fun q J=>((Sa.o.below Fa).apart J).2.1
      have tL:=Za N
      have Ab:w4.heap.size<((w4.alloc y.obj).alloc (.cells #[iP 0,iP 0,iP 0,iP 0] 47)).heap.size:=by rw [xS,xS]; omega
      obtain⟨⟨e0,e1,e2,e3⟩,_,Fd⟩:=Yh (Bg w4 y.obj (.cells #[iP 0,iP 0,iP 0,iP 0] 47));clear Fa hmt hv ho Ga N;go_wp2_with fail;clear e0 e1 e2 e3 Fd s0 s1 L2;generalize (w4.alloc y.obj).alloc (.cells #[iP 0,iP 0,iP 0,iP 0] 47)=W5 at Sb Vm Js HY5 HM5 Ab ⊢;obtain⟨yb,hyb⟩:=xE w4.heap.size;rw [<- hyb] at HY5 tL Ab hyr ⊢;clear hyb;have rN5:W5.ownsRow lo 9 1 vN L.names.length (L.names.map Le):=Sb.o.rN
      have Y:=Za rN5;obtain⟨aN,cN,rfl⟩:=Yt rN5;clear rN5;obtain⟨⟨p0,p1,p6,p7,p8⟩,⟨f0,f1,f7⟩,hkl5⟩:=zQ Sb.o.drew;obtain⟨⟨s0,_⟩,_,L2⟩:=Nd Js.o;have s0d:W5.drew.cell? (aP w.heap.size 0)=some (.string S):=s0;have p0w:W5.cell? (aP kb 0)=some (.slice aN L.names.length cN):=p0;have Fh:kb<W5.heap.size:=hkl5;have Gg:lo<=W5.heap.size:=Sb.o.lt3;clear p1 p6 p7 p8 f1 f7
      apply n9 (fun p n y=>xQ (y.ownsRow lo 9 1 (.slice p (L.names.length+1) n) (L.names.length+1) (L.names.map Le ++ [.string S]))/\xQ ((W5.drew.alloc (.cells #[.string S] 9)).grownBy y (Value.slice aN L.names.length cN).ownBlock)/\xQ ((Value.slice p (L.names.length+1) n).ownBlock=(Value.slice aN L.names.length cN).ownBlock∨(Value.slice p (L.names.length+1) n).ownBlock=some (W5.drew.alloc (.cells #[.string S] 9)).heap.size)) (fun p n y=>y.setCell (aP kb 0) (.slice p (L.names.length+1) n))
      ·go_region_law(refine El rfl (.tmp 61) (.tmp 64) 25 rfl lo 9 i0 _ 1 16 underlying25 hi0 Ur ha1 Us rfl (by decide) _ _ _ (by first | rfl | simp [Act.eval,Act.put]) ((show W5.drew.ownsRow lo 9 1 (.slice aN L.names.length cN) L.names.length (L.names.map Le) from Y.o).alloc _) (aP W5.heap.size 0) 1 1 [.string S] (by first | rfl | simp [Act.eval,Act.put]) rfl (V2 _ _ _) (by simp [Value.oneCell']) (by unfold maxLen; omega) (by omega) (by show lo<=(W5.alloc _).heap.size; rw [xS]; omega) ?_; intro v' w6 Zr Zo Z4; obtain⟨aN',cN',rfl⟩:=Yt Zr; have Hm:=Za Zr; have Kt:=Za Zo; have V:=Za Z4; have HK6:=Za (zC (W:=W5.drew) Sb.o.box Y.o Gf Zo); obtain⟨⟨b0,_⟩,g0,hk6⟩:=Mc HK6.o; clear Zr Zo Z4)
       all_goals exact⟨aN',cN',w6,⟨Hm.o,Kt.o,V.o⟩,rfl,rfl⟩
      ·rintro aN' cN' w6 ⟨Hm,Kt,V⟩
       go_wp2_with fail;clear p0 f0 s0 L2 s0d p0w Fh hkl5;have F:=Jy (W:=W5.drew) 0 (.slice aN' (L.names.length+1) cN') Sb.o.box Y.o Gf Gg Kt.o
       have hSe:Le S.data.toList = .string S:=by simp [Le]
       have C:=Za (Sb.o.drew.pushN (s:=S.data.toList) (by simpa using F.1) (by rw [hSe]; exact ownsRow_setCell_below Hm.o (a:=aP kb 0) Gf _) (xP V.o) F.2)
       have yZ:∀ q,Mn (.slice aN' (L.names.length+1) cN') vM vF vD q->Mn (.slice aN L.names.length cN) vM vF vD q∨W5.heap.size<=q:=fun q J=>by
        rcases J with e | e
        ·exact((xP (W:=W5.drew) V.o).own e).imp_left .inl
        ·exact .inl (.inr e)
       have HM7:xQ (Xt M4 lo (Mn (.slice aN' (L.names.length+1) cN') vM vF vD) (w6.setCell (aP kb 0) (.slice aN' (L.names.length+1) cN')) (Q0 y) o) :=
        (HM5.o.chg (Z0.refl 0 (fun _=>False) W5).drew (fun _ e=>e.elim) fun q J => .inl J).chg F.2 (fun b e=>e.elim (fun e => .inl (by omega)) fun e => .inr (.inl e)) yZ
       have HY7:xQ ((w6.setCell (aP kb 0) (.slice aN' (L.names.length+1) cN')).heap[yb]?=some y.obj):=F.2.obj (show W5.drew.heap[yb]?=some y.obj from HY5.o) fun e=>e.elim (fun e=>by omega) fun e=>by have:=tL.o yb (.inl e); omega
       have HB7:xQ (Kp nb kb lo w (w6.setCell (aP kb 0) (.slice aN' (L.names.length+1) cN'))):=Vm.o.drew.trans (Kp.chg F.2 (by omega) (fun b e=>e.elim .inl fun e => .inr (.inr (Y.o.lt b e).1)) yV Gg)
       have Vz:xQ (∀ q,Mn (.slice aN' (L.names.length+1) cN') vM vF vD q->q≠yb):=fun q J=>by
        rcases yZ q J with h | h
        ·have:=tL.o q h
         omega
        ·omega
       clear F V Hm Kt Sb Vm HM5 HY5 Js Y yZ tL;generalize w6.setCell (aP kb 0) (.slice aN' (L.names.length+1) cN')=W7 at C HM7 HY7 HB7 ⊢;have rM7:W7.ownsRow lo 40 2 vM L.mods.length (xs.flatMap Q0):=C.o.rM;have Z:=Za rM7;obtain⟨aM,cM,rfl⟩:=Yt rM7;clear rM7 Ab Gg;obtain⟨⟨p0,p1,p6,p7,p8⟩,⟨f0,f1,f7⟩,hkl7⟩:=zQ C.o.drew;obtain⟨⟨y0,y1⟩,_,Ab⟩:=Nd HY7.o;have y0d:W7.drew.cell? (aP yb 0)=some (.slice y.ia y.il y.ic):=y0
       have y1d:W7.drew.cell? (aP yb 1)=some (.slice y.da y.dl y.dc):=y1;have p1w:W7.cell? (aP kb 1)=some (.slice aM L.mods.length cM):=p1;have Fh:kb<W7.heap.size:=hkl7;have Gg:lo<=W7.heap.size:=C.o.lt3;clear p0 p6 p7 p8 f0 f7
       apply n9 (fun p n z=>xQ (z.ownsRow lo 40 2 (.slice p (L.mods.length+1) n) (L.mods.length+1) (xs.flatMap Q0 ++ [.slice y.ia y.il y.ic,.slice y.da y.dl y.dc]))/\xQ ((W7.drew.alloc (.cells #[.slice y.ia y.il y.ic,.slice y.da y.dl y.dc] 40)).grownBy z (Value.slice aM L.mods.length cM).ownBlock)/\xQ ((Value.slice p (L.mods.length+1) n).ownBlock=(Value.slice aM L.mods.length cM).ownBlock∨(Value.slice p (L.mods.length+1) n).ownBlock=some (W7.drew.alloc (.cells #[.slice y.ia y.il y.ic,.slice y.da y.dl y.dc] 40)).heap.size)) (fun p n z=>z.setCell (aP kb 1) (.slice p (L.mods.length+1) n))
       ·go_region_law(refine El rfl (.tmp 74) (.tmp 76) 26 rfl lo 40 i1 _ 2 48 underlying26 hi1 Wq Zs Z5 rfl (by decide) _ _ _ (by first | rfl | simp [Act.eval,Act.put]) ((show W7.drew.ownsRow lo 40 2 (.slice aM L.mods.length cM) L.mods.length (xs.flatMap Q0) from Z.o).alloc _) (aP W7.heap.size 0) 1 1 [.slice y.ia y.il y.ic,.slice y.da y.dl y.dc] (by first | rfl | simp [Act.eval,Act.put]) rfl (V2 _ _ _) (by simp [Value.oneCell']) (by unfold maxLen; omega) (by omega) (by show lo<=(W7.alloc _).heap.size; rw [xS]; omega) ?_; intro v' w8 Zr Zo Z4; obtain⟨aM',cM',rfl⟩:=Yt Zr; have HO8:=Za Zr; have HG8:=Za Zo; have HL8:=Za Z4; have HK8:=Za (zC (W:=W7.drew) C.o.box Z.o Gf Zo); obtain⟨⟨_,b1,_⟩,g1,hk8⟩:=Mc HK8.o; clear Zr Zo Z4)
        all_goals exact⟨aM',cM',w8,⟨HO8.o,HG8.o,HL8.o⟩,rfl,rfl⟩
       ·rintro aM' cM' w8 ⟨HO8,HG8,HL8⟩
        go_wp2_with fail;clear p1 f1 y0 y1 Ab y0d y1d p1w Fh hkl7;have F:=Jy (W:=W7.drew) 1 (.slice aM' (L.mods.length+1) cM') C.o.box Z.o Gf Gg HG8.o;have A:=Za (C.o.drew.pushM (x:=y) (o:=o) (by simpa using F.1) (ownsRow_setCell_below HO8.o (a:=aP kb 1) Gf _) (xP HL8.o) F.2 (HM7.o.chg (Z0.refl 0 (fun _=>False) W7).drew (fun _ e=>e.elim) fun q J => .inl J) I.o (Nat.le_of_eq HF.o))
        have HY9:xQ ((w8.setCell (aP kb 1) (.slice aM' (L.mods.length+1) cM')).heap[yb]?=some y.obj):=F.2.obj (show W7.drew.heap[yb]?=some y.obj from HY7.o) fun e=>e.elim (fun e=>by omega) fun e=>Vz.o yb (.inr (.inl e)) rfl
        have Gs:xQ (Kp nb kb lo w (w8.setCell (aP kb 1) (.slice aM' (L.mods.length+1) cM'))):=HB7.o.drew.trans (Kp.chg F.2 (by omega) (fun b e=>e.elim .inl fun e => .inr (.inr (Z.o.lt b e).1)) yV Gg);clear F HL8 HO8 HG8 C HB7 HM7 HY7 Z Vz;generalize w8.setCell (aP kb 1) (.slice aM' (L.mods.length+1) cM')=W9 at A HY9 Gs ⊢
        have hlx:xs.length<(xs ++ [y]).length:=by simp
        have hlm:xs.length<(L.mods ++ [o]).length:=by
         have:xs.length=L.mods.length:=by simpa using A.o.xl
         simp; omega
        have hmo:M4 lo W9.drew (Q0 y) o:=by
         have h:=(A.o.drew.mods xs.length hlx hlm).now Cn
         have e1:(xs ++ [y])[xs.length]=y:=by simp
         have e2:(L.mods ++ [o])[xs.length]'hlm=o:=by
          have:xs.length=L.mods.length:=by simpa using A.o.xl
          simp [this]
         have h':M4 lo W9.drew (Q0 (xs ++ [y])[xs.length]) ((L.mods ++ [o])[xs.length]'hlm):=h;rw [e1,e2] at h';exact h'
        obtain⟨y',J4,Um,Ws,hb1',hb2',hq1,hq2,_⟩:=hmo
        have hda:y'.da=y.da:=by injection J4 with _ J4; injection J4 with J4 _; injection J4 with h1 H h3; exact h1.symm
        have hdl':y.dl=o.ds.length:=by injection J4 with _ J4; injection J4 with J4 _; injection J4 with h1 H h3; rw [H]; exact Ws
        have HC:xQ (Calls prog 38 #[.slice y.da y.dl y.dc] W9.drew fun e w'=>e = .returned (.map (some W9.heap.size))/\xQ (Te w' W9.heap.size (Mt o)/\Below W9.drew.heap.size W9.drew w')):=by
         rw [hdl']
         exact(zay lo y.da y.dc o.ds W9.drew (hda ▸ hq2) hb2' fun d hd=>(I.o.2 d hd).1).mono fun e w' h=>h
        have rF9:W9.ownsRow lo 49 1 vF fb.length (fb.map fun b => .map (some b)):=A.o.rF;have RF9:=Za rF9;obtain⟨aF,cF,rfl⟩:=Yt rF9;clear rF9 hq1 hq2 J4 Um Ws hb1' hb2' hda hdl' hlx hlm Gg;obtain⟨⟨p0,p1,p6,p7,p8⟩,⟨f0,f1,f7⟩,hkl9⟩:=zQ A.o.drew;obtain⟨⟨y0,y1⟩,_,Ab⟩:=Nd HY9.o;have y1d:W9.drew.cell? (aP yb 1)=some (.slice y.da y.dl y.dc):=y1;have p7w:W9.cell? (aP kb 7)=some (.slice aF fb.length cF):=p7
        have Fh:kb<W9.heap.size:=hkl9;have Gg:lo<=W9.heap.size:=A.o.lt3
        have hfl:fb.length<=1000:=by have:=HF.o; omega
        clear p0 p1 p6 p8 f0 f1 y0
        go_region_law(first
          | (go_simp; go_at_call 38; refine HC.o.mono ?_; rintro e w10 ⟨rfl,HX⟩; have O:=Za (A.o.drew.below HX.o.2); obtain⟨⟨_,_,_,t7,_⟩,⟨_,_,u7⟩,hk10⟩:=zQ O.o)
          | (refine El rfl (.tmp 85) (.tmp 89) 50 rfl lo 49 i2 _ 1 8 underlying50 Pg Pe Ti Qd rfl (by decide) _ _ _ (by first | rfl | simp [Act.eval,Act.put]) (O.o.rF.alloc _) (aP w10.heap.size 0) 1 1 [.map (some W9.heap.size)] (by first | rfl | simp [Act.eval,Act.put]) rfl (V2 _ _ _) (by simp [Value.oneCell']) (by unfold maxLen; omega) (by omega) (by have:=O.o.lt3; show lo<=(w10.alloc _).heap.size; rw [xS]; omega) ?_; intro v' w11 Zr Zo Z4; obtain⟨aF',cF',rfl⟩:=Yt Zr; have HO11:=Za Zr; have HG11:=Za Zo; have HL11:=Za Z4; have HK11:=Za (zC (W:=w10) O.o.box O.o.rF Gf Zo); obtain⟨⟨_,_,_,_,_,_,_,b7,_⟩,g7,hk11⟩:=Mc HK11.o; clear Zr Zo Z4))
        all_goals
         go_wp2_with fail;have F:=Jy (W:=w10) 7 (.slice aF' (fb.length+1) cF') O.o.box O.o.rF Gf O.o.lt3 HG11.o
         have hlast:∀ H:fb.length<(L.mods ++ [o]).length,(L.mods ++ [o])[fb.length]=o:=fun H=>by
          have:=HF.o;simp [this]
         have HP12:=Za (O.o.pushF (b:=W9.heap.size) (by simpa using F.1) (ownsRow_setCell_below HO11.o (a:=aP kb 7) Gf _) (xP HL11.o) F.2 (fun H=>by rw [show(L.mods ++ [o])[fb.length]=o from hlast H]; exact HX.o.1) Gg);refine bodyPost_end (results_none rfl _ _ _) rfl ⟨rfl,?_,(Gs.o.drew.trans (Kp.bl HX.o.2 (by show nb<=W9.heap.size; omega) Gg)).trans (Kp.chg F.2 (by omega) (fun b e=>e.elim .inl fun e => .inr (.inr (O.o.rF.lt b e).1)) yV O.o.lt3)⟩
         rw [HL3.o];exact⟨_,_,_,_,_,_,HP12.o,by have:=HF.o; simp [this]⟩
abbrev G1:=ByteArray×ByteArray
abbrev Y3 (l:List G1):List (Bs×Bs):=l.map fun p=>(p.1.data.toList,p.2.data.toList)
def Kz (B:Nat) (w:wD) (a:oA) (l:List G1):Prop:=l=[]∨∃ b o,a=some (aP b o)/\b<B/\∀ i (h:i<l.length),w.cell? (aP b (o+i*2))=some (.string l[i].1)/\w.cell? (aP b (o+i*2+1))=some (.string l[i].2)
theorem Kz.below {B:Nat} {w w':wD} {a:oA} {l:List G1} (h:Kz B w a l) (C:Below B w w'):Kz B w' a l:=by
 rcases h with h | ⟨b,o,e,j,A⟩
 ·exact .inl h
 ·exact .inr ⟨b,o,e,j,fun i z=>⟨(C.cell j).trans (A i z).1,(C.cell j).trans (A i z).2⟩⟩
theorem Kz.mono {B B':Nat} {w:wD} {a:oA} {l:List G1} (h:Kz B w a l) (A:B<=B'):Kz B' w a l:=by
 rcases h with h | ⟨b,o,e,z,j⟩
 ·exact .inl h
 ·exact .inr ⟨b,o,e,xT z A,j⟩
theorem sX (x:Bs×Bs):∀ (l:List (Bs×Bs)) (m:Nat) (s:L1),Q5 m (l ++ [x]) s=Tx (m+l.length) x.1 x.2 (Q5 m l s)
 | [],m,s=>rfl
 | y :: l,m,s=>by
  show Q5 (m+1) (l ++ [x]) _=_;rw [sX x l];simp only [Q5,List.length_cons];rw [show m+1+l.length=m+(l.length+1) by omega]
theorem zdn (m:Nat) (a b:Bs) (s:L1):(Tx m a b s).ds.length<=s.ds.length+1/\(Tx m a b s).num.length<=s.num.length+1/\(Tx m a b s).names.length<=s.names.length+1/\(Tx m a b s).mods.length<=s.mods.length+1:=by
 unfold Tx
 split
 ·refine⟨?_,?_,?_,?_⟩ <;> simp
 ·split
  ·refine⟨?_,?_,?_,?_⟩ <;> simp
  ·split
   ·refine⟨?_,?_,?_,?_⟩ <;> simp
   ·refine⟨?_,?_,?_,?_⟩ <;> simp
theorem sU:∀ (l:List (Bs×Bs)) (m:Nat) (s:L1),(Q5 m l s).ds.length<=s.ds.length+l.length/\(Q5 m l s).num.length<=s.num.length+l.length/\(Q5 m l s).names.length<=s.names.length+l.length/\(Q5 m l s).mods.length<=s.mods.length+l.length
 | [],_,_=>⟨xR,xR,xR,xR⟩
 | x :: l,m,s=>by
  have h1:=sU l (m+1) (Tx m x.1 x.2 s);have h2:=zdn m x.1 x.2 s;show(Q5 (m+1) l _).ds.length<=_/\_;simp only [List.length_cons,Q5];omega
abbrev L0:L1:=⟨[],[],[],[]⟩
theorem zgq (lo kb nb:Nat) (a:oA) (cap:Nat) (l:List G1) (vN vM vF vD:vL) (w:wD) (T:P1 lo kb nb w L0 vN vM vF vD [] []) (hw:Lx.Words w) (hv:0<nb) (j:Kz nb w a l)
  (hl:l.length<=1000) (z:∀ p ∈ l,p.1.size<=140737488351232/\p.2.size<=140737488351232) :
  Calls prog 12 #[qP kb,.slice a l.length cap] w (tQ lo kb nb w (Y6 (Y3 l))):=by
 have J:=Za T
 have HW:=Za hw
 have HS:=Za j
 have HZ:=Za z
 have HV:=Za hv
 have H:(Y3 l).length=l.length:=by simp
 have Yb:=T.num.lt
 clear T hw z hv
 by_cases Ja:(16:Int)<(l.length:Int)
 ·have M:xQ (Y6 (Y3 l)={ L0 with ds:=[] ++ [⟨16,1,1,19⟩] }):=by
   show Y6 _=_;unfold Y6;rw [if_pos (by omega)];rfl
  clear j;go_enter func12,ntmps12;go_wp2_with fail;refine(pV J.o rfl ⟨16,1,1,19⟩ (by simp)).mono ?_;rintro e w2 ⟨rfl,F,A⟩;have Z:=Za F;have H3:=Za A;clear F A;go_wp2_with fail;refine bodyPost_ret (results_none rfl _ _ _) rfl ⟨rfl,?_,H3.o⟩;rw [M.o];exact Z.o
 ·have M:xQ (Y6 (Y3 l)=Q5 0 (Y3 l) L0):=by
   show Y6 _=_;unfold Y6;rw [if_neg (by omega)]
  rcases j with he | ⟨b,o,rfl,hb,hc⟩
  ·subst he
   go_enter func12,ntmps12;go_wp2_with fail
   go_loopw [13] (fun i wr=>i=iP 0/\wr=w) (fun _ _=>0)
   case atStart=>exact⟨rfl,rfl⟩
   case round =>
    obtain⟨rfl,rfl⟩:=hrel;go_wp2_with fail;refine bodyPost_end (results_none rfl _ _ _) rfl ⟨rfl,?_,Kp.refl _ _ _ _⟩;have O:Y6 []=L0:=M.o;rw [O];exact⟨_,_,_,_,_,_,J.o,rfl⟩
  ·have HC:=Za hc
   clear hc;go_enter func12,ntmps12;go_wp2_with fail
   go_loopw [13] (fun i wr=>∃ k:Nat,k<=l.length/\i=iP k/\xQ (∃ vN vM vF vD xs fb,P1 lo kb nb wr (Q5 0 ((Y3 l).take k) L0) vN vM vF vD xs fb/\fb.length=(Q5 0 ((Y3 l).take k) L0).mods.length)/\xQ (Kp nb kb lo w wr)) (fun i _=>l.length - (intOf i).toNat)
   case atStart=>exact⟨0,by omega,rfl,⟨vN,vM,vF,vD,[],[],J.o,rfl⟩,Kp.refl _ _ _ _⟩
   case round =>
    obtain⟨k,hk,rfl,HA,h⟩:=hrel;by_cases N:k<l.length
    ·have Un:(k:Int)<(l.length:Int):=by omega
     have q0:wr.cell? (aP b (o+k*2))=some (.string l[k].1):=(h.o.below.cell hb).trans (HC.o k N).1;have q1:wr.cell? (aP b (o+k*2+1))=some (.string l[k].2):=(h.o.below.cell hb).trans (HC.o k N).2;have z:=HZ.o l[k] (List.getElem_mem N);have V:=sX (Y3 l)[k] ((Y3 l).take k) 0 L0;rw [List.take_append_getElem (by rw [H]; exact N),List.length_take,Nat.min_eq_left (by omega),Nat.zero_add,List.getElem_map] at V
     have Y:=sU ((Y3 l).take k) 0 L0;rw [List.length_take,Nat.min_eq_left (by omega)] at Y;have Xc:=Za V;have I:=Za Y;obtain⟨s,j⟩:=xE (l[k]);rw [<- j] at q0 q1 z Xc;have C:=Za z;obtain⟨vN,vM,vF,vD,xs,fb,hp,hf⟩:=HA.o;have Gw:=Za (hp.alloc (He s.1 s.2));have Hj:=Za hf
     have Vc:nb<=wr.heap.size:=by have:=h.o.below.size; omega
     have Xa:xQ (Kp nb kb lo w (wr.alloc (He s.1 s.2))):=h.o.trans (Kp.bl (Zq _ _) Vc (by have:=h.o.below.size; have:=J.o.lt3; omega));clear j V Y z hp hf;go_wp2_with fail;refine(bJ lo kb nb k s.1 s.2 _ _ _ _ _ _ _ _ Gw.o Hj.o (cR HW.o Xa.o.below HV.o) HV.o C.o.1 C.o.2 (by omega) (by have:=I.o.1; simp at this ⊢; omega) (by have:=I.o.2.1; simp at this ⊢; omega) (by have:=I.o.2.2.1; simp at this ⊢; omega) (by have:=I.o.2.2.2; simp at this ⊢; omega)).mono ?_
     rintro e w2 ⟨rfl,F,A⟩;have Z:=Za F;have H3:=Za A;clear F A;go_wp2_with fail
     go_roundw
     case rel =>
      refine⟨k+1,by omega,by go_num,?_,Xa.o.trans H3.o⟩;show ∃ vN vM vF vD xs fb,_;rw [Xc.o];exact Z.o
     case measure=>simp [intOf]; omega
    ·have Un:¬ (k:Int)<(l.length:Int):=by omega
     have e:k=l.length:=by omega
     subst e
     have Vq:xQ (∃ vN vM vF vD xs fb,P1 lo kb nb wr (Y6 (Y3 l)) vN vM vF vD xs fb/\fb.length=(Y6 (Y3 l)).mods.length):=by
      have:=HA.o;rw [List.take_of_length_le (by rw [H]; exact xR)] at this;rw [M.o];exact this
     go_wp2_with fail;exact bodyPost_end (results_none rfl _ _ _) rfl ⟨rfl,Vq.o,h.o⟩
end
section
open Go.ChangeShapes Go.WideShapes Go.ChangeAt Go.RowKit
open Go.ChangeMaps (open_string shut_string)
theorem nF:laidOutB prog=true:=by kernel_rfl
theorem own:ownKnob prog.godebug=none:=by kernel_rfl
def xJ:List (String×DataW Unit):=Rows.linkModulesRow.laid
theorem zal (os:Os) (args:Array vL):laidMetH prog xJ ((World.doorLaid prog 150 os).forCall (fun _ _=>0) ⟨#[],args,[]⟩).memory :=
 laidMetH_of_parts3 (fuel:=8) (laidMet_of_run' 8 (by kernel_rfl) (by kernel_rfl)) (by kernel_rfl) (by kernel_rfl)
def cL : String := (xJ.map (·.1)).headD "none"
theorem cQ:prog.globalNamed cL=some 0:=by kernel_rfl
theorem zlf:(prog.globals[0]?).map (·.type)=some 129:=by kernel_rfl
theorem zlc:(Rows.laid_gradus_lex_ownWords:DataW Unit) = .agg (P5.map fun t => .lit (.string t)):=by kernel_rfl
theorem oT {H:Type} {enc:TypeId×vL->H} {w:wD} {j:Nat} {T:Nat->Bool} {z:Bool} {fuel:Nat} {cs:List vL} {p:List MemPlace}
  (h:DataW.trod enc prog w j T z fuel 129 cs=some (.agg (P5.map fun t => .lit (.string t)),p)):cs=P5.map fun t=>Value.string ⟨t.toArray⟩:=by
 have O:=underlying129
 have A:prog.cellsOf 9=1:=by kernel_rfl
 have C:prog.cellsOf 129=25:=by kernel_rfl
 cases fuel with
 | zero=>simp [DataW.trod] at h
 | succ fuel =>
  simp only [DataW.trod,O,A,C,Nat.mul_one] at h
  split at h
  ·rename_i hl
   obtain⟨xs,hm,Y⟩:=Option.map_eq_some_iff.1 h
   have F:xs.map (·.1)=P5.map fun t=>(DataW.lit (.string t):DataW H):=by
    have:=congrArg Prod.fst Y
    simpa using this
   have Aa:xs.length=25:=by simpa using Lib.mapM_length hm
   apply List.ext_getElem?
   intro i;by_cases J:i<25
   ·obtain⟨b,V,Z⟩:=Lib.mapM_at hm i i (by simp [J])
    obtain⟨s,N,rfl,_⟩:=DataW.trod_string underlying9 Z
    have M:cs[i]?=some (.string s):=by
     have:=congrArg (·[0]?) N
     simpa [List.getElem?_take,List.getElem?_drop] using this
    have I:(xs.map (·.1))[i]?=some (DataW.lit (.string s.data.toList):DataW H):=by simp [V]
    rw [F] at I;simp only [List.getElem?_map,Option.map_eq_some_iff,DataW.lit.injEq,Lit.string.injEq] at I;obtain⟨t,ht',rfl⟩:=I;rw [M,List.getElem?_map,ht'];rfl
   ·rw [List.getElem?_eq_none (by omega),List.getElem?_eq_none (by simp only [List.length_map]; exact Nat.le_of_not_lt J)]
  ·cases h
theorem zji {W:wD} (h:laidMetH prog xJ W):Lx.Words W:=by
 rw [MakeChecks.laidMetH_plain _ _ _ (by kernel_rfl)] at h
 have z:laidMet prog [(cL,.agg (P5.map fun t => .lit (.string t)))] W:=by
  rw [<- zlc];exact h
 obtain⟨ps,⟨g',t',cs,fuel,p,q,Qp,ht',hvar,hd,_,_⟩,_⟩:=z
 obtain rfl:=Option.some.inj (cQ.symm.trans Qp)
 obtain rfl:=Option.some.inj (zlf.symm.trans ht')
 obtain rfl:cs=(P5.map fun t=>uP t).toArray:=by rw [<- oT hd]
 intro i j
 have:=World.var?_cell cQ hvar i
 rw [this]
 simp only [List.getElem?_toArray,List.getElem?_map]
 rw [List.getElem?_eq_getElem (show i<P5.length from j)]
 unfold Lx.wordB
 rw [List.getD_eq_getElem?_getD,List.getElem?_eq_getElem (show i<P5.length from j)]
 rfl
theorem eF {α:Type} {l:List α} (h:l.length=2):∃ a b,l=[a,b]:=by
 match l,h with
 | [a,b],_=>exact⟨a,b,rfl⟩
theorem zja:∃ f0 f1:Field,prog.underlying 44=some (.struct #[f0,f1])/\(f0.type=9/\f0.offset=0)/\(f1.type=9/\f1.offset=1):=⟨_,_,underlying44,⟨rfl,rfl⟩,⟨rfl,rfl⟩⟩
theorem zjb {H:Type} {enc:TypeId×vL->H} {w:wD} {fuel:Nat} {cs:List vL} {x:DataW H×List MemPlace} (h:DataW.trod enc prog w 0 (fun _=>true) true fuel 22 cs=some x) (hw:∀ m ∈ x.1.weights prog 22,m<=reachBytes) :
  ∃ a cap l,cs=[.slice a (List.length l) cap]/\Kz w.heap.size w a l/\(∀ p ∈ l,p.1.size<=reachBytes/\p.2.size<=reachBytes)/\l.length<=reachBytes:=by
 have uN:=underlying22
 have cT:prog.cellsOf 44=2:=by kernel_rfl
 have cS:prog.cellsOf 9=1:=by kernel_rfl
 have bT:prog.bytesOf 44=32:=by kernel_rfl
 obtain⟨f0,f1,uT,⟨t0,o0⟩,⟨t1,o1⟩⟩:=zja
 rcases DataW.trod_slice uN h with⟨rfl,rfl⟩ | ⟨a,len,cap,z,I,m,_,rfl,rfl,_,Bl,_,hlen,Fd,hsp,_⟩
 ·exact⟨none,0,[],rfl,.inl rfl,(fun _ h=>nomatch h),xZ _⟩
 ·have Xe:=(hsp rfl).1
  have Cc:cap<=reachBytes:=by
   have C:(z.length+I.length)*prog.bytesOf 44<=reachBytes:=hw _ (by
    rw [DataW.weights,uN]
    simp)
   rw [bT] at C;refine Nat.le_trans ?_ C
   have:cap<=z.length+I.length:=by omega
   exact Nat.le_trans this (Nat.le_mul_of_pos_right _ (by decide))
  have J:∀ i,i<len->∃ O M:ByteArray,w.cell? (a.add (i*2))=some (.string O)/\w.cell? ((a.add (i*2)).add 1)=some (.string M)/\O.size<=reachBytes/\M.size<=reachBytes:=by
   intro i F;have C:=Fd i F
   have h2:i<z.length:=by omega
   rw [List.getElem?_eq_getElem h2,Option.bind_eq_some_iff,cT] at C;obtain⟨cs',p1,p2⟩:=C;obtain⟨_,Uo,p3⟩:=World.cells?_some p1;obtain⟨xs,n,_,hx,hl,Aa,N⟩:=DataW.trod_struct uT p2;have hxl2:xs.length=2:=Aa;obtain⟨y0,y1,rfl⟩:=eF hxl2;have g0:=N 0 f0 rfl;have g1:=N 1 f1 rfl;rw [t0,o0,cS] at g0;rw [t1,o1,cS] at g1
   have hwi:∀ A ∈ (z[i].1).weights prog 44,A<=reachBytes:=fun A hm=>hw A (by
    rw [DataW.weights,uN]
    exact xW _ (List.mem_append_left _ (cG (d:=z[i].1) (List.mem_map.2 ⟨_,List.getElem_mem h2,rfl⟩) _ hm)))
   rw [hx] at hwi
   have Z:∀ (j:Nat) (y:DataW H×List MemPlace),j<2->[y0,y1][j]?=some y->∀ A ∈ y.1.weights prog 9,A<=reachBytes:=by
    intro j y hj hy A hm;refine hwi A ?_;rw [DataW.weights,uT];refine DataW.weights_mem_each (j:=j) (t:=9) (d:=y.1) ?_ ?_ A hm
    ·show [f0.type,f1.type][j]?=some 9
     rw [t0,t1]
     match j,hj with
     | 0,_=>rfl
     | 1,_=>rfl
    ·rw [List.getElem?_map,hy]
     rfl
   obtain⟨c0,c1,J2⟩:=eF Uo;subst J2;obtain⟨O,Jf,es0,_⟩:=DataW.trod_string underlying9 (show DataW.trod enc prog w 0 (fun _=>true) true _ 9 [c0]=some y0 from g0);obtain⟨M,Xq,es1,_⟩:=DataW.trod_string underlying9 (show DataW.trod enc prog w 0 (fun _=>true) true _ 9 [c1]=some y1 from g1);injection Jf with Jf _;injection Xq with Xq _;subst Jf Xq;have z0:=p3 0 (by omega)
   have hz:(a.add (i*2)).add 0=a.add (i*2):=by simp [Addr.add]
   rw [hz] at z0;have l0:=Z 0 y0 (by omega) rfl O.data.toList.length (by rw [es0,DataW.weights]; exact List.mem_singleton.2 rfl);have l1:=Z 1 y1 (by omega) rfl M.data.toList.length (by rw [es1,DataW.weights]; exact List.mem_singleton.2 rfl);rw [Wz] at l0 l1;exact⟨O,M,z0,p3 1 (by omega),l0,l1⟩
  by_cases h0:len=0
  ·subst h0
   exact⟨some a,cap,[],rfl,.inl rfl,(fun _ h=>nomatch h),xZ _⟩
  ·obtain⟨b,o,spot⟩:=a
   obtain⟨_,_,Pe,_⟩:=J 0 (by omega)
   have V:spot=none:=by simpa [Addr.add] using World.cell?_spot Pe
   subst V
   have Rs:∀ i,(aP b o).add i=(aP b (o+i)):=fun i=>by unfold Addr.add; split <;> simp_all
   have T:∀ i j,((aP b (o+i)):Addr).add j=(aP b (o+i+j)):=fun i j=>by unfold Addr.add; split <;> simp_all
   have hg:∀ i,∃ p:G1,i<len->w.cell? (aP b (o+i*2))=some (.string p.1)/\w.cell? (aP b (o+i*2+1))=some (.string p.2)/\p.1.size<=reachBytes/\p.2.size<=reachBytes:=fun i=>by
    by_cases F:i<len
    ·obtain⟨O,M,h0,C,h2,h3⟩:=J i F
     rw [Rs] at h0;rw [Rs,T] at C;exact⟨(O,M),fun _=>⟨h0,C,h2,h3⟩⟩
    ·exact⟨(ByteArray.empty,ByteArray.empty),fun h=>absurd h F⟩
   obtain⟨f,N⟩:=Classical.axiomOfChoice hg;have Y:=(N 0 (by omega)).1;refine⟨some (aP b o),cap,(List.range len).map f,by simp,.inr ⟨b,o,rfl,World.block_lt_of_cell? w _ Y,fun i F=>?_⟩,fun p hp=>?_,by rw [List.length_map,List.length_range]; exact Nat.le_trans Bl Cc⟩
   ·have U5:i<len:=by simpa using F
    rw [List.getElem_map,List.getElem_range];exact⟨(N i U5).1,(N i U5).2.1⟩
   ·obtain⟨i,F,rfl⟩:=List.mem_map.1 hp
    exact(N i (List.mem_range.1 F)).2.2
end
end Go.Proofs.YtoppemkjhhlegaaGreatDoor
