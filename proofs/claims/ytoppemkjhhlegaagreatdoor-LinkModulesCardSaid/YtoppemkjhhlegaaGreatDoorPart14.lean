/- Part. -/
import Derived.Deep.RegionLaw
import Derived.Test.YtoppemkjhhlegaaGreatDoorPart13
set_option maxRecDepth 100000
set_option maxHeartbeats 4000000
namespace Go.Proofs.YtoppemkjhhlegaaGreatDoor
open Go.Proofs.Tryz
section
open Go.RowKit
attribute [local go_sem ↓] Go.wp_at_zero Go.wp_at_succ
theorem zef (pb tb cap:Nat) (ts:List Tok) (ok:Ym ts) (w:wD) (h:Ps w pb tb cap ts 0 0) :
  Calls prog 52 #[qP pb] w (Ya pb tb cap ts 0 w tO (I5 ts)):=by
 have OK:=Za ok
 have hp:=h.ltp
 have X0:xQ (Ql pb tb cap ts w ((w.alloc zMod).alloc zMod) 0 nP nP) :=
  ⟨((Zl.refl pb w).alloc hp _).alloc hp _,(h.alloc _).alloc _,hp,(xA (by simp)).trans (xL w _),Bg w _ _⟩
 obtain⟨R,hR⟩:∃ R:Pr (List Ty×List Ty),R=I5 ts:=⟨_,rfl⟩
 rw [<- hR]
 have HA0:xQ (Eu ts R [] ts.length 0):=by rw [hR]; exact iN ts
 clear h ok hR
 go_enter func52,ntmps52
 go_wp2_with fail
 obtain⟨i0,hi,Xr,Xg,Xw⟩:=info_parts gV
 obtain⟨i1,U5,hz0',hz1',hz2'⟩:=info_parts gT
 go_loopg [4] (ts.length) (fun gk _ wr=>∃ (b m:Nat) (v:vL) (cs:List (List vL)) (acc:List Ty),xQ (Ql pb tb cap ts w wr b v nP)/\xQ (Yq Ky (w.heap.size+2) 68 4 none wr v cs acc)/\xQ (Eu ts R acc m b)/\xQ (ts.length<=b+m)/\xQ (acc.length<=b)/\ts.length - b<=gk)
 case atStart=>exact⟨0,ts.length,_,[],[],X0,Ha _ _ _ _ _,HA0,(by show _<=_; omega),xR,by omega⟩
 case round =>
  clear X0 HA0;obtain⟨b,m,v,cs,acc,X,RW,O,V,Nw,Pw⟩:=hrel;have hbt:=X.o.ps.lt
  obtain⟨m,rfl⟩:∃ q,m=q+1:=⟨m - 1,by have:=V.o; omega⟩
  go_wp2_with fail;refine(V5 pb tb cap b _ 1 ts [[105,109,112,111,114,116]] _ _ X.o.ps.rd (by simp) (by simp)).mono ?_;rintro e w2 ⟨rfl,Z5⟩;have A:=Za (X.o.below Z5);have z:=Za (RW.o.stay (Zl.of X.o.ps.ltp Z5) (show pb<w.heap.size+2 by omega));clear Z5;simp only [List.any_cons,List.any_nil,Bool.or_false]
  cases hs:Zg ts b [105,109,112,111,114,116] with
  | false =>
   have HD:=Za (iK O.o hs);clear hs;clear X RW O V hbt;obtain⟨wo,hwo⟩:=xE w2;rw [<- hwo] at A z ⊢;clear hwo;obtain⟨is,his⟩:=xE acc
   have Um:is.length<=8193:=by have:=Nw.o; have:=OK.o.len; have:=A.o.ps.lt; rw [his]; omega
   rw [<- his] at z HD;clear his;obtain⟨C,F,rfl⟩:=Yt z.o.ow;have Z5:=A.o.ps.lt;go_wp2_with fail
   go_loopg [16] (ts.length) (fun gk _ wr=>∃ (b m:Nat) (v:vL) (cd:List (List vL)) (acc:List Ty),xQ (Ql pb tb cap ts w wr b (.slice C is.length F) v)/\xQ (Yq Ky (w.heap.size+2) 68 4 v.ownBlock wr (.slice C is.length F) cs is)/\xQ (Yq Jn (w.heap.size+2) 66 15 none wr v cd acc)/\xQ (Et ts R is acc m b)/\xQ (ts.length+1<=b+m)/\xQ (acc.length<=b)/\ts.length - b<=gk)
   case atStart=>exact⟨b,ts.length+1,nP,[],[],A,z,Ha _ _ _ _ _,HD,(by show _<=_; omega),xZ _,by omega⟩
   case round =>
    clear A z HD Nw Z5;obtain⟨b,m,v,cd,acc,X,RI,RW,O,V,Nw,Pw⟩:=hrel;have hbt:=X.o.ps.lt
    obtain⟨m,rfl⟩:∃ q,m=q+1:=⟨m - 1,by have:=V.o; omega⟩
    go_wp2_with fail;refine(V5 pb tb cap b _ 2 ts [[101,120,112,111,114,116],[102,110]] _ _ X.o.ps.rd (by simp) (by simp)).mono ?_;rintro e w3 ⟨rfl,Ts⟩;have A:=Za (X.o.below Ts);have RI2:=Za (RI.o.stay (Zl.of X.o.ps.ltp Ts) (show pb<w.heap.size+2 by omega));have z:=Za (RW.o.stay (Zl.of X.o.ps.ltp Ts) (show pb<w.heap.size+2 by omega));clear Ts;simp only [List.any_cons,List.any_nil,Bool.or_false]
    have Lw:acc.length<=8193:=by have:=Nw.o; have:=OK.o.len; omega
    cases hs:(Zg ts b [101,120,112,111,114,116] || Zg ts b [102,110])with
    | false =>
     have HD:=Za (iH O.o hs);clear hs X RI RW O V;obtain⟨da,dc,rfl⟩:=Yt z.o.ow;obtain⟨⟨c0,c1⟩,⟨z0,z1⟩,Xl⟩:=Nd A.o.box;obtain⟨⟨r0,r1⟩,⟨f0,f1⟩,Xe⟩:=Nd A.o.res;go_wp2_with fail;rw [HD.o];have hI:=(Mx (Mx RI2.o (q:=w.heap.size) (by omega) 0 (.slice C is.length F)) (q:=w.heap.size) (by omega) 1 (.slice da acc.length dc)).form Cj;have hD:=(Mx (Mx z.o (q:=w.heap.size) (by omega) 0 (.slice C is.length F)) (q:=w.heap.size) (by omega) 1 (.slice da acc.length dc)).form Ax
     obtain⟨ia',ic',e1,_,hI⟩:=hI;obtain⟨da',dc',e2,_,hD⟩:=hD;injection e1 with e1 _ _;injection e2 with e2 _ _;subst e1 e2;refine bodyPost_ret (results_cell_row rfl _ _ w.heap.size 40 _ (0,0) _ rfl (sM A.o.res (.slice C is.length F) (.slice da acc.length dc)) underlying40 rfl (by kernel_rfl)) rfl ⟨(A.o.st.own hp (xR) 0 _).own hp (xR) 1 _,(A.o.ps.other hp 0 _).other hp 1 _,_,rfl,C,F,da,dc,rfl,Um,Lw,?_,?_⟩
     ·exact Ej Cj hI (by omega)
     ·exact Ej Ax hD (by omega)
    | true =>
     have Uk:=Za hs;clear hs X RI RW;go_wp2_with fail;have I:=Za A.o.drew;have RI3:xQ (Yq Ky (w.heap.size+2) 68 4 v.ownBlock w3.drew (.slice C is.length F) cs is):=RI2.o.stay (Zl.refl pb w3).drew (show pb<w.heap.size+2 by omega);have H:xQ (Yq Jn (w.heap.size+2) 66 15 none w3.drew v cd acc):=z.o.stay (Zl.refl pb w3).drew (show pb<w.heap.size+2 by omega);obtain⟨⟨c0,c1⟩,⟨z0,z1⟩,Xl⟩:=Nd I.o.box
     have HC:xQ (Calls prog 69 #[qP pb] w3.drew fun e j=>(∃ chain,e = .panicked chain/\Ya pb tb cap ts 0 w tO R e j)∨∃ (s:bS) (Y:Bool) (vs:List (bS×Ty)) (Z:oA) (vc:Nat) (pm:bS) (ta:oA) (tc:Nat) (x:NV) (li co:Nat) (D:Ty) (b1:Nat),e = .returned (.agg #[uP s,.bool Y,.slice Z vs.length vc,uP pm,.slice ta 2 tc,iP x.k,.string x.tx,iP x.N,iP x.li,iP x.co,.slice x.ta x.tl x.tc,.slice x.na x.nl x.nc,.slice x.ka x.kl x.kc,iP li,iP co])/\(j.cell? (aP (w.heap.size+1) 0)=some (.slice C is.length F)/\j.cell? (aP (w.heap.size+1) 1)=some v)/\w.heap.size+1<j.heap.size /\
       xQ (Et ts R is (acc ++ [D]) m b1/\b+1<=b1/\Ql pb tb cap ts w j b1 (.slice C is.length F) v/\Yq Jn (w.heap.size+2) 66 15 none j v cd acc/\Xt Jn (w.heap.size+2) (fun q=>v.ownBlock=some q∨(none:Option Nat)=some q) j [uP s,.bool Y,.slice Z vs.length vc,uP pm,.slice ta 2 tc,iP x.k,.string x.tx,iP x.N,iP x.li,iP x.co,.slice x.ta x.tl x.tc,.slice x.na x.nl x.nc,.slice x.ka x.kl x.kc,iP li,iP co] D/\Yq Ky (w.heap.size+2) 68 4 v.ownBlock j (.slice C is.length F) cs is)):=by
      refine(decl_c pb tb cap ts OK.o b _ I.o.ps).mono ?_;intro e j Zh;rcases Yr Zh with⟨er,li,co,M,rfl,J⟩ | ⟨D,b1,v1,M,rfl,J,Zc,hv⟩
      ·exact .inl ⟨_,rfl,I.o.st.trans J,by rw [iI O.o Uk.o M]⟩
      obtain⟨c,rfl,hc⟩:=hv;have Qc:=hc;obtain⟨s,Y,vs,Z,vc,pm,ta,tc,tys,x,B,li,co,md,rfl,_⟩:=hc;have XN:=I.o.step J Zc;have hb:=Nd XN.box;exact .inr ⟨s,Y,vs,Z,vc,pm,ta,tc,x,li,co,D,b1,rfl,hb.1,hb.2.2,iJ O.o Uk.o M,kM _ _ M,XN,H.o.stay J (by omega),Xt.new (rep:=Jn) Qc I.o.lt (fun q hq=>H.o.all q hq),RI3.o.stay J (by omega)⟩
     go_region_law(first
      | (go_simp; go_at_call 69; refine HC.o.mono ?_; rintro e j (⟨ch,rfl,hf⟩ | ⟨s,Y,vs,Z,vc,pm,ta,tc,x,li,co,D,b1,rfl,⟨t0,t1⟩,hl9,HX⟩); exact⟨rfl,hf⟩)
      | (refine El rfl (.tmp 22) (.tmp 25) 38 rfl (w.heap.size+2) 66 i1 _ 15 224 underlying38 U5 hz0' hz1' hz2' rfl (by decide) v _ _ (by first | rfl | simp [Act.eval,Act.put]) (HX.o.2.2.2.1.ow.alloc _) (aP j.heap.size 0) 1 1 [uP s,.bool Y,.slice Z vs.length vc,uP pm,.slice ta 2 tc,iP x.k,.string x.tx,iP x.N,iP x.li,iP x.co,.slice x.ta x.tl x.tc,.slice x.na x.nl x.nc,.slice x.ka x.kl x.kc,iP li,iP co] (by first | rfl | simp [Act.eval,Act.put]) rfl (V2 _ _ _) (by simp [Value.oneCell']) (by unfold maxLen; omega) (by omega) (by rw [xS]; omega) ?_; intro v' w4 Zr Zo Z4; obtain⟨av,cv,rfl⟩:=Yt Zr;
                have T:xQ (Ql pb tb cap ts w w4 b1 (.slice C is.length F) v/\Yq Jn (w.heap.size+2) 66 15 none w4 (.slice av (acc.length+1) cv) (cd ++ [[uP s,.bool Y,.slice Z vs.length vc,uP pm,.slice ta 2 tc,iP x.k,.string x.tx,iP x.N,iP x.li,iP x.co,.slice x.ta x.tl x.tc,.slice x.na x.nl x.nc,.slice x.ka x.kl x.kc,iP li,iP co]]) (acc ++ [D])/\Yq Ky (w.heap.size+2) 68 4 (Value.slice av (acc.length+1) cv).ownBlock w4 (.slice C is.length F) cs is):=⟨(HX.o.2.2.1.alloc _).grown Zo fun q hq=>(HX.o.2.2.2.1.own q hq).1,HX.o.2.2.2.1.put Zr Zo (Z4.imp_right fun e=>⟨_,e,by simp⟩) ((Zl.refl pb j).alloc HX.o.2.2.1.ps.ltp _) (show pb<w.heap.size+2 by omega) rfl (HX.o.2.2.2.2.1.stay ((Zl.refl pb j).alloc HX.o.2.2.1.ps.ltp _) (show pb<w.heap.size+2 by omega)),(HX.o.2.2.2.2.2.stay ((Zl.refl pb j).alloc HX.o.2.2.1.ps.ltp _) (show pb<w.heap.size+2 by omega)).beside Zo (Z4.imp_right fun e=>⟨_,e,xR,(Zr.lt _ e).2⟩) (by rw [xS]; omega)⟩;
                obtain⟨⟨k0,k1⟩,⟨f0,f1⟩,Jc⟩:=Nd T.o.1.box; clear Zr Zo Z4))
     all_goals
      go_wp2_with fail
      go_roundg (ts.length - b1)
      case measure=>have:=HX.o.2.1; omega
      case rel=>exact⟨b1,m,_,_,_,T.o.1.set1 _,Mx T.o.2.2 (by omega) 1 _,Mx T.o.2.1 (by omega) 1 _,HX.o.1,(by have:=V.o; have:=HX.o.2.1; show _<=_; omega),(by have:=Nw.o; have:=HX.o.2.1; show(acc ++ [D]).length<=_; simp; omega),xR⟩
  | true =>
   have Yo:b+1<ts.length:=Xx OK.o.ends hbt hs;have Uk:=Za hs
   have Lw:acc.length<=8193:=by have:=Nw.o; have:=OK.o.len; omega
   clear hs X RW;go_wp2_with fail;have I:=Za A.o.drew;have H:xQ (Yq Ky (w.heap.size+2) 68 4 none w2.drew v cs acc):=z.o.stay (Zl.refl pb w2).drew (show pb<w.heap.size+2 by omega);obtain⟨⟨c0,c1⟩,⟨z0,z1⟩,Xl⟩:=Nd I.o.box
   have HC:xQ (Calls prog 68 #[qP pb] w2.drew fun e j=>(∃ chain,e = .panicked chain/\Ya pb tb cap ts 0 w tO R e j)∨∃ (s:bS) (l:List (bS)) (na:oA) (nc li co:Nat) (D:Ty) (b1:Nat),e = .returned (.agg #[uP s,.slice na l.length nc,iP li,iP co])/\(j.cell? (aP (w.heap.size+1) 0)=some v/\j.cell? (aP (w.heap.size+1) 1)=some nP)/\w.heap.size+1<j.heap.size /\
     xQ (Eu ts R (acc ++ [D]) m b1/\b+1<=b1/\Ql pb tb cap ts w j b1 v nP/\Yq Ky (w.heap.size+2) 68 4 none j v cs acc/\Xt Ky (w.heap.size+2) (fun q=>v.ownBlock=some q∨(none:Option Nat)=some q) j [uP s,.slice na l.length nc,iP li,iP co] D)):=by
    refine(zbz pb tb cap 0 ts OK.o b _ I.o.ps).mono ?_;intro e j Zh;rcases Yr Zh with⟨er,li,co,M,rfl,J⟩ | ⟨D,b1,v1,M,rfl,J,Zc,hv⟩
    ·exact .inl ⟨_,rfl,I.o.st.trans J,by rw [iL O.o Uk.o M]⟩
    obtain⟨c,rfl,hc⟩:=hv;have Qc:=hc;obtain⟨s,l,na,nc,li,co,rfl,_⟩:=hc;have XN:=I.o.step J Zc;have hb:=Nd XN.box;exact .inr ⟨s,l,na,nc,li,co,D,b1,rfl,hb.1,hb.2.2,iM O.o Uk.o M,m9 _ _ M,XN,H.o.stay J (by omega),Xt.new (rep:=Ky) Qc I.o.lt fun q hq=>H.o.all q hq⟩
   go_region_law(first
    | (go_simp; go_at_call 68; refine HC.o.mono ?_; rintro e j (⟨ch,rfl,hf⟩ | ⟨s,l,na,nc,li,co,D,b1,rfl,⟨t0,t1⟩,hl9,HX⟩); exact⟨rfl,hf⟩)
    | (refine El rfl (.tmp 10) (.tmp 13) 37 rfl (w.heap.size+2) 68 i0 _ 4 56 underlying37 hi Xr Xg Xw rfl (by decide) v _ _ (by first | rfl | simp [Act.eval,Act.put]) (HX.o.2.2.2.1.ow.alloc _) (aP j.heap.size 0) 1 1 [uP s,.slice na l.length nc,iP li,iP co] (by first | rfl | simp [Act.eval,Act.put]) rfl (V2 _ _ _) (by simp [Value.oneCell']) (by unfold maxLen; omega) (by omega) (by rw [xS]; omega) ?_; intro v' w4 Zr Zo Z4; obtain⟨av,cv,rfl⟩:=Yt Zr;
                have T:xQ (Ql pb tb cap ts w w4 b1 v nP/\Yq Ky (w.heap.size+2) 68 4 none w4 (.slice av (acc.length+1) cv) (cs ++ [[uP s,.slice na l.length nc,iP li,iP co]]) (acc ++ [D])):=⟨(HX.o.2.2.1.alloc _).grown Zo fun q hq=>(HX.o.2.2.2.1.own q hq).1,HX.o.2.2.2.1.put Zr Zo (Z4.imp_right fun e=>⟨_,e,by simp⟩) ((Zl.refl pb j).alloc HX.o.2.2.1.ps.ltp _) (show pb<w.heap.size+2 by omega) rfl (HX.o.2.2.2.2.stay ((Zl.refl pb j).alloc HX.o.2.2.1.ps.ltp _) (show pb<w.heap.size+2 by omega))⟩;
                obtain⟨⟨k0,k1⟩,⟨f0,f1⟩,Jc⟩:=Nd T.o.1.box; clear Zr Zo Z4))
   all_goals
    go_wp2_with fail
    go_roundg (ts.length - b1)
    case measure=>have:=HX.o.2.1; omega
    case rel=>exact⟨b1,m,_,_,_,T.o.1.set0 _,Mx T.o.2 (by omega) 0 _,HX.o.1,(by have:=V.o; have:=HX.o.2.1; show _<=_; omega),(by have:=Nw.o; have:=HX.o.2.1; show(acc ++ [D]).length<=_; simp; omega),xR⟩
end
section
open Go.RowKit
structure MV where
 ia:oA
 il:Nat
 ic:Nat
 da:oA
 dl:Nat
 dc:Nat
abbrev MV.val (x:MV):vL := .agg #[.slice x.ia x.il x.ic,.slice x.da x.dl x.dc]
abbrev MV.obj (x:MV):Obj := .cells #[.slice x.ia x.il x.ic,.slice x.da x.dl x.dc] 40
abbrev Xf:MV:=⟨none,0,0,none,0,0⟩
abbrev putM (w:wD) (b:Nat) (x:MV):wD:=(w.setCell (aP b 0) (.slice x.ia x.il x.ic)).setCell (aP b 1) (.slice x.da x.dl x.dc)
def Ul (lo:Nat) (w:wD) (x:MV) (D:List Ty×List Ty):Prop:=x.il=D.1.length/\x.dl=D.2.length/\D.1.length<=8193/\D.2.length<=8193/\Tf Ky 4 lo w x.ia D.1/\Tf Jn 15 lo w x.da D.2
def MdE (lo:Nat) (w:wD) (v:vL) (D:List Ty×List Ty):Prop:=∃ x:MV,v=x.val/\Ul lo w x D
theorem mdE_of {lo:Nat} {w:wD} {v:vL} {D:List Ty×List Ty} (h:tO lo w v D):MdE lo w v D:=by
 obtain⟨I,C,J,z,rfl,A,H,j,F⟩:=h
 exact⟨⟨I,D.1.length,C,J,D.2.length,z⟩,rfl,rfl,rfl,A,H,j,F⟩
section
variable {w w' : wD} {lo lo' b pb : Nat} {x y : MV} {D : List Ty × List Ty}
theorem Eh (h:w.heap[b]?=some y.obj):(putM w b x).heap[b]?=some x.obj:=sM h _ _
theorem sQ:(putM w b x).heap.size=w.heap.size:=by
 unfold putM
 rw [Yg,Yg]
theorem Ag {i:Nat} (h:i≠b):(putM w b x).heap[i]?=w.heap[i]?:=by
 unfold putM
 rw [xH h,xH h]
theorem E5 {B:Nat} {u:wD} (h:Below B u w) (j:B<=b) (x:MV):Below B u (putM w b x):=(h.setCell j _).setCell j _
theorem Nf (h:w.heap[b]?=some x.obj):(w.cell? (aP b 0)=some (.slice x.ia x.il x.ic)/\w.cell? (aP b 1)=some (.slice x.da x.dl x.dc))/\(w.frozen? (aP b 0)=false/\w.frozen? (aP b 1)=false)/\b<w.heap.size:=Nd h
theorem Ul.keep (h:Ul lo w x D) (z:w.heap.size<=w'.heap.size) (j:∀ b,lo<=b->b<w.heap.size->w'.heap[b]?=w.heap[b]?):Ul lo w' x D :=
 ⟨h.1,h.2.1,h.2.2.1,h.2.2.2.1,L8 Cj h.2.2.2.2.1 z j,L8 Ax h.2.2.2.2.2 z j⟩
theorem Ul.lower (h:Ul lo w x D) (j:lo'<=lo):Ul lo' w x D :=
 ⟨h.1,h.2.1,h.2.2.1,h.2.2.2.1,Ej Cj h.2.2.2.2.1 j,Ej Ax h.2.2.2.2.2 j⟩
theorem Ul.stay (h:Ul lo w x D) (j:Zl pb w w') (hp:pb<lo):Ul lo w' x D:=h.keep j.size fun b hb z=>j.keep b (by omega) z
theorem Ul.putM (h:Ul lo w x D) (hb:b<lo) (y:MV):Ul lo (putM w b y) x D:=h.keep (by rw [sQ]; exact xR) fun i hi _=>Ag (by omega)
theorem Ul.set1 (h:Ul lo w x D) (hb:b<lo) (o:Nat) (u:vL):Ul lo (w.setCell (aP b o) u) x D :=
 h.keep (by rw [Yg]; exact xR) fun i hi _=>xH (by show i≠b; omega)
end
theorem zeg (pb:Nat):Lh 52 pb:=fun w=>K8 func52 (by kernel_rfl) (by kernel_rfl) _ w
theorem zed (pb tb cap:Nat) (ts:List Tok) (C:Ym ts) (w:wD) (h:Ps w pb tb cap ts 0 0) :
  Calls prog 52 #[qP pb] w (Ya pb tb cap ts 0 w MdE (I5 ts)) :=
 (zef pb tb cap ts C w h).mono fun e w' hp=>by
  refine⟨hp.1,?_⟩;have j:=hp.2
  revert j
  cases I5 ts with
  | inr p=>exact id
  | inl p =>
   rintro⟨A,v,j,z⟩;exact⟨A,v,j,mdE_of z⟩
theorem oR (p q:Addr) (w:wD) :
  CallsD prog 65 #[.pointer (some p),.pointer (some q)] .returning w fun e u' w'=>e = .returned (.tuple #[])/\u' = .returning/\w'=w:=by
 have hn:=zeo
 refine callsD_of_wpS func65 rfl fun c₀ cs hu=>?_
 apply wpS_seq
 apply wpS_region
 simp [wpOpsS,go_sem,recoverD,hu,ntmps65,Exit.thenS]
 refine wpS_of_wp ?_
 simp only [Array.replicate,List.replicate,List.setIfInBounds_toArray,List.set_cons_zero,List.set_cons_succ,List.append_toArray,List.cons_append,List.nil_append]
 go_wp2
 cases c₀
 simp_all [bodyPostS,results,results65]
theorem l7 (j db:Nat) (li co x:Int) (h:List PanicEntry) (w:wD) (y:MV) (N M O I:vL) (ha:w.heap[j]?=some y.obj) (C:w.heap[db]?=some (.cells #[N,M,O,I] 47)) (z:j≠db) :
  CallsD prog 65 #[qP j,qP db] (.panicking ({ v := .iface 47 (Da li co x),recovered:=false } :: h)) w fun e u' w'=>e = .returned (.tuple #[])/\u' = .panicking ({ v := .iface 47 (Da li co x),recovered:=true } :: h) /\
   (w'.heap[j]?=some Xf.obj/\w'.heap[db]?=some (.cells #[iP 0,iP li,iP co,iP x] 47))/\xQ (∀ B,B<=j->B<=db->Below B w w'):=by
 have hn:=zen
 have hta:=iG
 obtain⟨⟨a0,a1⟩,⟨z0,z1⟩,H⟩:=Nf ha
 obtain⟨⟨d0,d1,d2,d3⟩,⟨g0,g1,g2,g3⟩,F⟩:=Yh C
 have V:=Za ha
 have T:=Za C
 clear ha C
 have A:¬ db=j:=fun e=>z e.symm
 refine callsD_of_wpS func65 rfl fun c₀ cs hu=>?_
 apply wpS_seq
 apply wpS_region
 simp [wpOpsS,go_sem,recoverD,hu,ntmps65,Exit.thenS]
 refine wpS_of_wp ?_
 simp only [Array.replicate,List.replicate,List.setIfInBounds_toArray,List.set_cons_zero,List.set_cons_succ,List.append_toArray,List.cons_append,List.nil_append]
 go_wp2
 go_region
 all_goals
  go_wp2;refine⟨rfl,_,rfl,.tuple #[],results_none rfl _ _ _,rfl,rfl,⟨?_,?_⟩,fun B J Y=>?_⟩
  ·rw [Iq]
   refine(xA (by simp only [Yg]; exact H)).trans ?_;exact(Q1 z _ _ _ _).trans (Eh (x:=Xf) V.o)
  ·rw [Iq]
   refine(xA (by simp only [Yg]; exact F)).trans ?_;exact set4 ((Ag (x:=Xf) A).trans T.o) _ _ _ _
  ·exact((G4 (E5 (x:=Xf) (Below.refl _ w) J) Y _ _ _ _).alloc (by simp only [Yg]; omega) _).drew
def mL (i:Vx):Prop:=i.fr.length<=70000/\(∀ n ∈ i.ns,n.length<=70000)/\1<=i.li/\1<=i.co
def mK (d:Tz):Prop:=d.nm.length<=70000/\1<=d.li/\1<=d.co
def Aq (o:Mo):Prop:=(∀ i ∈ o.is,mL i)/\∀ d ∈ o.ds,mK d
theorem wL:∀ (l:bS) (c:Bool) (li co:Nat),1<=li->1<=co->1<=(Vf c l li co).2.1/\1<=(Vf c l li co).2.2
 | [],c,li,co,h1,h2=>by cases c <;> exact⟨h1,h2⟩
 | b :: r,true,li,co,h1,h2=>by
  unfold Vf
  split
  ·exact wL r _ _ _ (by omega) (xR)
  ·exact wL r _ _ _ h1 (by omega)
 | b :: r,false,li,co,h1,h2=>by
  unfold Vf
  split
  ·exact wL r _ _ _ (by omega) (xR)
  split
  ·exact wL r _ _ _ h1 (by omega)
  split
  ·exact wL r _ _ _ h1 (by omega)
  ·exact⟨h1,h2⟩
def yJ (ts:List Tok):Prop:=∀ t ∈ ts,1<=t.line/\1<=t.col
theorem fR:∀ (f:Nat) (l:bS) (li co n:Nat),1<=li->1<=co->l.length<f->match Kn f l li co n with | .inl ts=>yJ ts | .inr e=>1<=e.2.1/\1<=e.2.2
 | 0,_,_,_,_,_,_,hf=>absurd hf (Nat.not_lt_zero _)
 | f+1,l,li,co,n,h1,h2,hf=>by
  obtain⟨r,li',co',hs⟩:∃ r li' co',Vf false l li co=(r,li',co'):=⟨_,_,_,rfl⟩
  have j:=wL l false li co h1 h2;have C:=uU false l li co;rw [hs] at C j;have M:=C.length_le;simp only at M j;by_cases z:r=[]
  ·subst z
   rw [Lx.lexGo_end hs];intro t H;rw [List.mem_singleton] at H;subst H;exact j
  ·cases he:U1 r with
   | inl e =>
    rw [Lx.lexGo_bad hs z he];exact j
   | inr p =>
    obtain⟨k,t,h⟩:=p
    have Zt:h.length<r.length:=by
     obtain⟨c,I,J⟩:=pL he;have:=congrArg List.length I;rw [List.length_append] at this;have:=List.length_pos_iff.2 J;omega
    by_cases F:n=8192
    ·subst F
     rw [Lx.lexGo_many hs z he];exact j
    ·rw [Lx.lexGo_tok hs z he F]
     have:=fR f h li' (co'+(r.length - h.length)) (n+1) j.1 (by omega) (by omega)
     revert this
     cases Kn f h li' (co'+(r.length - h.length)) (n+1)with
     | inl ts =>
      intro this u A;rcases List.mem_cons.1 A with rfl | A
      ·exact j
      ·exact this u A
     | inr e=>exact id
theorem fS (l:bS):match Pz l with | .inl ts=>yJ ts | .inr e=>1<=e.2.1/\1<=e.2.2:=by
 unfold Pz
 by_cases h:65536<l.length
 ·rw [if_pos h]
  exact⟨Nat.le_refl 1,Nat.le_refl 1⟩
 ·rw [if_neg h]
  exact fR _ l 1 1 0 (xR) (xR) (xU _)
theorem Lt {α β:Type} {R:Pr α} {G:α->Nat->Pr β} {D:β} {c:Nat} (h:R.go G = .inl (D,c)):∃ x b,R = .inl (x,b)/\G x b = .inl (D,c):=by
 cases R with
 | inl p=>exact⟨p.1,p.2,rfl,h⟩
 | inr e=>cases h
section
variable {ts : List Tok}
theorem pQ (j:yJ ts) {a:Nat} {s:Bs} (h:Zg ts a s=true):1<=Yj ts a/\1<=Yi ts a:=by
 by_cases ha:a<ts.length
 ·have e:Zk ts a=ts[a]:=by unfold Zk; rw [List.getD_eq_getElem?_getD,List.getElem?_eq_getElem ha,Option.getD_some]
  have:=j _ (List.getElem_mem ha);unfold Yj Yi;rw [e];exact this
 ·exfalso
  unfold Zg Zk at h;rw [List.getD_eq_getElem?_getD,List.getElem?_eq_none (by omega)] at h
  revert h
  simp
theorem zkw {a:Nat} {s:Bs} {r:Unit×Nat} (h:Ze ts a s = .inl r):Zg ts a s=true:=by
 unfold Ze at h
 by_cases j:Zg ts a s=true
 ·exact j
 ·rw [if_neg j] at h
  cases h
theorem nT (j:∀ a,(Zk ts a).text.length<=70000) {a b:Nat} {s:Bs} (h:Zu ts a = .inl (s,b)):s.length<=70000:=by
 unfold Zu at h
 split at h
 ·injection h with h
  injection h with h;rw [<- h];exact j a
 ·cases h
theorem fY (z:∀ a,(Zk ts a).text.length<=70000) (sep:Bs):∀ (f a:Nat) (l:List Bs) (b:Nat),Z9 ts (Zu ts) sep f a = .inl (l,b)->∀ n ∈ l,n.length<=70000
 | 0,a,l,b,h=>by cases h
 | f+1,a,l,b,h=>by
  unfold Z9 at h;obtain⟨s,a1,F,h⟩:=Lt h;have A:=nT z F
  split at h
  ·obtain⟨r,a2,C,h⟩:=Lt h
   injection h with h;injection h with h;subst h;intro n j;rcases List.mem_cons.1 j with rfl | j
   ·exact A
   ·exact fY z sep f _ _ _ C n j
  ·injection h with h
   injection h with h;subst h;intro n j;rw [List.mem_singleton] at j;subst j;exact A
theorem gN (z:yJ ts) (A:∀ a,(Zk ts a).text.length<=70000):∀ (f a:Nat) (l:List Ty) (b:Nat),L3 ts f a = .inl (l,b)->∀ D ∈ l,mL (qJ D)
 | 0,a,l,b,h=>by cases h
 | f+1,a,l,b,h=>by
  unfold L3 at h
  split at h
  ·rename_i C
   obtain⟨s,a1,F,h⟩:=Lt h;obtain⟨_,a2,h2,h⟩:=Lt h;obtain⟨ns,a3,I,h⟩:=Lt h;obtain⟨_,a4,h4,h⟩:=Lt h;obtain⟨r,a5,H,h⟩:=Lt h;injection h with h;injection h with h;subst h;intro D j;rcases List.mem_cons.1 j with rfl | j
   ·rw [gI]
    exact⟨nT A F,fY A _ _ _ _ _ I,(pQ z C).1,(pQ z C).2⟩
   ·exact gN z A f _ _ _ H D j
  ·injection h with h
   injection h with h;subst h;intro D j;cases j
theorem zab (j:yJ ts) (C:∀ a,(Zk ts a).text.length<=70000) {a b:Nat} {D:Ty} (h:Ng ts a = .inl (D,b)):mK (vQ D):=by
 unfold Ng at h
 simp only at h
 obtain⟨_,a1,A,h⟩:=Lt h
 obtain⟨s,a2,F,h⟩:=Lt h
 obtain⟨vs,a3,h3,h⟩:=Lt h
 obtain⟨hd,a4,h4,h⟩:=Lt h
 obtain⟨_,a5,h5,h⟩:=Lt h
 obtain⟨x,a6,h6,h⟩:=Lt h
 obtain⟨_,a7,h7,h⟩:=Lt h
 injection h with h
 injection h with h
 subst h
 rw [kH]
 have z:Zg ts (if Zg ts a [101,120,112,111,114,116] then a+1 else a) [102,110]=true:=by
  exact zkw A
 exact⟨nT C F,(pQ j z).1,(pQ j z).2⟩
theorem kR (z:yJ ts) (A:∀ a,(Zk ts a).text.length<=70000):∀ (f a:Nat) (l:List Ty) (b:Nat),Bc ts f a = .inl (l,b)->∀ D ∈ l,mK (vQ D)
 | 0,a,l,b,h=>by cases h
 | f+1,a,l,b,h=>by
  unfold Bc at h
  split at h
  ·injection h with h
   injection h with h;subst h;intro D j;cases j
  ·obtain⟨d,a1,F,h⟩:=Lt h
   obtain⟨r,a2,C,h⟩:=Lt h;injection h with h;injection h with h;subst h;intro D j;rcases List.mem_cons.1 j with rfl | j
   ·exact zab z A F
   ·exact kR z A f _ _ _ C D j
end
theorem dD {l:bS} {D:List Ty×List Ty} (h:P2 l = .inl D):Aq (Ea D):=by
 have A:=fS l
 unfold P2 at h
 cases z:Pz l with
 | inr e=>rw [z] at h; cases h
 | inl ts =>
  rw [z] at h A;have F:=uE z;simp only at h A
  cases he:K7 ts (Du ts)with
  | inr e=>rw [he] at h; cases h
  | inl p =>
   obtain⟨t,b⟩:=p;rw [he] at h;injection h with h;subst h;unfold K7 at he;obtain⟨t',b',j,h2⟩:=Lt he
   split at h2
   ·injection h2 with h2
    injection h2 with h2;subst h2;unfold Du at j;obtain⟨i,a1,H,j⟩:=Lt j;obtain⟨d,a2,I,j⟩:=Lt j;injection j with j;injection j with j;subst j;refine⟨fun x z=>?_,fun x z=>?_⟩
    ·obtain⟨y,C,rfl⟩:=List.mem_map.1 z
     exact gN A F.txt _ _ _ _ H y C
    ·obtain⟨y,C,rfl⟩:=List.mem_map.1 z
     exact kR A F.txt _ _ _ _ I y C
   ·cases h2
theorem qV {l:bS} {er:Int} {li co:Nat} (h:P2 l = .inr (er,li,co)):er≠0/\1<=li/\1<=co:=by
 have j:=fS l
 cases hx:Pz l with
 | inr e =>
  obtain⟨x,a,b⟩:=e;unfold P2 at h;rw [hx] at h j;injection h with h;injection h with h h';injection h' with h' h'';subst h h' h'';exact⟨nG hx,j⟩
 | inl ts =>
  have z:=uE hx;have hm:=zeh z.ends z.pos;unfold P2 at h;rw [hx] at h j;simp only at h j
  cases he:K7 ts (Du ts)with
  | inl p=>rw [he] at h; cases h
  | inr p =>
   obtain⟨a,b,c⟩:=p;rw [he] at h hm;injection h with h;injection h with h1 h2;injection h2 with h2 h3;subst h1 h2 h3;obtain⟨C,t,A,g3,g4⟩:=hm;have:=j t A;exact⟨by rcases C with rfl | rfl <;> decide,by omega,by omega⟩
end
section
open Go.RowKit Go.Maps
def ImpS (lo:Nat) (w:wD) (c:List vL) (I:Vx):Prop:=∃ (na:oA) (nc:Nat),c=[uP I.fr,.slice na I.ns.length nc,iP I.li,iP I.co]/\I.ns.length<=8193/\Bb w lo na I.ns
structure DV where
 va:oA
 vc:Nat
 pm:ByteArray
 ta:oA
 tc:Nat
 k:Int
 tx:ByteArray
 n:Int
 a:Int
 b:Int
 xa:oA
 xl:Nat
 xc:Nat
 ya:oA
 yl:Nat
 yc:Nat
 za:oA
 zl:Nat
 zc:Nat
abbrev decC (x:DV) (d:Tz):List vL:=[uP d.nm,.bool d.ex,.slice x.va d.vs x.vc,.string x.pm,.slice x.ta 2 x.tc,iP x.k,.string x.tx,iP x.n,iP x.a,iP x.b,.slice x.xa x.xl x.xc,.slice x.ya x.yl x.yc,.slice x.za x.zl x.zc,iP d.li,iP d.co]
abbrev G7 (x:DV) (d:Tz):Obj := .cells #[uP d.nm,.bool d.ex,.slice x.va d.vs x.vc,.string x.pm,.slice x.ta 2 x.tc,iP x.k,.string x.tx,iP x.n,iP x.a,iP x.b,.slice x.xa x.xl x.xc,.slice x.ya x.yl x.yc,.slice x.za x.zl x.zc,iP d.li,iP d.co] 66
def yC (_lo:Nat) (_w:wD) (c:List vL) (d:Tz):Prop:=∃ x:DV,c=decC x d/\d.vs<=8193
def MoV (lo:Nat) (w:wD) (x:MV) (o:Mo):Prop:=x.il=o.is.length/\x.dl=o.ds.length/\o.is.length<=8193/\o.ds.length<=8193/\Tf ImpS 4 lo w x.ia o.is/\Tf yC 15 lo w x.da o.ds/\Ul lo w x o.tr
def M4 (lo:Nat) (w:wD) (c:List vL) (o:Mo):Prop:=∃ x:MV,c=[.slice x.ia x.il x.ic,.slice x.da x.dl x.dc]/\MoV lo w x o
theorem gK:B5 ImpS where
 keep:=fun h F H=>by
  obtain⟨na,nc,z,A,j⟩:=h;exact⟨na,nc,z,A,Ec j F H⟩
 lower:=fun h C=>by
  obtain⟨na,nc,z,A,j⟩:=h;exact⟨na,nc,z,A,xV j C⟩
theorem kJ:B5 yC where
 keep:=fun h _ _=>h
 lower:=fun h _=>h
theorem Cn:B5 M4 where
 keep:=fun h J N=>by
  obtain⟨x,e,A,M,z,H,I,C,j⟩:=h;exact⟨x,e,A,M,z,H,L8 gK I J N,L8 kJ C J N,j.keep J N⟩
 lower:=fun h F=>by
  obtain⟨x,e,A,M,z,H,I,C,j⟩:=h;exact⟨x,e,A,M,z,H,Ej gK I F,Ej kJ C F,j.lower F⟩
theorem aG {α β:Type} {rep:Nat->wD->List vL->α->Prop} {j:Nat->wD->List vL->β->Prop} {f:α->β} (M:∀ lo w c x,rep lo w c x->j lo w c (f x)) {k lo:Nat} {w:wD} {a:oA} {xs:List α} (h:Tf rep k lo w a xs):Tf j k lo w a (xs.map f):=by
 rcases h with rfl | ⟨g,e,H,C,A⟩
 ·exact .inl rfl
 ·refine .inr ⟨g,e,H,C,fun i I=>?_⟩
  obtain⟨c,z,J,F⟩:=A i (by simpa using I);exact⟨c,z,J,by rw [List.getElem_map]; exact M _ _ _ _ F⟩
theorem dA {lo:Nat} {w:wD} {x:MV} {D:List Ty×List Ty} (h:Ul lo w x D):MoV lo w x (Ea D):=by
 have V:=h
 obtain⟨C,Z,M,T,F,H⟩:=h
 refine⟨by rw [C]; simp [Ea],by rw [Z]; simp [Ea],by simpa [Ea] using M,by simpa [Ea] using T,aG ?_ F,aG ?_ H,V⟩
 ·rintro lo w c D ⟨s,l,na,nc,li,co,z,rfl,j,A⟩
  rw [gI];exact⟨na,nc,z,j,A⟩
 ·rintro lo w c D ⟨s,ex,vs,I,Y,J,ta,O,tys,x,B,li,co,m,z,rfl,j,A,_⟩
  rw [kH];exact⟨⟨I,Y,⟨J.toArray⟩,ta,O,x.k,x.tx,x.N,x.li,x.co,x.ta,x.tl,x.tc,x.na,x.nl,x.nc,x.ka,x.kl,x.kc⟩,z,j⟩
theorem jS (d:Tz):∀ (l:List Tz) (i:Nat) (a:Wo),Kg i (l ++ [d]) a=(match Yp (Kg i l a) d.nm with | some _=>Kg i l a | none=>(d.nm,i+l.length) :: Kg i l a)
 | [],i,a=>by cases h:Yp a d.nm <;> simp [Kg,h]
 | x :: l,i,a=>by
  show Kg (i+1) (l ++ [d]) _=_;rw [jS d l];simp only [Kg,List.length_cons];rw [show i+1+l.length=i+(l.length+1) by omega]
theorem jQ:∀ (l:List Tz) (i:Nat) (a:Wo),(Kg i l a).length<=a.length+l.length
 | [],_,_=>xR
 | x :: l,i,a=>by
  have:=jQ l (i+1) (match Yp a x.nm with | some _=>a | none=>(x.nm,i) :: a);show(Kg (i+1) l _).length<=_;refine Nat.le_trans this ?_;simp only [List.length_cons]
  split <;> simp <;> omega
theorem o9 {lo g:Nat} {w:wD} {ds:List Tz} (h:Tf yC 15 lo w (some (aP g 0)) ds) {k:Nat} (z:k<ds.length):∃ x:DV,ds[k].vs<=8193/\∀ j,j<15->w.cell? (aP g (k*15+j))=(decC x ds[k])[j]?:=by
 rcases h with h | ⟨g',e,_,_,hr⟩
 ·rw [h] at z; cases z
 ·injection e with e
  injection e with e;subst e;obtain⟨c,h1,C,x,rfl,A⟩:=hr k z;exact⟨x,A,C⟩
theorem zhx (z:Int) (w:wD):(Instr.makeMap 49 (some (iP z))).run prog w = .ok (.map (some w.heap.size)) (w.alloc (.map #[] 0)):=by
 simp [Instr.makeMap,run_underlying underlying49,asInt,newObj,Result.andThen]
 rfl
theorem zay (lo:Nat) (da:oA) (dc:Nat) (ds:List Tz) (w:wD) (h:Tf yC 15 lo w da ds) (hl:ds.length<=8193) (V:∀ d ∈ ds,d.nm.length<=70000) :
  Calls prog 38 #[.slice da ds.length dc] w fun x w'=>x = .returned (.map (some w.heap.size))/\Te w' w.heap.size (Kg 0 ds [])/\Below w.heap.size w w':=by
 have hmm:=zhx
 have HN:=Za V
 have hz:((ds.length:Int)<=9223372036854775807):=by omega
 rcases h with he | ⟨g,rfl,hg,hc,hr⟩
 ·subst he
  clear V;go_enter func38,ntmps38;go_wp2_with fail
  go_loopw [13] (fun i wr=>i=iP 0/\wr=w.alloc (.map #[] 0)) (fun _ _=>0)
  case atStart=>exact⟨rfl,rfl⟩
  case round =>
   obtain⟨rfl,rfl⟩:=hrel;go_wp2_with fail;go_ret;exact⟨rfl,nZ w,Zq w _⟩
 ·have HQ:xQ (Tf yC 15 lo w (some (aP g 0)) ds) := .inr ⟨g,rfl,hg,hc,hr⟩
  have Gb:g<w.heap.size:=Lq hc;clear hc hr V;go_enter func38,ntmps38;go_wp2_with fail
  go_loopw [13] (fun i wr=>∃ k:Nat,k<=ds.length/\i=iP k/\xQ (Te wr w.heap.size (Kg 0 (ds.take k) []))/\xQ (Below w.heap.size w wr)) (fun i _=>ds.length - (intOf i).toNat)
  case atStart=>exact⟨0,by omega,rfl,nZ w,Zq w _⟩
  case round =>
   obtain⟨k,hk,rfl,N,J⟩:=hrel;by_cases Z8:k<ds.length
   ·have Un:(k:Int)<(ds.length:Int):=by omega
    obtain⟨x,hxv,A⟩:=o9 HQ.o Z8
    have C:∀ o,wr.cell? (aP g o)=w.cell? (aP g o):=fun o=>World.cell?_of_block (J.o.block g Gb)
    have q0:wr.cell? (aP g (k*15))=some (.string ⟨ds[k].nm.toArray⟩):=by rw [C]; exact A 0 (by omega)
    have q1:wr.cell? (aP g (k*15+1))=some (.bool ds[k].ex):=by rw [C]; exact A 1 (by omega)
    have q2:wr.cell? (aP g (k*15+2))=some (.slice x.va ds[k].vs x.vc):=by rw [C]; exact A 2 (by omega)
    have q3:wr.cell? (aP g (k*15+3))=some (.string x.pm):=by rw [C]; exact A 3 (by omega)
    have q4:wr.cell? (aP g (k*15+4))=some (.slice x.ta 2 x.tc):=by rw [C]; exact A 4 (by omega)
    have q5:wr.cell? (aP g (k*15+5))=some (iP x.k):=by rw [C]; exact A 5 (by omega)
    have q6:wr.cell? (aP g (k*15+6))=some (.string x.tx):=by rw [C]; exact A 6 (by omega)
    have q7:wr.cell? (aP g (k*15+7))=some (iP x.n):=by rw [C]; exact A 7 (by omega)
    have q8:wr.cell? (aP g (k*15+8))=some (iP x.a):=by rw [C]; exact A 8 (by omega)
    have q9:wr.cell? (aP g (k*15+9))=some (iP x.b):=by rw [C]; exact A 9 (by omega)
    have q10:wr.cell? (aP g (k*15+10))=some (.slice x.xa x.xl x.xc):=by rw [C]; exact A 10 (by omega)
    have q11:wr.cell? (aP g (k*15+11))=some (.slice x.ya x.yl x.yc):=by rw [C]; exact A 11 (by omega)
    have q12:wr.cell? (aP g (k*15+12))=some (.slice x.za x.zl x.zc):=by rw [C]; exact A 12 (by omega)
    have q13:wr.cell? (aP g (k*15+13))=some (iP ds[k].li):=by rw [C]; exact A 13 (by omega)
    have q14:wr.cell? (aP g (k*15+14))=some (iP ds[k].co):=by rw [C]; exact A 14 (by omega)
    have H:=Za (jS ds[k] (ds.take k) 0 []);rw [List.take_append_getElem Z8,List.length_take,Nat.min_eq_left (by omega),Nat.zero_add] at H;have F:=jQ (ds.take k) 0 [];rw [List.length_take,List.length_nil] at F;have Mj:=HN.o ds[k] (List.getElem_mem Z8);obtain⟨d,hd⟩:=xE (ds[k]);rw [<- hd] at q0 q1 q2 q13 q14 H Mj;clear hd C A hxv
    have Z:(⟨d.nm.toArray⟩:bA).size<=maxLen:=by simp [ByteArray.size]; unfold maxLen; omega
    obtain⟨acc,A0⟩:=xE (Kg 0 (ds.take k) []);rw [<- A0] at N H F;clear A0;have T:xQ (Te (wr.alloc (G7 x d)) w.heap.size acc):=N.o.block (xA N.o.lt)
    have O:=fun r (h:Yp acc d.nm=r)=>(show Yp acc (⟨d.nm.toArray⟩:bA).data.toList=r by simpa using h)
    have Xa:xQ (Below w.heap.size w (wr.alloc (G7 x d))):=J.o.alloc J.o.size _
    have z:Yp acc d.nm=none∨∃ j,Yp acc d.nm=some j:=by cases Yp acc d.nm <;> simp
    rcases z with z | ⟨j,z⟩
    ·have HL:=Za (O _ z)
     rw [z] at H;clear O z
     go_wp2_with(first
      | (at_lookup; refine Ao rfl _ _ rfl w.heap.size acc rfl T.o ⟨d.nm.toArray⟩ rfl Z none HL.o ?_)
      | (at_mapUpdate; refine zli rfl _ _ _ rfl w.heap.size acc rfl T.o (by omega) ⟨d.nm.toArray⟩ rfl Z k rfl (by omega) ?_; intro w3 M I; have Lj:=Za M; have Y:=Za I; clear M I)
      | fail)
     go_roundw
     case rel =>
      refine⟨k+1,by omega,by go_num,?_,?_⟩
      ·show Te _ _ _
       rw [H.o];exact Lj.o
      ·exact Xa.o.grown Y.o (by rw [xS]; have:=J.o.size; omega) fun q e=>by injection e with e; omega
     case measure=>simp [intOf]; omega
    ·have HL:=Za (O _ z)
     rw [z] at H;clear O z
     go_wp2_with(first
      | (at_lookup; refine Ao rfl _ _ rfl w.heap.size acc rfl T.o ⟨d.nm.toArray⟩ rfl Z (some j) HL.o ?_)
      | fail)
     go_roundw
     case rel =>
      refine⟨k+1,by omega,by go_num,?_,?_⟩
      ·show Te _ _ _
       rw [H.o];exact T.o
      ·exact Xa.o
     case measure=>simp [intOf]; omega
   ·have Un:¬ (k:Int)<(ds.length:Int):=by omega
    have e:k=ds.length:=by omega
    subst e;rw [List.take_length] at N;go_wp2_with fail;go_ret;exact⟨rfl,N.o,J.o⟩
theorem Z0.lower {B B':Nat} {S:Nat->Prop} {w w1:wD} (h:Z0 B S w w1) (j:B'<=B):Z0 B' S w w1:=⟨h.below.mono j,h.keep⟩
theorem Xt.chg {α:Type} {rep:Nat->wD->List vL->α->Prop} {B J:Nat} {G G' S:Nat->Prop} {wx w4:wD} {c:List vL} {x:α} (h:Xt rep B G wx c x) (z:Z0 J S wx w4) (C:∀ b,S b->b<B∨G b) (O:∀ q,G' q->G q∨wx.heap.size<=q):Xt rep B G' w4 c x:=by
 obtain⟨M,lo,A,T,F,H,j⟩:=h
 refine⟨M,lo,A,T,Nat.le_trans F z.size,fun b I N=>(z.keep b (by omega) ?_).trans (H b I N),fun k V=>?_⟩
 ·intro e
  rcases C b e with h | h
  ·omega
  ·rcases j b h with h | h <;> omega
 ·rcases O k V with h | h
  ·exact j k h
  ·exact .inr (by omega)
def Mn (vN vM vF vD:vL) (q:Nat):Prop:=vN.ownBlock=some q∨vM.ownBlock=some q∨vF.ownBlock=some q∨vD.ownBlock=some q
abbrev Q0 (x:MV):List vL:=[.slice x.ia x.il x.ic,.slice x.da x.dl x.dc]
abbrev Le (s:Bs):vL:=uP s
abbrev Ra (nb:Nat) (vN vM vF vD:vL):Obj:=lkO vN vM nP sP (iP 0) (iP 0) (.map (some nb)) vF vD
structure P1 (lo kb nb:Nat) (w:wD) (L:L1) (vN vM vF vD:vL) (xs:List MV) (fb:List Nat):Prop where
 box:w.heap[kb]?=some (Ra nb vN vM vF vD)
 num:Te w nb L.num
 rN:w.ownsRow lo 9 1 vN L.names.length (L.names.map Le)
 rM:w.ownsRow lo 40 2 vM L.mods.length (xs.flatMap Q0)
 rF:w.ownsRow lo 49 1 vF fb.length (fb.map fun b => .map (some b))
 rD:w.ownsRow lo 47 4 vD L.ds.length (L.ds.flatMap U3)
 xl:xs.length=L.mods.length
 mods:∀ i (h1:i<xs.length) (h2:i<L.mods.length),Xt M4 lo (Mn vN vM vF vD) w (Q0 xs[i]) L.mods[i]
 fst:∀ i (h1:i<fb.length) (h2:i<L.mods.length),lo<=fb[i]/\Te w fb[i] (Mt L.mods[i])
 good:∀ o ∈ L.mods,Aq o
 nil:L.ds=[]->vD=nP
 lt1:nb<kb
 lt2:kb<lo
 lt3:lo<=w.heap.size
section
variable {lo kb nb B : Nat} {w w' : wD} {L : L1} {vN vM vF vD vN' vM' vF' vD' : vL} {xs : List MV} {fb : List Nat} {S : Nat -> Prop}
theorem P1.apart (h:P1 lo kb nb w L vN vM vF vD xs fb) {q:Nat} (z:Mn vN vM vF vD q):lo<=q/\q<w.heap.size/\∃ cur t,w.heap[q]?=some (.cells cur t (0,0)):=by
 rcases z with e | e | e | e
 ·obtain⟨c,j⟩:=Jl h.rN e
  exact⟨(h.rN.lt q e).1,(h.rN.lt q e).2,c,_,j⟩
 ·obtain⟨c,j⟩:=Jl h.rM e
  exact⟨(h.rM.lt q e).1,(h.rM.lt q e).2,c,_,j⟩
 ·obtain⟨c,j⟩:=Jl h.rF e
  exact⟨(h.rF.lt q e).1,(h.rF.lt q e).2,c,_,j⟩
 ·obtain⟨c,j⟩:=Jl h.rD e
  exact⟨(h.rD.lt q e).1,(h.rD.lt q e).2,c,_,j⟩
theorem P1.fst' (h:P1 lo kb nb w L vN vM vF vD xs fb) (H:Z0 B S w w') (J:∀ b,S b->b=kb∨b=nb∨Mn vN vM vF vD b):∀ i (z:i<fb.length) (C:i<L.mods.length),lo<=fb[i]/\Te w' fb[i] (Mt L.mods[i]):=fun i z C=>by
 obtain⟨F,j⟩:=h.fst i z C
 refine⟨F,j.block (H.keep _ j.lt fun e=>?_)⟩
 have:=h.lt1
 have:=h.lt2
 rcases J _ e with e | e | e
 ·omega
 ·omega
 ·obtain⟨_,_,cur,t,I⟩:=h.apart e
  obtain⟨es,ck,A⟩:=j.obj;rw [I] at A;cases A
theorem P1.mods' (h:P1 lo kb nb w L vN vM vF vD xs fb) (A:Z0 B S w w') (F:∀ b,S b->b=kb∨b=nb∨Mn vN vM vF vD b) {G:Nat->Prop} (C:∀ q,G q->Mn vN vM vF vD q∨w.heap.size<=q):∀ i (j:i<xs.length) (z:i<L.mods.length),Xt M4 lo G w' (Q0 xs[i]) L.mods[i]:=fun i j z =>
 (h.mods i j z).chg A (fun b e=>by
  have:=h.lt1;have:=h.lt2;rcases F b e with e | e | e
  ·exact .inl (by omega)
  ·exact .inl (by omega)
  ·exact .inr e) C
theorem P1.num' (h:P1 lo kb nb w L vN vM vF vD xs fb) (z:Z0 B S w w') (j:∀ b,S b->b=kb∨Mn vN vM vF vD b):Te w' nb L.num :=
 h.num.block (z.keep nb h.num.lt fun e=>by
  have:=h.lt1;have:=h.lt2;rcases j _ e with e | e
  ·omega
  ·have:=(h.apart e).1
   omega)
theorem P1.nokb (h:P1 lo kb nb w L vN vM vF vD xs fb) {q:Nat} (j:Mn vN vM vF vD q):q≠kb/\q≠nb:=by
 have:=(h.apart j).1
 have:=h.lt1
 have:=h.lt2
 exact⟨by omega,by omega⟩
abbrev Jt (w:wD) (v v':vL):Prop:=v'.ownBlock=v.ownBlock∨∃ q,v'.ownBlock=some q/\w.heap.size<=q
theorem Jt.own {v v':vL} (h:Jt w v v') {q:Nat} (j:v'.ownBlock=some q):v.ownBlock=some q∨w.heap.size<=q:=by
 rcases h with e | ⟨r,e,hr⟩
 ·exact .inl (by rw [<- e]; exact j)
 ·rw [e] at j
  injection j with j;exact .inr (by omega)
theorem P1.tell (h:P1 lo kb nb w L vN vM vF vD xs fb) {d:Dg} (J:w'.heap[kb]?=some (Ra nb vN vM vF vD')) (H:w'.ownsRow lo 47 4 vD' (L.ds.length+1) (L.ds.flatMap U3 ++ U3 d)) (hm:Jt w vD vD') (j:Z0 kb (fun b=>b=kb∨vD.ownBlock=some b) w w') :
  P1 lo kb nb w' { L with ds:=L.ds ++ [d] } vN vM vF vD' xs fb:=by
 have I:∀ b,b=kb∨vD.ownBlock=some b->b=kb∨Mn vN vM vF vD b:=fun b e=>e.imp_right fun e => .inr (.inr (.inr e))
 have z:∀ b,b=kb∨vD.ownBlock=some b->b=kb∨b=nb∨Mn vN vM vF vD b:=fun b e=>e.imp_right fun e => .inr (.inr (.inr (.inr e)))
 have C:∀ {et k n:Nat} {v:vL} {N:List vL},w.ownsRow lo et k v n N->et≠47->∀ q,v.ownBlock=some q->¬ (q=kb∨vD.ownBlock=some q):=fun F M q A e=>by
  rcases e with e | e
  ·have:=(F.lt q A).1
   have:=h.lt2;omega
  ·exact M7 F h.rD M q A e
 exact {
  box:=J
  num:=h.num' j I
  rN:=j.row h.rN (C h.rN (by decide))
  rM:=j.row h.rM (C h.rM (by decide))
  rF:=j.row h.rF (C h.rF (by decide))
  rD:=by
   show w'.ownsRow _ _ _ _ (L.ds ++ [d]).length ((L.ds ++ [d]).flatMap U3);rw [List.length_append,List.flatMap_append]
   simpa using H
  xl:=h.xl
  mods:=h.mods' j z fun q A=>by
   rcases A with e | e | e | e
   ·exact .inl (.inl e)
   ·exact .inl (.inr (.inl e))
   ·exact .inl (.inr (.inr (.inl e)))
   ·exact(hm.own e).imp_left fun e => .inr (.inr (.inr e))
  fst:=h.fst' j z
  nil:=fun e=>absurd e (by simp)
  good:=h.good
  lt1:=h.lt1
  lt2:=h.lt2
  lt3:=Nat.le_trans h.lt3 j.size }
theorem P1.put (h:P1 lo kb nb w L vN vM vF vD xs fb) {p:Bs×Nat} (F:Te w' nb (p :: L.num)) (H:w.grownBy w' (some nb)):P1 lo kb nb w' { L with num:=p :: L.num } vN vM vF vD xs fb:=by
 have j:Z0 nb (fun b=>b=nb) w w':=(Z0.refl nb _ w).grown H (Nat.le_of_lt h.num.lt) fun q e=>by injection e with e; exact⟨by omega,fun _=>e.symm⟩
 have C:∀ b,b=nb->b=kb∨b=nb∨Mn vN vM vF vD b:=fun b e => .inr (.inl e)
 have z:∀ {q:Nat},Mn vN vM vF vD q->¬ q=nb:=fun A=>(h.nokb A).2
 exact {
  box:=j.obj h.box (by have:=h.lt1; omega)
  num:=F
  rN:=j.row h.rN fun q e=>z (.inl e)
  rM:=j.row h.rM fun q e=>z (.inr (.inl e))
  rF:=j.row h.rF fun q e=>z (.inr (.inr (.inl e)))
  rD:=j.row h.rD fun q e=>z (.inr (.inr (.inr e)))
  xl:=h.xl
  mods:=h.mods' j C fun q A => .inl A
  fst:=h.fst' j C
  nil:=h.nil
  good:=h.good
  lt1:=h.lt1
  lt2:=h.lt2
  lt3:=Nat.le_trans h.lt3 j.size }
theorem P1.below (h:P1 lo kb nb w L vN vM vF vD xs fb) (z:Below w.heap.size w w'):P1 lo kb nb w' L vN vM vF vD xs fb:=by
 have j:Z0 0 (fun _=>False) w w':=Z0.of z (xZ _)
 exact {
  box:=j.obj h.box id
  num:=h.num.block (z.block _ h.num.lt)
  rN:=j.row h.rN fun _ _=>id
  rM:=j.row h.rM fun _ _=>id
  rF:=j.row h.rF fun _ _=>id
  rD:=j.row h.rD fun _ _=>id
  xl:=h.xl
  mods:=h.mods' j (fun _ e=>e.elim) fun q A => .inl A
  fst:=h.fst' j (fun _ e=>e.elim)
  nil:=h.nil
  good:=h.good
  lt1:=h.lt1
  lt2:=h.lt2
  lt3:=Nat.le_trans h.lt3 z.size }
theorem P1.drew (h:P1 lo kb nb w L vN vM vF vD xs fb):P1 lo kb nb w.drew L vN vM vF vD xs fb:=h.below (Below.refl _ w).drew
theorem P1.alloc (h:P1 lo kb nb w L vN vM vF vD xs fb) (o:Obj):P1 lo kb nb (w.alloc o) L vN vM vF vD xs fb:=h.below (Zq w o)
theorem P1.pushN (h:P1 lo kb nb w L vN vM vF vD xs fb) {s:Bs} (J:w'.heap[kb]?=some (Ra nb vN' vM vF vD)) (H:w'.ownsRow lo 9 1 vN' (L.names.length+1) (L.names.map Le ++ [Le s])) (hm:Jt w vN vN') (j:Z0 kb (fun b=>b=kb∨vN.ownBlock=some b) w w') :
  P1 lo kb nb w' { L with names:=L.names ++ [s] } vN' vM vF vD xs fb:=by
 have I:∀ b,b=kb∨vN.ownBlock=some b->b=kb∨Mn vN vM vF vD b:=fun b e=>e.imp_right fun e => .inl e
 have z:∀ b,b=kb∨vN.ownBlock=some b->b=kb∨b=nb∨Mn vN vM vF vD b:=fun b e=>e.imp_right fun e => .inr (.inl e)
 have C:∀ {et k n:Nat} {v:vL} {N:List vL},w.ownsRow lo et k v n N->et≠9->∀ q,v.ownBlock=some q->¬ (q=kb∨vN.ownBlock=some q):=fun F M q A e=>by
  rcases e with e | e
  ·have:=(F.lt q A).1
   have:=h.lt2;omega
  ·exact M7 F h.rN M q A e
 exact {
  box:=J
  num:=h.num' j I
  rN:=by
   show w'.ownsRow _ _ _ _ (L.names ++ [s]).length ((L.names ++ [s]).map Le);rw [List.length_append,List.map_append];exact H
  rM:=j.row h.rM (C h.rM (by decide))
  rF:=j.row h.rF (C h.rF (by decide))
  rD:=j.row h.rD (C h.rD (by decide))
  xl:=h.xl
  mods:=h.mods' j z fun q A=>by
   rcases A with e | e
   ·exact(hm.own e).imp_left .inl
   ·exact .inl (.inr e)
  fst:=h.fst' j z
  nil:=h.nil
  good:=h.good
  lt1:=h.lt1
  lt2:=h.lt2
  lt3:=Nat.le_trans h.lt3 j.size }
theorem P1.pushM (h:P1 lo kb nb w L vN vM vF vD xs fb) {x:MV} {o:Mo} (hb:w'.heap[kb]?=some (Ra nb vN vM' vF vD)) (V:w'.ownsRow lo 40 2 vM' (L.mods.length+1) (xs.flatMap Q0 ++ Q0 x)) (hm:Jt w vM vM') (j:Z0 kb (fun b=>b=kb∨vM.ownBlock=some b) w w')
  (F:Xt M4 lo (Mn vN vM vF vD) w (Q0 x) o) (hg:Aq o) (hf:fb.length<=L.mods.length):P1 lo kb nb w' { L with mods:=L.mods ++ [o] } vN vM' vF vD (xs ++ [x]) fb:=by
 have M:∀ b,b=kb∨vM.ownBlock=some b->b=kb∨Mn vN vM vF vD b:=fun b e=>e.imp_right fun e => .inr (.inl e)
 have C:∀ b,b=kb∨vM.ownBlock=some b->b=kb∨b=nb∨Mn vN vM vF vD b:=fun b e=>e.imp_right fun e => .inr (.inr (.inl e))
 have O:∀ q,Mn vN vM' vF vD q->Mn vN vM vF vD q∨w.heap.size<=q:=fun q H=>by
  rcases H with e | e | e
  ·exact .inl (.inl e)
  ·exact(hm.own e).imp_left fun e => .inr (.inl e)
  ·exact .inl (.inr (.inr e))
 have J:∀ {et k n:Nat} {v:vL} {ys:List vL},w.ownsRow lo et k v n ys->et≠40->∀ q,v.ownBlock=some q->¬ (q=kb∨vM.ownBlock=some q):=fun F Z1 q H e=>by
  rcases e with e | e
  ·have:=(F.lt q H).1
   have:=h.lt2;omega
  ·exact M7 F h.rM Z1 q H e
 exact {
  box:=hb
  num:=h.num' j M
  rN:=j.row h.rN (J h.rN (by decide))
  rM:=by
   show w'.ownsRow _ _ _ _ (L.mods ++ [o]).length ((xs ++ [x]).flatMap Q0);rw [List.length_append,List.flatMap_append]
   simpa using V
  rF:=j.row h.rF (J h.rF (by decide))
  rD:=j.row h.rD (J h.rD (by decide))
  xl:=by simp [h.xl]
  mods:=fun i I h2=>by
   by_cases N:i<xs.length
   ·have A:i<L.mods.length:=by have:=h.xl; omega
    have:=h.mods' j C O i N A;simp only [List.getElem_append_left N,List.getElem_append_left A];exact this
   ·have e1:i=xs.length:=by simp at I; omega
    have Y:i=L.mods.length:=by have:=h.xl; omega
    have:=F.chg j (fun b e=>by
     rcases M b e with e | e
     ·have:=h.lt2
      exact .inl (by omega)
     ·exact .inr e) O
    have Z:(xs ++ [x])[i]=x:=by subst e1; simp
    have T:(L.mods ++ [o])[i]=o:=by subst Y; simp
    show Xt M4 lo _ w' (Q0 (xs ++ [x])[i]) (L.mods ++ [o])[i];rw [Z,T];exact this
  fst:=fun i I h2=>by
   have A:i<L.mods.length:=by omega
   have:=h.fst' j C i I A;show _/\Te w' fb[i] (Mt (L.mods ++ [o])[i]);rw [List.getElem_append_left A];exact this
  nil:=h.nil
  good:=fun y z=>by
   rcases List.mem_append.1 z with z | z
   ·exact h.good y z
   ·rw [List.mem_singleton] at z
    subst z;exact hg
  lt1:=h.lt1
  lt2:=h.lt2
  lt3:=Nat.le_trans h.lt3 j.size }
theorem P1.pushF (h:P1 lo kb nb w L vN vM vF vD xs fb) {b:Nat} (hb:w'.heap[kb]?=some (Ra nb vN vM vF' vD)) (T:w'.ownsRow lo 49 1 vF' (fb.length+1) (fb.map (fun b => .map (some b)) ++ [.map (some b)])) (hm:Jt w vF vF') (j:Z0 kb (fun b=>b=kb∨vF.ownBlock=some b) w w')
  (A:∀ I:fb.length<L.mods.length,Te w b (Mt L.mods[fb.length])) (Y:lo<=b):P1 lo kb nb w' L vN vM vF' vD xs (fb ++ [b]):=by
 have J:∀ b,b=kb∨vF.ownBlock=some b->b=kb∨Mn vN vM vF vD b:=fun b e=>e.imp_right fun e => .inr (.inr (.inl e))
 have z:∀ b,b=kb∨vF.ownBlock=some b->b=kb∨b=nb∨Mn vN vM vF vD b:=fun b e=>e.imp_right fun e => .inr (.inr (.inr (.inl e)))
 have H:∀ {et k n:Nat} {v:vL} {ys:List vL},w.ownsRow lo et k v n ys->et≠49->∀ q,v.ownBlock=some q->¬ (q=kb∨vF.ownBlock=some q):=fun A Z1 q C e=>by
  rcases e with e | e
  ·have:=(A.lt q C).1
   have:=h.lt2;omega
  ·exact M7 A h.rF Z1 q C e
 exact {
  box:=hb
  num:=h.num' j J
  rN:=j.row h.rN (H h.rN (by decide))
  rM:=j.row h.rM (H h.rM (by decide))
  rF:=by
   rw [List.length_append,List.map_append];exact T
  rD:=j.row h.rD (H h.rD (by decide))
  xl:=h.xl
  mods:=h.mods' j z fun q C=>by
   rcases C with e | e | e | e
   ·exact .inl (.inl e)
   ·exact .inl (.inr (.inl e))
   ·exact(hm.own e).imp_left fun e => .inr (.inr (.inl e))
   ·exact .inl (.inr (.inr (.inr e)))
  fst:=fun i O I=>by
   by_cases N:i<fb.length
   ·have:=h.fst' j z i N I
    rw [List.getElem_append_left N];exact this
   ·have e1:i=fb.length:=by simp at O; omega
    subst e1
    have Z:(fb ++ [b])[fb.length]=b:=by simp
    rw [Z];have F:=A I;refine⟨Y,F.block (j.keep b F.lt fun e=>?_)⟩;rcases J b e with e | e
    ·have:=h.lt2
     omega
    ·obtain⟨_,_,cur,t,V⟩:=h.apart e
     obtain⟨es,ck,M⟩:=F.obj;rw [V] at M;cases M
  nil:=h.nil
  good:=h.good
  lt1:=h.lt1
  lt2:=h.lt2
  lt3:=Nat.le_trans h.lt3 j.size }
end
end
end Go.Proofs.YtoppemkjhhlegaaGreatDoor
