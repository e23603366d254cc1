/- Part. -/
import Derived.Test.YtoppemkjhhlegaaGreatDoorPart26
set_option maxRecDepth 100000
set_option maxHeartbeats 4000000
namespace Go.Proofs.YtoppemkjhhlegaaGreatDoor
open Go.Proofs.Tryz
open Go.RowKit
attribute [local go_sem ↓] Go.wp_at_zero Go.wp_at_succ
def NdQ (lo:Nat) (w:World) (c:List Value) (x:Option Ty):Prop:=(∃ y:NV,c=[iP y.k,.string y.tx,iP y.N,iP y.li,iP y.co,.slice y.ta y.tl y.tc,.slice y.na y.nl y.nc,.slice y.ka y.kl y.kc])/\∀ t,x=some t->E1 lo w c t
theorem ndQ_of {lo:Nat} {w:World} {y:NV} {R:Pr Ty} (h:Wl lo w y R):NdQ lo w [iP y.k,.string y.tx,iP y.N,iP y.li,iP y.co,.slice y.ta y.tl y.tc,.slice y.na y.nl y.nc,.slice y.ka y.kl y.kc] (Vy R) :=
 ⟨⟨y,rfl⟩,fun t e=>by
  cases R with
  | inr p=>cases e
  | inl q =>
   obtain⟨x,b⟩:=q;injection e with e;rw [<- e]
   exact dN (h x b rfl)⟩
theorem zhm {B et:Nat} {o:Option Nat} {wx:World} {v:Value} {cs:List (List Value)} {l:List Ty} (h:Yq NdQ B et 8 o wx v cs (l.map some)):Yq E1 B et 8 o wx v cs l:=by
 refine⟨by rw [h.len,List.length_map],h.each,by have:=h.ow; rwa [List.length_map] at this,h.apart,h.olt,fun i z C=>?_⟩
 obtain⟨j,lo,F,A⟩:=h.made i z (by rw [List.length_map]; exact C)
 exact⟨j,lo,F.2 _ (by rw [List.getElem_map]),A⟩
theorem RX.drewN {pb tb cap d:Nat} {ts:List Tok} {w0 w:World} {S:Yd} {bx:List (Nat×Obj)} (h:RX pb tb cap ts w0 w d S bx) (n:Nat):RX pb tb cap ts w0 (w.drewN n) d S bx :=
 h.step (Zl.of h.at_.ltp (below_drewN (Below.refl _ _) n)) (h.at_.below (below_drewN (Below.refl _ _) n))
section
variable (ts : List Tok) (E : Nat -> Pr Ty) (f a : Nat)
def rcF:Pr Ty:=(Z9 ts (Qy ts E) [44] f (a+1)).go fun l b=>(Ze ts b [125]).go fun _ b => .inl (Zp 8 [] 0 (Yj ts a) (Yi ts a) [] (l.map (·.1)) (l.map (·.2)),b)
def Oc:Pr Ty:=(E (a+1)).go fun x b=>(Ze ts b [119,105,116,104]).go fun _ b=>(Zu ts b).go fun s b=>(Ze ts b [58]).go fun _ b=>(E b).go fun y b=>(Ze ts b [125]).go fun _ b => .inl (Zp 10 s 0 (Yj ts a) (Yi ts a) [] [] [x,y],b)
end
theorem bH {ts:List Tok} {E:Nat->Pr Ty} {a:Nat} {R C A:Pr Ty} {F:Pr (List UInt8)} {h z:Yd} (O:R=Oc ts E a) (J:C=Zi E (.inl (a+1))) (M:h=Zf (Zi (fun a=>Ze ts a [119,105,116,104]) (Zf C))) (H:F=Zi (Zu ts) h) (I:z=Zf (Zi (fun a=>Ze ts a [58]) (Zf F))) (N:A=Zi E z) {j:Yd} (T:j=Zf (Zi (fun a=>Ze ts a [125]) (Zf A))):Zf R=j:=by
 rw [O,T,N,I,H,M,J]
 unfold Oc
 refine Jx _ _ (fun S=>Zf (Zi (fun a=>Ze ts a [125]) (Zf (Zi E (Zf (Zi (fun a=>Ze ts a [58]) (Zf (Zi (Zu ts) (Zf (Zi (fun a=>Ze ts a [119,105,116,104]) S)))))))))) (fun _=>rfl) fun x b _=>?_
 refine Jx _ _ (fun S=>Zf (Zi (fun a=>Ze ts a [125]) (Zf (Zi E (Zf (Zi (fun a=>Ze ts a [58]) (Zf (Zi (Zu ts) S)))))))) (fun _=>rfl) fun _ b _=>?_
 refine Jx _ _ (fun S=>Zf (Zi (fun a=>Ze ts a [125]) (Zf (Zi E (Zf (Zi (fun a=>Ze ts a [58]) S)))))) (fun _=>rfl) fun s b _=>?_
 refine Jx _ _ (fun S=>Zf (Zi (fun a=>Ze ts a [125]) (Zf (Zi E S)))) (fun _=>rfl) fun _ b _=>?_
 refine Jx _ _ (fun S=>Zf (Zi (fun a=>Ze ts a [125]) S)) (fun _=>rfl) fun y b _=>?_
 exact qH (Ze ts b [125]) fun _=>Zp 10 s 0 (Yj ts a) (Yi ts a) [] [] [x,y]
theorem bI {ts:List Tok} {E:Nat->Pr Ty} {a:Nat} {R h H:Pr Ty} {j:Pr (List UInt8)} {A C:Yd} (h0:R=Oc ts E a) (Y:h=Zi E (.inl (a+1))) (h4:A=Zf (Zi (fun a=>Ze ts a [119,105,116,104]) (Zf h))) (J:j=Zi (Zu ts) A) (T:C=Zf (Zi (fun a=>Ze ts a [58]) (Zf j))) (h7:H=Zi E C) {D:Ty} {c:Nat} (e:R = .inl (D,c)):∃ x b3 s' b5 y z,h = .inl (x,b3)/\j = .inl (s',b5)/\H = .inl (y,z)/\D=Zp 10 s' 0 (Yj ts a) (Yi ts a) [] [] [x,y]:=by
 rw [h0] at e
 unfold Oc at e
 obtain⟨x,b3,k3,e⟩:=Ni e
 obtain⟨_,b4,V,e⟩:=Ni e
 obtain⟨s',b5,k5,e⟩:=Ni e
 obtain⟨_,Z,O,e⟩:=Ni e
 obtain⟨y,z,N,e⟩:=Ni e
 obtain⟨_,b8,_,e⟩:=Ni e
 injection e with e
 injection e with e _
 have F:h = .inl (x,b3):=by rw [Y]; exact k3
 have g4:A = .inl b4:=by rw [h4,F]; show Zf (Ze ts b3 [119,105,116,104])=_; rw [V]; rfl
 have I:j = .inl (s',b5):=by rw [J,g4]; exact k5
 have M:C = .inl Z:=by rw [T,I]; show Zf (Ze ts b5 [58])=_; rw [O]; rfl
 exact⟨x,b3,s',b5,y,z,F,I,by rw [h7,M]; exact N,e.symm⟩
theorem rrec_c (pb tb cap d:Nat) (ts:List Tok) (ok:Ym ts) (E:Nat->Pr Ty) (f:Nat) (hf:ts.length<=f+1) (hu:∀ a x b,E a = .inl (x,b)->a<=b)
  (hE:∀ S w,Z2 w pb tb cap ts d S->Calls prog 61 #[.pointer (some (aP pb 0))] w (V0 pb tb cap ts d w (Zi E S)))
  (a li co:Nat) (w:World) (Ge:li=Yj ts a) (Pv:co=Yi ts a) (h:Z2 w pb tb cap ts d (.inl (a+1))) :
  Calls prog 132 #[.pointer (some (aP pb 0)),(Yf 2 li co).val] w (V0 pb tb cap ts d w (Aj ts E (f+1) a)):=by
 have OK:=Za ok
 have HE:=Za hE
 have HU:=Za hu
 have Xp:=Za (And.intro Ge Pv)
 have hp:=h.ltp
 obtain⟨R,hR⟩:=xE (Aj ts E (f+1) a)
 rw [<- hR]
 have HR:=Za hR
 have H0:=Za h
 clear h hR hE hu Ge Pv
 go_enter func132,ntmps132
 go_wp2_with fail
 obtain⟨nb,Vc⟩:=xE w.heap.size
 obtain⟨W0,Vg⟩:=xE ((w.alloc (.cells #[iP 8,.string ⟨#[]⟩,iP 0,iP li,iP co,.slice none 0 0,.slice none 0 0,.slice none 0 0] 64)).alloc (.cells #[iP 0,.string ⟨#[]⟩,iP 0,iP 0,iP 0,.slice none 0 0,.slice none 0 0,.slice none 0 0] 64))
 rw [<- Vg,<- Vc]
 have X0:xQ (RX pb tb cap ts w W0 d (.inl (a+1)) [(nb,(Yf 8 li co).obj),(nb+1,Zj.obj)]):=by
  have h1:=(Hb H0.o (Yf 8 li co).obj).alloc Zj.obj;rw [xS,<- Vc] at h1;rw [Vg];exact h1.perm (by simp)
 obtain⟨rb,Bp⟩:=xE (nb+1)
 rw [<- Bp] at X0 ⊢
 have hwn:w.heap.size<=nb:=by omega
 have hnr:nb<rb:=by omega
 have HRB:xQ (rb=w.heap.size+1):=by rw [Bp,Vc]; exact rfl
 clear Vc Bp Vg H0
 refine(Vi pb tb cap d ts (.inl (a+1)) [125] _ X0.o.at_ OK.o).mono ?_
 rintro e wt ⟨rfl,A,C⟩
 have X:=Za (X0.o.step A C)
 clear A C X0
 cases V:Y2 ts (.inl (a+1)) [125] with
 | true =>
  rw [V,if_pos rfl] at X
  have Yy:xQ (R = .inl (Zp 8 [] 0 (Yj ts a) (Yi ts a) [] [] [],a+2)):=by
   rw [HR.o];exact if_pos V
  clear V HR;obtain⟨⟨n0,n1,n2,n3,n4,n5,n6,n7⟩,⟨g0,g1,g2,g3,g4,g5,g6,g7⟩,Yb⟩:=Zn (X.o.box (p:=(nb,(Yf 8 li co).obj)) (by simp));obtain⟨⟨r0,r1,r2,r3,r4,r5,r6,r7⟩,⟨f0,f1,f2,f3,f4,f5,f6,f7⟩,Xe⟩:=Zn (X.o.box (p:=(rb,Zj.obj)) (by simp))
  have Ub:¬ nb=rb:=by omega
  have Up:¬ rb=nb:=by omega
  go_wp2_with fail;obtain⟨Wf,Zm⟩:=xE ((((((((wt.setCell (aP rb 0) (iP 8)).setCell (aP rb 1) (.string ⟨#[]⟩)).setCell (aP rb 2) (iP 0)).setCell (aP rb 3) (iP li)).setCell (aP rb 4) (iP co)).setCell (aP rb 5) (.slice none 0 0)).setCell (aP rb 6) (.slice none 0 0)).setCell (aP rb 7) (.slice none 0 0));rw [<- Zm]
  obtain⟨T,Xd,Tm⟩:Left pb tb cap ts w d (.inl (a+2)) rb nb wt Wf ⟨8,⟨#[]⟩,0,li,co,none,0,0,none,0,0,none,0,0⟩ 0:=by rw [Zm]; exact I0 (rb:=rb) X.o (by simp) nb ⟨8,⟨#[]⟩,0,li,co,none,0,0,none,0,0,none,0,0⟩
  clear Zm;replace T:=Za T;refine Bt rfl rfl (T.o.box xM) rfl ⟨T.o.st,?_,⟨8,⟨#[]⟩,0,li,co,none,0,0,none,0,0,none,0,0⟩,rfl,fun D c e=>?_⟩
  ·rw [Yy.o]; exact T.o.at_
  ·rw [Yy.o] at e
   injection e with e;injection e with e _;rw [<- e,<- Xp.o.1,<- Xp.o.2];exact⟨1,[],[],[],rfl,⟨rfl,rfl,rfl⟩,⟨xZ _,xZ _,xZ _⟩,.inl rfl,.inl rfl,.inl rfl⟩
 | false =>
 rw [V,if_neg (by simp)] at X
 have Zy:xQ (R=if (Zk ts (a+1)).kind == 1 && ((Zk ts (a+2)).kind == 5 && (Zk ts (a+2)).text == [58])then rcF ts E (f+1) a else Oc ts E a):=by
  rw [HR.o];exact if_neg (by rw [show Zg ts (a+1) [125]=false from V]; simp)
 clear V HR
 obtain⟨a',ha⟩:=X.o.at_
 obtain rfl:a+1=a':=ha.live (a+1) rfl
 have Bf:((a+1:Nat):Int)<(ts.length:Int):=by have:=ha.lt; omega
 have haL:=ha.lt
 obtain⟨t,ht⟩:=xE (Zk ts (a+1))
 have HT:=Za ht
 have HS:xQ (∀ W,Below wt.heap.size wt W->W.cell? (aP pb 0)=some (.slice (some (aP tb 0)) ts.length cap)/\W.cell? (aP pb 1)=some (iP ((a+1:Nat):Int))/\d4 W tb ((a+1)*4) (iP t.kind) (.string ⟨t.text.toArray⟩) (iP t.line) (iP t.col)):=fun W hW=>by
  have h1:=ha.below hW;rw [ht];obtain⟨q0,q1,q2,q3⟩:=h1.toks (a+1) h1.lt;exact⟨h1.cells.1.1,h1.cells.1.2.1,q0,q1,q2,q3⟩
 obtain⟨a1,ha1⟩:=xE (a+1)
 rw [<- ha1] at HS Bf haL
 have Mf:=HS.o wt.drew (Below.refl _ _).drew
 have Y5:xQ (∀ o,_):=fun o=>HS.o ((wt.alloc o).drew) (Zq _ o).drew
 have HA1:=Za ha1
 clear ha ht ha1
 go_wp2_with fail
 go_region_held (fun W=>W.cell? (aP pb 0)=some (.slice (some (aP tb 0)) ts.length cap)/\W.cell? (aP pb 1)=some (iP a1)/\d4 W tb (a1*4) (iP t.kind) (.string ⟨t.text.toArray⟩) (iP t.line) (iP t.col)) (first | with_reducible assumption | with_reducible exact Y5.o _) (fail)
 obtain⟨W2,Qo⟩:=xE ((wt.alloc (.cells #[iP t.kind,.string ⟨t.text.toArray⟩,iP t.line,iP t.col] 121)).drew)
 rw [<- Qo]
 obtain⟨qb,hqb⟩:=xE wt.heap.size
 have X2:xQ (RX pb tb cap ts w W2 d (.inl (a+1)) [(qb,Z3 t),(nb,(Yf 8 li co).obj),(rb,Zj.obj)]):=by
  rw [Qo,hqb];exact(X.o.alloc (Z3 t)).drew
 rw [<- hqb]
 have hrq:rb<qb:=by have:=xB (X.o.box (p:=(rb,Zj.obj)) (by simp)); omega
 clear Qo HS Y5 Mf X hqb
 obtain⟨⟨t0,t1,t2,t3⟩,_,Iw⟩:=Yh (X2.o.box (p:=(qb,Z3 t)) (by simp))
 obtain⟨a2,h2⟩:=X2.o.at_
 obtain rfl:a+1=a2:=h2.live (a+1) rfl
 obtain⟨⟨c0,c1,c2,c3,c4,c5⟩,_⟩:=h2.cells
 rw [<- HA1.o] at c1
 have c3':W2.cell? (aP pb 3)=some (iP 0):=c3
 have M2:xQ (∀ j,j<ts.length->W2.cell? (aP tb (j*4))=some (iP (Zk ts j).kind)/\W2.cell? (aP tb (j*4+1))=some (.string ⟨(Zk ts j).text.toArray⟩)):=fun j hj=>by
  obtain⟨q0,q1,_⟩:=h2.toks j hj;exact⟨q0,q1⟩
 have hpl2:=h2.ltp
 have htl2:=Nat.lt_trans h2.tlt h2.ltp
 clear h2 c2 c3 c4 c5
 have Zv:xQ (RX pb tb cap ts w W2 d (.inl (a+1)) [(nb,(Yf 8 li co).obj),(rb,Zj.obj)]):=X2.o.perm (by simp)
 cases hk:(t.kind == 1)with
 | false =>
  have Vt:(t.kind != 1)=true:=by rw [bne,hk]; rfl
  have Yy:xQ (R=Oc ts E a):=by
   rw [Zy.o];rw [HT.o] at hk;exact if_neg (by rw [hk]; simp)
  clear hk Zy X2 M2;go_wp2_with fail
  go_quiet(fail)
  have P9:xQ (RX pb tb cap ts w (W2.drewN nq) d (.inl (a+1)) [(nb,(Yf 8 li co).obj),(rb,Zj.obj)]):=Zv.o.drewN nq;generalize W2.drewN nq=W3 at P9 ⊢;clear Zv t0 t1 t2 t3 Iw c0 c1 c3' htl2;obtain⟨⟨n0,n1,n2,n3,n4,n5,n6,n7⟩,⟨g0,g1,g2,g3,g4,g5,g6,g7⟩,Yb⟩:=Zn (P9.o.box (p:=(nb,(Yf 8 li co).obj)) (by simp))
  have Ub:¬ nb=rb:=by omega
  have Up:¬ rb=nb:=by omega
  have X3:xQ (RX pb tb cap ts w (W3.setCell (aP nb 0) (iP 10)) d (.inl (a+1)) [(nb,NV.obj ⟨10,⟨#[]⟩,0,li,co,none,0,0,none,0,0,none,0,0⟩),(rb,Zj.obj)]):=P9.o.setB (by simp; omega) 0 (iP 10);go_wp2_with fail;refine(HE.o _ _ X3.o.at_).mono ?_;rintro e wv ⟨A,C,z,rfl,hv⟩;have Y:=Za ((X3.o.step A C).alloc z.obj);have Vk:=xB (X3.o.box (p:=(rb,Zj.obj)) (by simp));have F:xQ (Wl (rb+1) (wv.alloc z.obj) z (Zi E (.inl (a+1)))):=(Wl.lower hv Vk).below (Zq _ _)
  have Ml:=A.size;clear A C hv X3 P9 n0 n1 n2 n3 n4 n5 n6 n7 g0 g1 g2 g3 g4 g5 g6 g7 Yb;obtain⟨R3,Mu⟩:=xE (Zi E (.inl (a+1)));rw [<- Mu] at Y F;have Yz:=Za Mu;clear Mu;go_wp2_with fail;obtain⟨kb,Vt⟩:=xE wv.heap.size;rw [<- Vt] at Y Ml ⊢;clear Vt;generalize wv.alloc (.cells #[iP z.k,.string z.tx,iP z.N,iP z.li,iP z.co,.slice z.ta z.tl z.tc,.slice z.na z.nl z.nc,.slice z.ka z.kl z.kc] 64)=W4 at Y F  ⊢
  have hnkb:rb<kb:=by omega
  clear Vk Ml;go_wp2_with fail;refine(Td pb tb cap d ts (Zf R3) [119,105,116,104] _ Y.o.at_ OK.o).mono ?_;rintro e w5 ⟨rfl,A,C⟩;have X5:=Za (Y.o.step A C);replace F:=Za (F.o.stay A (by omega));clear A C Y;obtain⟨S4,Nl⟩:=xE (Zf (Zi (fun a=>Ze ts a [119,105,116,104]) (Zf R3)));rw [<- Nl] at X5;have Wm:=Za Nl;clear Nl;go_wp2_with fail;refine(Gm pb tb cap d ts S4 _ X5.o.at_ OK.o).mono ?_
  rintro e w6 ⟨rfl,A,C⟩;have X6:=Za (X5.o.step A C);replace F:=Za (F.o.stay A (by omega));clear A C X5;obtain⟨R5,Lv⟩:=xE (Zi (Zu ts) S4);rw [<- Lv] at X6 ⊢;have Wn:=Za Lv;obtain⟨s,V⟩:=xE (Vd R5);rw [<- V];have Kd:=Za V;clear V Lv;obtain⟨⟨n0,n1,n2,n3,n4,n5,n6,n7⟩,⟨g0,g1,g2,g3,g4,g5,g6,g7⟩,Yb⟩:=Zn (X6.o.box (p:=(nb,NV.obj ⟨10,⟨#[]⟩,0,li,co,none,0,0,none,0,0,none,0,0⟩)) (by simp))
  have X7:xQ (RX pb tb cap ts w (w6.setCell (aP nb 1) (.string ⟨s.toArray⟩)) d (Zf R5) [(nb,NV.obj ⟨10,⟨s.toArray⟩,0,li,co,none,0,0,none,0,0,none,0,0⟩),(kb,z.obj),(rb,Zj.obj)]):=RX.setB (X6.o.perm (bx':=[(nb,NV.obj ⟨10,⟨#[]⟩,0,li,co,none,0,0,none,0,0,none,0,0⟩),(kb,z.obj),(rb,Zj.obj)]) (by simp)) (by simp; omega) 1 (.string ⟨s.toArray⟩);replace F:=Za (Wl.stay F.o (Hc w6 nb 1 (.string ⟨s.toArray⟩)) (by omega))
  go_wp2_with fail;refine(Td pb tb cap d ts (Zf R5) [58] _ X7.o.at_ OK.o).mono ?_;rintro e w7 ⟨rfl,A,C⟩;have X8:=Za (X7.o.step A C);replace F:=Za (F.o.stay A (by omega));clear A C X6 X7 n0 n1 n2 n3 n4 n5 n6 n7 g0 g1 g2 g3 g4 g5 g6 g7 Yb;obtain⟨S6,Nm⟩:=xE (Zf (Zi (fun a=>Ze ts a [58]) (Zf R5)));rw [<- Nm] at X8;have Ln:=Za Nm;clear Nm;go_wp2_with fail;refine(HE.o _ _ X8.o.at_).mono ?_
  rintro e wv ⟨A,C,u,rfl,hv⟩;have X9:=Za ((X8.o.step A C).alloc u.obj);have Vk:=xB (X8.o.box (p:=(rb,Zj.obj)) (by simp));replace F:=Za ((F.o.stay A (by omega)).below (Zq _ u.obj));have Pb:xQ (Wl (rb+1) (wv.alloc u.obj) u (Zi E S6)):=(Wl.lower hv Vk).below (Zq _ _);have Ml:=A.size;clear A C hv X8;obtain⟨R7,Nk⟩:=xE (Zi E S6);rw [<- Nk] at X9 Pb;have Vz:=Za Nk;clear Nk
  go_wp2_with fail;obtain⟨mb,Vt⟩:=xE wv.heap.size;rw [<- Vt] at X9 Ml ⊢;clear Vt;generalize wv.alloc (.cells #[iP u.k,.string u.tx,iP u.N,iP u.li,iP u.co,.slice u.ta u.tl u.tc,.slice u.na u.nl u.nc,.slice u.ka u.kl u.kc] 64)=W9 at X9 Pb F ⊢
  have hnmb:rb<mb:=by omega
  clear Vk Ml;go_wp2_with fail;refine(Td pb tb cap d ts (Zf R7) [125] _ X9.o.at_ OK.o).mono ?_;rintro e I ⟨rfl,A,C⟩;have H:=Za (X9.o.step A C);replace F:=Za (F.o.stay A (by omega));replace Pb:=Za (Pb.o.stay A (by omega));clear A C X9;obtain⟨S8,hS8⟩:=xE (Zf (Zi (fun a=>Ze ts a [125]) (Zf R7)));rw [<- hS8] at H;have HS8:=Za hS8;clear hS8;have Xc:=Za (bH Yy.o Yz.o Wm.o Wn.o Ln.o Vz.o HS8.o)
  have Nc:=Za (fun D c e=>bI (D:=D) (c:=c) Yy.o Yz.o Wm.o Wn.o Ln.o Vz.o e);obtain⟨⟨z0,z1,z2,z3,z4,z5,z6,z7⟩,_,Z8⟩:=Zn (H.o.box (p:=(kb,z.obj)) (by simp));obtain⟨⟨u0,u1,u2,u3,u4,u5,u6,u7⟩,_,Uu⟩:=Zn (H.o.box (p:=(mb,u.obj)) (by simp))
  have Rz:¬ kb=nb:=by omega
  have hne8:¬ mb=nb:=by omega
  have Ir:¬ kb=rb:=by omega
  have A4:¬ mb=rb:=by omega
  obtain⟨⟨n0,n1,n2,n3,n4,n5,n6,n7⟩,⟨g0,g1,g2,g3,g4,g5,g6,g7⟩,Yb⟩:=Zn (H.o.box (p:=(nb,NV.obj ⟨10,⟨s.toArray⟩,0,li,co,none,0,0,none,0,0,none,0,0⟩)) (by simp));obtain⟨⟨r0,r1,r2,r3,r4,r5,r6,r7⟩,⟨f0,f1,f2,f3,f4,f5,f6,f7⟩,Xe⟩:=Zn (H.o.box (p:=(rb,Zj.obj)) (by simp))
  have yW:¬ nb=rb:=by omega
  have yX:¬ rb=nb:=by omega
  go_wp2_with fail;obtain⟨Wf,Zm⟩:=xE ((((((((((I.setCell (aP nb 7) (.slice (some (aP I.heap.size 0)) 2 2)).setCell (aP rb 0) (iP 10)).setCell (aP rb 1) (.string ⟨s.toArray⟩)).setCell (aP rb 2) (iP 0)).setCell (aP rb 3) (iP li)).setCell (aP rb 4) (iP co)).setCell (aP rb 5) (.slice none 0 0)).setCell (aP rb 6) (.slice none 0 0)).setCell (aP rb 7) (.slice (some (aP I.heap.size 0)) 2 2)).alloc (.cells #[iP z.k,.string z.tx,iP z.N,iP z.li,iP z.co,.slice z.ta z.tl z.tc,.slice z.na z.nl z.nc,.slice z.ka z.kl z.kc,iP u.k,.string u.tx,iP u.N,iP u.li,iP u.co,.slice u.ta u.tl u.tc,.slice u.na u.nl u.nc,.slice u.ka u.kl u.kc] 64))
  rw [<- Zm]
  obtain⟨T,Xd,Tm⟩:Left pb tb cap ts w d S8 rb nb I Wf ⟨10,⟨s.toArray⟩,0,li,co,none,0,0,none,0,0,(some (aP I.heap.size 0)),2,2⟩ 1:=by rw [Zm]; exact Dt (J6 (rb:=rb) H.o (by simp) (by omega) (by omega) 7 (.slice (some (aP I.heap.size 0)) 2 2) ⟨10,⟨s.toArray⟩,0,li,co,none,0,0,none,0,0,(some (aP I.heap.size 0)),2,2⟩) (Bv z u)
  have Yu:Wf.heap[I.heap.size]?=some (Bv z u):=by rw [Zm]; exact zL (J6 (rb:=rb) H.o (by simp) (by omega) (by omega) 7 (.slice (some (aP I.heap.size 0)) 2 2) ⟨10,⟨s.toArray⟩,0,li,co,none,0,0,none,0,0,(some (aP I.heap.size 0)),2,2⟩) (Bv z u) rfl
  clear Zm;replace T:=Za T;refine Bt rfl rfl (T.o.box xM) rfl ⟨T.o.st,?_,⟨10,⟨s.toArray⟩,0,li,co,none,0,0,none,0,0,(some (aP I.heap.size 0)),2,2⟩,rfl,fun D c e=>?_⟩
  ·rw [Xc.o]; exact T.o.at_
  ·obtain⟨x,b3,s',b5,y,b7,h3,h5,h7,hD⟩:=Nc.o D c e
   have hss:s=s':=by rw [Kd.o,h5]; rfl
   have hz:Y0 (rb+1) Wf z x:=(F.o x b3 h3).keep (by omega) fun c h6 h7=>Xd c (by omega) (by omega) h7
   have hu:Y0 (rb+1) Wf u y:=(Pb.o y b7 h7).keep (by omega) fun c h6 h7=>Xd c (by omega) (by omega) h7
   have:=(Dv (kb:=I.heap.size) hz hu Yu (by omega) ⟨10,⟨s.toArray⟩,0,li,co,none,0,0,none,0,0,(some (aP I.heap.size 0)),2,2⟩ [] [] ⟨rfl,rfl⟩ ⟨rfl,xZ _,0,.inl rfl⟩ ⟨rfl,xZ _,.inl rfl⟩).lower (show w.heap.size<=rb+1 by omega);rw [hD,<- hss,<- Xp.o.1,<- Xp.o.2];exact this
 | true =>
  have Vt:(t.kind != 1)=false:=by rw [bne,hk]; rfl
  have Kl:a1+1<ts.length:=OK.o.ends a1 haL (by rw [HA1.o,<- HT.o]; intro h0; rw [h0] at hk; simp at hk)
  have hn2':(a1:Int)+1<(ts.length:Int):=by omega
  have ha9:a1<8193:=by have:=OK.o.len; omega
  obtain⟨q0,q1⟩:=M2.o (a1+1) Kl;obtain⟨k2,hk2e⟩:=xE ((Zk ts (a1+1)).kind)
  obtain⟨S2,hS2e⟩:∃ S2:ByteArray,S2=⟨(Zk ts (a1+1)).text.toArray⟩:=⟨_,rfl⟩
  rw [<- hk2e] at q0;rw [<- hS2e] at q1;have HK2:=Za hk2e;have Vn:=Za hS2e
  have e12:a1+1=a+2:=by rw [HA1.o]
  have HE12:=Za e12;clear hk2e hS2e e12 M2
  cases Fg:(k2 == 5)with
  | false =>
   have hk5b:(k2 != 5)=true:=by rw [bne,Fg]; rfl
   have Yy:xQ (R=Oc ts E a):=by
    rw [Zy.o];rw [HK2.o,HE12.o] at Fg;exact if_neg (by rw [Fg]; simp)
   clear Fg hk Zy X2;go_wp2_with fail
   go_quiet(fail)
   have P9:xQ (RX pb tb cap ts w (W2.drewN nq) d (.inl (a+1)) [(nb,(Yf 8 li co).obj),(rb,Zj.obj)]):=Zv.o.drewN nq;generalize W2.drewN nq=W3 at P9 ⊢;clear Zv t0 t1 t2 t3 Iw c0 c1 c3' htl2 q0 q1;obtain⟨⟨n0,n1,n2,n3,n4,n5,n6,n7⟩,⟨g0,g1,g2,g3,g4,g5,g6,g7⟩,Yb⟩:=Zn (P9.o.box (p:=(nb,(Yf 8 li co).obj)) (by simp))
   have Ub:¬ nb=rb:=by omega
   have Up:¬ rb=nb:=by omega
   have X3:xQ (RX pb tb cap ts w (W3.setCell (aP nb 0) (iP 10)) d (.inl (a+1)) [(nb,NV.obj ⟨10,⟨#[]⟩,0,li,co,none,0,0,none,0,0,none,0,0⟩),(rb,Zj.obj)]):=P9.o.setB (by simp; omega) 0 (iP 10);go_wp2_with fail;refine(HE.o _ _ X3.o.at_).mono ?_;rintro e wv ⟨A,C,z,rfl,hv⟩;have Y:=Za ((X3.o.step A C).alloc z.obj);have Vk:=xB (X3.o.box (p:=(rb,Zj.obj)) (by simp));have F:xQ (Wl (rb+1) (wv.alloc z.obj) z (Zi E (.inl (a+1)))):=(Wl.lower hv Vk).below (Zq _ _)
   have Ml:=A.size;clear A C hv X3 P9 n0 n1 n2 n3 n4 n5 n6 n7 g0 g1 g2 g3 g4 g5 g6 g7 Yb;obtain⟨R3,Mu⟩:=xE (Zi E (.inl (a+1)));rw [<- Mu] at Y F;have Yz:=Za Mu;clear Mu;go_wp2_with fail;obtain⟨kb,Vt⟩:=xE wv.heap.size;rw [<- Vt] at Y Ml ⊢;clear Vt;generalize wv.alloc (.cells #[iP z.k,.string z.tx,iP z.N,iP z.li,iP z.co,.slice z.ta z.tl z.tc,.slice z.na z.nl z.nc,.slice z.ka z.kl z.kc] 64)=W4 at Y F  ⊢
   have hnkb:rb<kb:=by omega
   clear Vk Ml;go_wp2_with fail;refine(Td pb tb cap d ts (Zf R3) [119,105,116,104] _ Y.o.at_ OK.o).mono ?_;rintro e w5 ⟨rfl,A,C⟩;have X5:=Za (Y.o.step A C);replace F:=Za (F.o.stay A (by omega));clear A C Y;obtain⟨S4,Nl⟩:=xE (Zf (Zi (fun a=>Ze ts a [119,105,116,104]) (Zf R3)));rw [<- Nl] at X5;have Wm:=Za Nl;clear Nl;go_wp2_with fail;refine(Gm pb tb cap d ts S4 _ X5.o.at_ OK.o).mono ?_
   rintro e w6 ⟨rfl,A,C⟩;have X6:=Za (X5.o.step A C);replace F:=Za (F.o.stay A (by omega));clear A C X5;obtain⟨R5,Lv⟩:=xE (Zi (Zu ts) S4);rw [<- Lv] at X6 ⊢;have Wn:=Za Lv;obtain⟨s,V⟩:=xE (Vd R5);rw [<- V];have Kd:=Za V;clear V Lv;obtain⟨⟨n0,n1,n2,n3,n4,n5,n6,n7⟩,⟨g0,g1,g2,g3,g4,g5,g6,g7⟩,Yb⟩:=Zn (X6.o.box (p:=(nb,NV.obj ⟨10,⟨#[]⟩,0,li,co,none,0,0,none,0,0,none,0,0⟩)) (by simp))
   have X7:xQ (RX pb tb cap ts w (w6.setCell (aP nb 1) (.string ⟨s.toArray⟩)) d (Zf R5) [(nb,NV.obj ⟨10,⟨s.toArray⟩,0,li,co,none,0,0,none,0,0,none,0,0⟩),(kb,z.obj),(rb,Zj.obj)]):=RX.setB (X6.o.perm (bx':=[(nb,NV.obj ⟨10,⟨#[]⟩,0,li,co,none,0,0,none,0,0,none,0,0⟩),(kb,z.obj),(rb,Zj.obj)]) (by simp)) (by simp; omega) 1 (.string ⟨s.toArray⟩);replace F:=Za (Wl.stay F.o (Hc w6 nb 1 (.string ⟨s.toArray⟩)) (by omega))
   go_wp2_with fail;refine(Td pb tb cap d ts (Zf R5) [58] _ X7.o.at_ OK.o).mono ?_;rintro e w7 ⟨rfl,A,C⟩;have X8:=Za (X7.o.step A C);replace F:=Za (F.o.stay A (by omega));clear A C X6 X7 n0 n1 n2 n3 n4 n5 n6 n7 g0 g1 g2 g3 g4 g5 g6 g7 Yb;obtain⟨S6,Nm⟩:=xE (Zf (Zi (fun a=>Ze ts a [58]) (Zf R5)));rw [<- Nm] at X8;have Ln:=Za Nm;clear Nm;go_wp2_with fail;refine(HE.o _ _ X8.o.at_).mono ?_
   rintro e wv ⟨A,C,u,rfl,hv⟩;have X9:=Za ((X8.o.step A C).alloc u.obj);have Vk:=xB (X8.o.box (p:=(rb,Zj.obj)) (by simp));replace F:=Za ((F.o.stay A (by omega)).below (Zq _ u.obj));have Pb:xQ (Wl (rb+1) (wv.alloc u.obj) u (Zi E S6)):=(Wl.lower hv Vk).below (Zq _ _);have Ml:=A.size;clear A C hv X8;obtain⟨R7,Nk⟩:=xE (Zi E S6);rw [<- Nk] at X9 Pb;have Vz:=Za Nk;clear Nk
   go_wp2_with fail;obtain⟨mb,Vt⟩:=xE wv.heap.size;rw [<- Vt] at X9 Ml ⊢;clear Vt;generalize wv.alloc (.cells #[iP u.k,.string u.tx,iP u.N,iP u.li,iP u.co,.slice u.ta u.tl u.tc,.slice u.na u.nl u.nc,.slice u.ka u.kl u.kc] 64)=W9 at X9 Pb F ⊢
   have hnmb:rb<mb:=by omega
   clear Vk Ml;go_wp2_with fail;refine(Td pb tb cap d ts (Zf R7) [125] _ X9.o.at_ OK.o).mono ?_;rintro e I ⟨rfl,A,C⟩;have H:=Za (X9.o.step A C);replace F:=Za (F.o.stay A (by omega));replace Pb:=Za (Pb.o.stay A (by omega));clear A C X9;obtain⟨S8,hS8⟩:=xE (Zf (Zi (fun a=>Ze ts a [125]) (Zf R7)));rw [<- hS8] at H;have HS8:=Za hS8;clear hS8;have Xc:=Za (bH Yy.o Yz.o Wm.o Wn.o Ln.o Vz.o HS8.o)
   have Nc:=Za (fun D c e=>bI (D:=D) (c:=c) Yy.o Yz.o Wm.o Wn.o Ln.o Vz.o e);obtain⟨⟨z0,z1,z2,z3,z4,z5,z6,z7⟩,_,Z8⟩:=Zn (H.o.box (p:=(kb,z.obj)) (by simp));obtain⟨⟨u0,u1,u2,u3,u4,u5,u6,u7⟩,_,Uu⟩:=Zn (H.o.box (p:=(mb,u.obj)) (by simp))
   have Rz:¬ kb=nb:=by omega
   have hne8:¬ mb=nb:=by omega
   have Ir:¬ kb=rb:=by omega
   have A4:¬ mb=rb:=by omega
   obtain⟨⟨n0,n1,n2,n3,n4,n5,n6,n7⟩,⟨g0,g1,g2,g3,g4,g5,g6,g7⟩,Yb⟩:=Zn (H.o.box (p:=(nb,NV.obj ⟨10,⟨s.toArray⟩,0,li,co,none,0,0,none,0,0,none,0,0⟩)) (by simp));obtain⟨⟨r0,r1,r2,r3,r4,r5,r6,r7⟩,⟨f0,f1,f2,f3,f4,f5,f6,f7⟩,Xe⟩:=Zn (H.o.box (p:=(rb,Zj.obj)) (by simp))
   have yW:¬ nb=rb:=by omega
   have yX:¬ rb=nb:=by omega
   go_wp2_with fail;obtain⟨Wf,Zm⟩:=xE ((((((((((I.setCell (aP nb 7) (.slice (some (aP I.heap.size 0)) 2 2)).setCell (aP rb 0) (iP 10)).setCell (aP rb 1) (.string ⟨s.toArray⟩)).setCell (aP rb 2) (iP 0)).setCell (aP rb 3) (iP li)).setCell (aP rb 4) (iP co)).setCell (aP rb 5) (.slice none 0 0)).setCell (aP rb 6) (.slice none 0 0)).setCell (aP rb 7) (.slice (some (aP I.heap.size 0)) 2 2)).alloc (.cells #[iP z.k,.string z.tx,iP z.N,iP z.li,iP z.co,.slice z.ta z.tl z.tc,.slice z.na z.nl z.nc,.slice z.ka z.kl z.kc,iP u.k,.string u.tx,iP u.N,iP u.li,iP u.co,.slice u.ta u.tl u.tc,.slice u.na u.nl u.nc,.slice u.ka u.kl u.kc] 64))
   rw [<- Zm]
   obtain⟨T,Xd,Tm⟩:Left pb tb cap ts w d S8 rb nb I Wf ⟨10,⟨s.toArray⟩,0,li,co,none,0,0,none,0,0,(some (aP I.heap.size 0)),2,2⟩ 1:=by rw [Zm]; exact Dt (J6 (rb:=rb) H.o (by simp) (by omega) (by omega) 7 (.slice (some (aP I.heap.size 0)) 2 2) ⟨10,⟨s.toArray⟩,0,li,co,none,0,0,none,0,0,(some (aP I.heap.size 0)),2,2⟩) (Bv z u)
   have Yu:Wf.heap[I.heap.size]?=some (Bv z u):=by rw [Zm]; exact zL (J6 (rb:=rb) H.o (by simp) (by omega) (by omega) 7 (.slice (some (aP I.heap.size 0)) 2 2) ⟨10,⟨s.toArray⟩,0,li,co,none,0,0,none,0,0,(some (aP I.heap.size 0)),2,2⟩) (Bv z u) rfl
   clear Zm;replace T:=Za T;refine Bt rfl rfl (T.o.box xM) rfl ⟨T.o.st,?_,⟨10,⟨s.toArray⟩,0,li,co,none,0,0,none,0,0,(some (aP I.heap.size 0)),2,2⟩,rfl,fun D c e=>?_⟩
   ·rw [Xc.o]; exact T.o.at_
   ·obtain⟨x,b3,s',b5,y,b7,h3,h5,h7,hD⟩:=Nc.o D c e
    have hss:s=s':=by rw [Kd.o,h5]; rfl
    have hz:Y0 (rb+1) Wf z x:=(F.o x b3 h3).keep (by omega) fun c h6 h7=>Xd c (by omega) (by omega) h7
    have hu:Y0 (rb+1) Wf u y:=(Pb.o y b7 h7).keep (by omega) fun c h6 h7=>Xd c (by omega) (by omega) h7
    have:=(Dv (kb:=I.heap.size) hz hu Yu (by omega) ⟨10,⟨s.toArray⟩,0,li,co,none,0,0,none,0,0,(some (aP I.heap.size 0)),2,2⟩ [] [] ⟨rfl,rfl⟩ ⟨rfl,xZ _,0,.inl rfl⟩ ⟨rfl,xZ _,.inl rfl⟩).lower (show w.heap.size<=rb+1 by omega);rw [hD,<- hss,<- Xp.o.1,<- Xp.o.2];exact this
  | true =>
   have hk5b:(k2 != 5)=false:=by rw [bne,Fg]; rfl
   have HQ:xQ (((Zk ts (a+2)).text == [58])=(S2.toList == (⟨#[58]⟩:ByteArray).toList)):=by
    show _=_;rw [Vn.o,HE12.o]
    cases O:((⟨(Zk ts (a+2)).text.toArray⟩:ByteArray).toList == (⟨#[58]⟩:ByteArray).toList)with
    | true =>
     have:=congrArg (fun s:ByteArray=>s.data.toList) (Cs.1 O);simp at this;rw [this];rfl
    | false =>
     cases h9:((Zk ts (a+2)).text == [58])with
     | false=>rfl
     | true =>
      have h8:(Zk ts (a+2)).text=[58]:=by simpa using h9
      rw [h8] at O;simp at O
   have e58:(⟨#[58]⟩:ByteArray).toList=[58]:=by kernel_rfl
   rw [e58] at HQ;clear e58
   cases O:(S2.toList == [58])with
   | false =>
    have Yy:xQ (R=Oc ts E a):=by
     rw [Zy.o];exact if_neg (by rw [HQ.o,O]; simp)
    clear Fg hk Zy X2 HQ;go_wp2_with fail
    go_quiet(fail)
    have P9:xQ (RX pb tb cap ts w (W2.drewN nq) d (.inl (a+1)) [(nb,(Yf 8 li co).obj),(rb,Zj.obj)]):=Zv.o.drewN nq;generalize W2.drewN nq=W3 at P9 ⊢;clear Zv t0 t1 t2 t3 Iw c0 c1 c3' htl2 q0 q1;obtain⟨⟨n0,n1,n2,n3,n4,n5,n6,n7⟩,⟨g0,g1,g2,g3,g4,g5,g6,g7⟩,Yb⟩:=Zn (P9.o.box (p:=(nb,(Yf 8 li co).obj)) (by simp))
    have Ub:¬ nb=rb:=by omega
    have Up:¬ rb=nb:=by omega
    have X3:xQ (RX pb tb cap ts w (W3.setCell (aP nb 0) (iP 10)) d (.inl (a+1)) [(nb,NV.obj ⟨10,⟨#[]⟩,0,li,co,none,0,0,none,0,0,none,0,0⟩),(rb,Zj.obj)]):=P9.o.setB (by simp; omega) 0 (iP 10);go_wp2_with fail;refine(HE.o _ _ X3.o.at_).mono ?_;rintro e wv ⟨A,C,z,rfl,hv⟩;have Y:=Za ((X3.o.step A C).alloc z.obj);have Vk:=xB (X3.o.box (p:=(rb,Zj.obj)) (by simp));have F:xQ (Wl (rb+1) (wv.alloc z.obj) z (Zi E (.inl (a+1)))):=(Wl.lower hv Vk).below (Zq _ _)
    have Ml:=A.size;clear A C hv X3 P9 n0 n1 n2 n3 n4 n5 n6 n7 g0 g1 g2 g3 g4 g5 g6 g7 Yb;obtain⟨R3,Mu⟩:=xE (Zi E (.inl (a+1)));rw [<- Mu] at Y F;have Yz:=Za Mu;clear Mu;go_wp2_with fail;obtain⟨kb,Vt⟩:=xE wv.heap.size;rw [<- Vt] at Y Ml ⊢;clear Vt;generalize wv.alloc (.cells #[iP z.k,.string z.tx,iP z.N,iP z.li,iP z.co,.slice z.ta z.tl z.tc,.slice z.na z.nl z.nc,.slice z.ka z.kl z.kc] 64)=W4 at Y F  ⊢
    have hnkb:rb<kb:=by omega
    clear Vk Ml;go_wp2_with fail;refine(Td pb tb cap d ts (Zf R3) [119,105,116,104] _ Y.o.at_ OK.o).mono ?_;rintro e w5 ⟨rfl,A,C⟩;have X5:=Za (Y.o.step A C);replace F:=Za (F.o.stay A (by omega));clear A C Y;obtain⟨S4,Nl⟩:=xE (Zf (Zi (fun a=>Ze ts a [119,105,116,104]) (Zf R3)));rw [<- Nl] at X5;have Wm:=Za Nl;clear Nl;go_wp2_with fail;refine(Gm pb tb cap d ts S4 _ X5.o.at_ OK.o).mono ?_
    rintro e w6 ⟨rfl,A,C⟩;have X6:=Za (X5.o.step A C);replace F:=Za (F.o.stay A (by omega));clear A C X5;obtain⟨R5,Lv⟩:=xE (Zi (Zu ts) S4);rw [<- Lv] at X6 ⊢;have Wn:=Za Lv;obtain⟨s,V⟩:=xE (Vd R5);rw [<- V];have Kd:=Za V;clear V Lv;obtain⟨⟨n0,n1,n2,n3,n4,n5,n6,n7⟩,⟨g0,g1,g2,g3,g4,g5,g6,g7⟩,Yb⟩:=Zn (X6.o.box (p:=(nb,NV.obj ⟨10,⟨#[]⟩,0,li,co,none,0,0,none,0,0,none,0,0⟩)) (by simp))
    have X7:xQ (RX pb tb cap ts w (w6.setCell (aP nb 1) (.string ⟨s.toArray⟩)) d (Zf R5) [(nb,NV.obj ⟨10,⟨s.toArray⟩,0,li,co,none,0,0,none,0,0,none,0,0⟩),(kb,z.obj),(rb,Zj.obj)]):=RX.setB (X6.o.perm (bx':=[(nb,NV.obj ⟨10,⟨#[]⟩,0,li,co,none,0,0,none,0,0,none,0,0⟩),(kb,z.obj),(rb,Zj.obj)]) (by simp)) (by simp; omega) 1 (.string ⟨s.toArray⟩);replace F:=Za (Wl.stay F.o (Hc w6 nb 1 (.string ⟨s.toArray⟩)) (by omega))
    go_wp2_with fail;refine(Td pb tb cap d ts (Zf R5) [58] _ X7.o.at_ OK.o).mono ?_;rintro e w7 ⟨rfl,A,C⟩;have X8:=Za (X7.o.step A C);replace F:=Za (F.o.stay A (by omega));clear A C X6 X7 n0 n1 n2 n3 n4 n5 n6 n7 g0 g1 g2 g3 g4 g5 g6 g7 Yb;obtain⟨S6,Nm⟩:=xE (Zf (Zi (fun a=>Ze ts a [58]) (Zf R5)));rw [<- Nm] at X8;have Ln:=Za Nm;clear Nm;go_wp2_with fail;refine(HE.o _ _ X8.o.at_).mono ?_
    rintro e wv ⟨A,C,u,rfl,hv⟩;have X9:=Za ((X8.o.step A C).alloc u.obj);have Vk:=xB (X8.o.box (p:=(rb,Zj.obj)) (by simp));replace F:=Za ((F.o.stay A (by omega)).below (Zq _ u.obj));have Pb:xQ (Wl (rb+1) (wv.alloc u.obj) u (Zi E S6)):=(Wl.lower hv Vk).below (Zq _ _);have Ml:=A.size;clear A C hv X8;obtain⟨R7,Nk⟩:=xE (Zi E S6);rw [<- Nk] at X9 Pb;have Vz:=Za Nk;clear Nk
    go_wp2_with fail;obtain⟨mb,Vt⟩:=xE wv.heap.size;rw [<- Vt] at X9 Ml ⊢;clear Vt;generalize wv.alloc (.cells #[iP u.k,.string u.tx,iP u.N,iP u.li,iP u.co,.slice u.ta u.tl u.tc,.slice u.na u.nl u.nc,.slice u.ka u.kl u.kc] 64)=W9 at X9 Pb F ⊢
    have hnmb:rb<mb:=by omega
    clear Vk Ml;go_wp2_with fail;refine(Td pb tb cap d ts (Zf R7) [125] _ X9.o.at_ OK.o).mono ?_;rintro e I ⟨rfl,A,C⟩;have H:=Za (X9.o.step A C);replace F:=Za (F.o.stay A (by omega));replace Pb:=Za (Pb.o.stay A (by omega));clear A C X9;obtain⟨S8,hS8⟩:=xE (Zf (Zi (fun a=>Ze ts a [125]) (Zf R7)));rw [<- hS8] at H;have HS8:=Za hS8;clear hS8;have Xc:=Za (bH Yy.o Yz.o Wm.o Wn.o Ln.o Vz.o HS8.o)
    have Nc:=Za (fun D c e=>bI (D:=D) (c:=c) Yy.o Yz.o Wm.o Wn.o Ln.o Vz.o e);obtain⟨⟨z0,z1,z2,z3,z4,z5,z6,z7⟩,_,Z8⟩:=Zn (H.o.box (p:=(kb,z.obj)) (by simp));obtain⟨⟨u0,u1,u2,u3,u4,u5,u6,u7⟩,_,Uu⟩:=Zn (H.o.box (p:=(mb,u.obj)) (by simp))
    have Rz:¬ kb=nb:=by omega
    have hne8:¬ mb=nb:=by omega
    have Ir:¬ kb=rb:=by omega
    have A4:¬ mb=rb:=by omega
    obtain⟨⟨n0,n1,n2,n3,n4,n5,n6,n7⟩,⟨g0,g1,g2,g3,g4,g5,g6,g7⟩,Yb⟩:=Zn (H.o.box (p:=(nb,NV.obj ⟨10,⟨s.toArray⟩,0,li,co,none,0,0,none,0,0,none,0,0⟩)) (by simp));obtain⟨⟨r0,r1,r2,r3,r4,r5,r6,r7⟩,⟨f0,f1,f2,f3,f4,f5,f6,f7⟩,Xe⟩:=Zn (H.o.box (p:=(rb,Zj.obj)) (by simp))
    have yW:¬ nb=rb:=by omega
    have yX:¬ rb=nb:=by omega
    go_wp2_with fail;obtain⟨Wf,Zm⟩:=xE ((((((((((I.setCell (aP nb 7) (.slice (some (aP I.heap.size 0)) 2 2)).setCell (aP rb 0) (iP 10)).setCell (aP rb 1) (.string ⟨s.toArray⟩)).setCell (aP rb 2) (iP 0)).setCell (aP rb 3) (iP li)).setCell (aP rb 4) (iP co)).setCell (aP rb 5) (.slice none 0 0)).setCell (aP rb 6) (.slice none 0 0)).setCell (aP rb 7) (.slice (some (aP I.heap.size 0)) 2 2)).alloc (.cells #[iP z.k,.string z.tx,iP z.N,iP z.li,iP z.co,.slice z.ta z.tl z.tc,.slice z.na z.nl z.nc,.slice z.ka z.kl z.kc,iP u.k,.string u.tx,iP u.N,iP u.li,iP u.co,.slice u.ta u.tl u.tc,.slice u.na u.nl u.nc,.slice u.ka u.kl u.kc] 64))
    rw [<- Zm]
    obtain⟨T,Xd,Tm⟩:Left pb tb cap ts w d S8 rb nb I Wf ⟨10,⟨s.toArray⟩,0,li,co,none,0,0,none,0,0,(some (aP I.heap.size 0)),2,2⟩ 1:=by rw [Zm]; exact Dt (J6 (rb:=rb) H.o (by simp) (by omega) (by omega) 7 (.slice (some (aP I.heap.size 0)) 2 2) ⟨10,⟨s.toArray⟩,0,li,co,none,0,0,none,0,0,(some (aP I.heap.size 0)),2,2⟩) (Bv z u)
    have Yu:Wf.heap[I.heap.size]?=some (Bv z u):=by rw [Zm]; exact zL (J6 (rb:=rb) H.o (by simp) (by omega) (by omega) 7 (.slice (some (aP I.heap.size 0)) 2 2) ⟨10,⟨s.toArray⟩,0,li,co,none,0,0,none,0,0,(some (aP I.heap.size 0)),2,2⟩) (Bv z u) rfl
    clear Zm;replace T:=Za T;refine Bt rfl rfl (T.o.box xM) rfl ⟨T.o.st,?_,⟨10,⟨s.toArray⟩,0,li,co,none,0,0,none,0,0,(some (aP I.heap.size 0)),2,2⟩,rfl,fun D c e=>?_⟩
    ·rw [Xc.o]; exact T.o.at_
    ·obtain⟨x,b3,s',b5,y,b7,h3,h5,h7,hD⟩:=Nc.o D c e
     have hss:s=s':=by rw [Kd.o,h5]; rfl
     have hz:Y0 (rb+1) Wf z x:=(F.o x b3 h3).keep (by omega) fun c h6 h7=>Xd c (by omega) (by omega) h7
     have hu:Y0 (rb+1) Wf u y:=(Pb.o y b7 h7).keep (by omega) fun c h6 h7=>Xd c (by omega) (by omega) h7
     have:=(Dv (kb:=I.heap.size) hz hu Yu (by omega) ⟨10,⟨s.toArray⟩,0,li,co,none,0,0,none,0,0,(some (aP I.heap.size 0)),2,2⟩ [] [] ⟨rfl,rfl⟩ ⟨rfl,xZ _,0,.inl rfl⟩ ⟨rfl,xZ _,.inl rfl⟩).lower (show w.heap.size<=rb+1 by omega);rw [hD,<- hss,<- Xp.o.1,<- Xp.o.2];exact this
   | true =>
    have Yy:xQ (R=rcF ts E (f+1) a):=by
     rw [Zy.o];rw [HT.o] at hk;rw [HK2.o,HE12.o] at Fg;exact if_pos (by rw [hk,Fg,HQ.o,O]; rfl)
    clear Fg hk Zy X2 HQ;go_wp2_with fail
    go_quiet(fail)
    have P9:xQ (RX pb tb cap ts w (W2.drewN nq) d (.inl (a+1)) [(nb,(Yf 8 li co).obj),(rb,Zj.obj)]):=Zv.o.drewN nq;generalize W2.drewN nq=W3 at P9 ⊢;clear Zv t0 t1 t2 t3 Iw c0 c1 c3' htl2 q0 q1;obtain⟨Rm,M5⟩:=xE (Z9 ts (Qy ts E) [44] (f+1) (a+1))
    have HF0:xQ (Ap ts E Rm [] (f+1) (a+1)):=by rw [M5]; exact jW
    have M1:xQ (R=Rm.go fun l b=>(Ze ts b [125]).go fun _ b => .inl (Zp 8 [] 0 (Yj ts a) (Yi ts a) [] (l.map (·.1)) (l.map (·.2)),b)):=by rw [Yy.o,M5]; exact rfl
    have HRm:=Za M5;have X5:=P9;clear M5 Yy P9;obtain⟨i0,hi,Xr,Xg,Xw⟩:=info_parts gX;obtain⟨s0,si,sz0,sz1,sz2⟩:=info_parts Ix;go_wp2_with fail
    go_loopg [] (ts.length) (fun gk wr=>∃ (c m:Nat) (acc:List (List UInt8×Ty)) (na ka:Option Addr) (nc kc:Nat) (cn ck:List (List Value)) (ns:List (List UInt8)) (ks:List (Option Ty)),xQ (ns=acc.map (·.1)/\ks=acc.map (fun p=>some p.2))/\xQ (RX pb tb cap ts w wr d (.inl c) [(nb,NV.obj ⟨8,⟨#[]⟩,0,li,co,none,0,0,na,ns.length,nc,ka,ks.length,kc⟩),(rb,Zj.obj)])/\xQ (Yq Mb (rb+1) 9 1 (Value.slice ka ks.length kc).ownBlock wr (.slice na ns.length nc) cn ns)/\xQ (Yq NdQ (rb+1) 64 8 (Value.slice na ns.length nc).ownBlock wr (.slice ka ks.length kc) ck ks)/\xQ (Ap ts E Rm acc m c)/\xQ (ts.length<=c+m)/\xQ (acc.length<=c)/\xQ (ts.length - c<=gk))
    case atStart =>
     exact⟨a+1,f+1,[],none,none,0,0,[],[],[],[],⟨rfl,rfl⟩,X5,Ha _ _ _ _ _,Ha _ _ _ _ _,HF0,(by show _<=_; omega),xZ _,(by show _<=_; omega)⟩
    case round =>
     clear X5 HF0;obtain⟨c',m,acc,na,ka,nc,kc,cn,ck,ns,ks,Po,X,HN,HV,HF,HM,HA,HG⟩:=hrel
     have Xl:c'<ts.length:=by
      obtain⟨a',ha⟩:=X.o.at_;have e1:=ha.live c' rfl;have:=ha.lt;omega
     obtain⟨m,rfl⟩:∃ q,m=q+1:=⟨m - 1,by have:=HM.o; omega⟩
     have hlen:ts.length<=8193:=OK.o.len
     have Yb:ns.length<=8193:=by have:=HA.o; rw [Po.o.1,List.length_map]; omega
     have Z8:ks.length<=8193:=by have:=HA.o; rw [Po.o.2,List.length_map]; omega
     have Uf:rb<wr.heap.size:=xB (X.o.box (p:=(rb,Zj.obj)) (by simp))
     have V4:pb<rb+1:=by omega
     obtain⟨nmv,Bn⟩:=xE (Vd (Zu ts c'));obtain⟨R3,Mu⟩:=xE (G8 ts E c');have Na:=Za Bn;have Yz:=Za Mu;clear Bn Mu
     have U0:xQ (Calls prog 56 #[.pointer (some (aP pb 0))] wr fun r w'=>r = .returned (.string ⟨nmv.toArray⟩)/\Zl pb wr w'/\Z2 w' pb tb cap ts d (Zf (Zu ts c'))):=by
      rw [Na.o];exact Gm pb tb cap d ts (.inl c') wr X.o.at_ OK.o
     go_wp2_with fail;refine U0.o.mono ?_;rintro e w1 ⟨rfl,A,C⟩;have X1:=Za (X.o.step A C);have B1:=Za (HN.o.stay A V4);have HV1:=Za (HV.o.stay A V4);have htb1:rb<w1.heap.size:=xT Uf A.size;clear A C X HN HV U0;go_wp2_with fail;refine(Td pb tb cap d ts _ [58] _ X1.o.at_ OK.o).mono ?_;rintro e w2 ⟨rfl,A,C⟩;have X2:=Za (X1.o.step A C);have Vr:=Za (B1.o.stay A V4);have Lo:=Za (HV1.o.stay A V4)
     have hrb2:rb<w2.heap.size:=xT htb1 A.size;clear A C X1 B1 HV1;have Nx:=Za (HE.o _ _ X2.o.at_);rw [show Zi E (Zf (Zi (fun a=>Ze ts a [58]) (Zf (Zu ts c'))))=R3 from Yz.o.symm] at Nx;go_wp2_with fail;refine Nx.o.mono ?_;rintro e w3 ⟨A,C,z,rfl,hv⟩
     have hnO:∀ q,(Value.slice na ns.length nc).ownBlock=some q->rb+1<=q/\q<w3.heap.size:=fun q O=>(Vr.o.stay A V4).own q O
     have hkO:∀ q,(Value.slice ka ks.length kc).ownBlock=some q->rb+1<=q/\q<w3.heap.size:=fun q O=>(Lo.o.stay A V4).own q O
     have HNO:=Za hnO;have HKO:=Za hkO;have Dq:=A.trans ((Zl.refl pb w3).alloc (xT X2.o.at_.ltp A.size) z.obj);have X3:=Za ((X2.o.step A C).alloc z.obj);have Lj:=Za (Vr.o.stay Dq V4);have F6:=Za (Lo.o.stay Dq V4);have Uj:=Za ((Xt.new (rep:=NdQ) (B:=rb+1) (ndQ_of hv) hrb2 (G:=fun q=>(Value.slice ka ks.length kc).ownBlock=some q∨(Value.slice na ns.length nc).ownBlock=some q) fun q O=>Lo.o.all q O).stay ((Zl.refl pb w3).alloc (xT X2.o.at_.ltp A.size) z.obj) V4)
     have htb3:rb<w3.heap.size:=xT hrb2 A.size;clear A C hv Nx X2 Vr Lo hnO hkO Dq
     have hwl:w3.heap.size<(w3.alloc z.obj).heap.size:=by simp
     obtain⟨⟨t0,t1,t2,t3,t4,t5,t6,t7⟩,⟨f0,f1,f2,f3,f4,f5,f6,f7⟩,Ug⟩:=Zn (X3.o.box (p:=(nb,NV.obj ⟨8,⟨#[]⟩,0,li,co,none,0,0,na,ns.length,nc,ka,ks.length,kc⟩)) (by simp))
     have Uh:xQ (∀ j u,([.string ⟨nmv.toArray⟩]:List Value)[j]?=some u->((w3.alloc z.obj).alloc (.cells #[.string ⟨nmv.toArray⟩] 9)).cell? (((aP (w3.heap.size+1) 0):Addr).add j)=some u):=fun j u h=>by
      have:=V2 (w3.alloc z.obj) [.string ⟨nmv.toArray⟩] 9 j u h;rw [xS] at this;exact this
     go_wp2_with(at_builtin; refine wpList_append_own_at _ rfl (.tmp 91) (.tmp 93) 25 rfl (rb+1) 9 s0 _ 1 16 underlying25 si sz0 sz1 sz2 rfl (by decide) _ _ _ rfl (Lj.o.ow.alloc _) (aP _ 0) 1 1 [.string ⟨nmv.toArray⟩] rfl rfl Uh.o (by simp [Value.oneCell']) (by unfold maxLen; omega) (by omega) (by simp; omega) ?_)
     intro vn' w4 Zr Zo _ Z4;have Bo:pb<(w3.alloc z.obj).heap.size:=X3.o.at_.ltp;have HN4:=Za (Lj.o.put (x:=nmv) (rep:=Mb) Zr Zo (Z4.imp_right fun e=>⟨_,e,by simp⟩) ((Zl.refl pb _).alloc Bo _) V4 rfl ((Xt.new (rep:=Mb) (lo:=w3.heap.size+1) (wx:=w3.alloc z.obj) rfl (by omega) fun q O=>by have:=Lj.o.all q O; simpa using this).stay ((Zl.refl pb _).alloc Bo _) V4));have Kw:=Za ((F6.o.stay ((Zl.refl pb _).alloc Bo (.cells #[.string ⟨nmv.toArray⟩] 9)) V4).beside (o':=vn'.ownBlock) Zo (Z4.imp_right fun e=>⟨_,e,by simp,(Zr.lt _ e).2⟩) (by simp; omega))
     have HMd4:=Za ((Uj.o.stay ((Zl.refl pb _).alloc Bo (.cells #[.string ⟨nmv.toArray⟩] 9)) V4).grown (G':=fun q=>(Value.slice ka ks.length kc).ownBlock=some q∨vn'.ownBlock=some q) Zo (fun q O => .inr O) fun q O=>by
      rcases O with O | O
      ·exact .inl (.inl O)
      ·rcases Z4 with e | e
       ·exact .inl (.inr (e ▸ O))
       ·rw [e] at O; injection O with O; exact .inr (by rw [<- O]; simp))
     have Y:=Za ((X3.o.alloc (.cells #[.string ⟨nmv.toArray⟩] 9)).drop.grown Zo (fun q O=>by have:=HNO.o q O; omega) fun p hp q O=>by
      have:=HNO.o q O;simp only [List.mem_cons,List.not_mem_nil,or_false] at hp;rcases hp with rfl | rfl | rfl
      ·show q≠w3.heap.size; omega
      ·show q≠nb; omega
      ·show q≠rb; omega)
     obtain⟨J,M,rfl⟩:=Yt Zr;clear Zr Zo Z4 Uh t0 t1 t2 t3 t4 t5 t6 t7 f0 f1 f2 f3 f4 f5 f6 f7 Ug hwl Bo Lj F6 Uj X3 HNO HKO;generalize w3.heap.size=kb at Y htb3 ⊢;obtain⟨⟨t0,t1,t2,t3,t4,t5,t6,t7⟩,⟨f0,f1,f2,f3,f4,f5,f6,f7⟩,Ug⟩:=Zn (Y.o.box (p:=(nb,NV.obj ⟨8,⟨#[]⟩,0,li,co,none,0,0,na,ns.length,nc,ka,ks.length,kc⟩)) (by simp));obtain⟨⟨b0,b1,b2,b3,b4,b5,b6,b7⟩,_,Yo⟩:=Zn (Y.o.box (p:=(kb,z.obj)) (by simp))
     have Z1:¬ kb=nb:=by omega
     have hne':¬ nb=kb:=by omega
     have X5:xQ (RX pb tb cap ts w (w4.setCell (aP nb 6) (.slice J (ns.length+1) M)) d (Zf R3) [(nb,NV.obj ⟨8,⟨#[]⟩,0,li,co,none,0,0,J,(ns.length+1),M,ka,ks.length,kc⟩),(kb,z.obj),(rb,Zj.obj)]):=by
      exact RX.setB (Y.o.perm (bx':=[(nb,NV.obj ⟨8,⟨#[]⟩,0,li,co,none,0,0,na,ns.length,nc,ka,ks.length,kc⟩),(kb,z.obj),(rb,Zj.obj)]) (by simp)) (by simp; omega) 6 (.slice J (ns.length+1) M)
     have Hk:=Za (HN4.o.stay (Hc w4 nb 6 (.slice J (ns.length+1) M)) (by omega));have Lp:=Za (Kw.o.stay (Hc w4 nb 6 (.slice J (ns.length+1) M)) (by omega));have HMd5:=Za (HMd4.o.stay (Hc w4 nb 6 (.slice J (ns.length+1) M)) (by omega));clear HN4 Kw HMd4 Y
     have Uh:xQ (∀ j u,([iP z.k,.string z.tx,iP z.N,iP z.li,iP z.co,.slice z.ta z.tl z.tc,.slice z.na z.nl z.nc,.slice z.ka z.kl z.kc]:List Value)[j]?=some u->((w4.setCell (aP nb 6) (.slice J (ns.length+1) M)).alloc (.cells #[iP z.k,.string z.tx,iP z.N,iP z.li,iP z.co,.slice z.ta z.tl z.tc,.slice z.na z.nl z.nc,.slice z.ka z.kl z.kc] 64)).cell? ((aP w4.heap.size 0).add j)=some u):=fun j u h=>by
      have:=V2 (w4.setCell (aP nb 6) (.slice J (ns.length+1) M)) [iP z.k,.string z.tx,iP z.N,iP z.li,iP z.co,.slice z.ta z.tl z.tc,.slice z.na z.nl z.nc,.slice z.ka z.kl z.kc] 64 j u h;rw [Yg] at this;exact this
     go_wp2_with(at_builtin; refine wpList_append_own_at _ rfl (.tmp 97) (.tmp 99) 62 rfl (rb+1) 64 i0 _ 8 120 underlying62 hi Xr Xg Xw rfl (by decide) _ _ _ rfl (Lp.o.ow.alloc _) (aP _ 0) 1 1 [iP z.k,.string z.tx,iP z.N,iP z.li,iP z.co,.slice z.ta z.tl z.tc,.slice z.na z.nl z.nc,.slice z.ka z.kl z.kc] rfl rfl Uh.o (by simp [Value.oneCell']) (by unfold maxLen; omega) (by omega) (by simp; omega) ?_)
     intro vk' w6 Zr Zo _ Z4;have Bo:pb<(w4.setCell (aP nb 6) (.slice J (ns.length+1) M)).heap.size:=X5.o.at_.ltp;have Hr:=Za (Lp.o.put (x:=Vy R3) (rep:=NdQ) Zr Zo (Z4.imp_right fun e=>⟨_,e,by simp⟩) ((Zl.refl pb _).alloc Bo _) V4 rfl (HMd5.o.stay ((Zl.refl pb _).alloc Bo _) V4));have Hl:=Za ((Hk.o.stay ((Zl.refl pb _).alloc Bo (.cells #[iP z.k,.string z.tx,iP z.N,iP z.li,iP z.co,.slice z.ta z.tl z.tc,.slice z.na z.nl z.nc,.slice z.ka z.kl z.kc] 64)) V4).beside (o':=vk'.ownBlock) Zo (Z4.imp_right fun e=>⟨_,e,by simp,(Zr.lt _ e).2⟩) (by simp; omega))
     have X6:xQ (RX pb tb cap ts w w6 d (Zf R3) [(nb,NV.obj ⟨8,⟨#[]⟩,0,li,co,none,0,0,J,(ns.length+1),M,ka,ks.length,kc⟩),(rb,Zj.obj)]):=by
      refine RX.grown ((X5.o.alloc (.cells #[iP z.k,.string z.tx,iP z.N,iP z.li,iP z.co,.slice z.ta z.tl z.tc,.slice z.na z.nl z.nc,.slice z.ka z.kl z.kc] 64)).drop.perm (bx':=[(nb,NV.obj ⟨8,⟨#[]⟩,0,li,co,none,0,0,J,(ns.length+1),M,ka,ks.length,kc⟩),(rb,Zj.obj)]) (by simp)) Zo (fun q O=>by have:=Lp.o.own q O; omega) fun p hp q O=>?_
      have:=Lp.o.own q O;simp only [List.mem_cons,List.not_mem_nil,or_false] at hp;rcases hp with rfl | rfl
      ·show q≠nb; omega
      ·show q≠rb; omega
     obtain⟨Z,kc6,rfl⟩:=Yt Zr;clear Zr Zo Z4 Uh t0 t1 t2 t3 t4 t5 t6 t7 f0 f1 f2 f3 f4 f5 f6 f7 Ug Bo b0 b1 b2 b3 b4 b5 b6 b7 Yo Hk Lp HMd5 X5;obtain⟨⟨t0,t1,t2,t3,t4,t5,t6,t7⟩,⟨f0,f1,f2,f3,f4,f5,f6,f7⟩,Ug⟩:=Zn (X6.o.box (p:=(nb,NV.obj ⟨8,⟨#[]⟩,0,li,co,none,0,0,J,(ns.length+1),M,ka,ks.length,kc⟩)) (by simp))
     have X7:xQ (RX pb tb cap ts w (w6.setCell (aP nb 7) (.slice Z (ks.length+1) kc6)) d (Zf R3) [(nb,NV.obj ⟨8,⟨#[]⟩,0,li,co,none,0,0,J,(ns.length+1),M,Z,(ks.length+1),kc6⟩),(rb,Zj.obj)]):=by
      exact RX.setB X6.o (by simp; omega) 7 (.slice Z (ks.length+1) kc6)
     have Fy:=Za (Hl.o.stay (Hc w6 nb 7 (.slice Z (ks.length+1) kc6)) (by omega));have Sh:=Za (Hr.o.stay (Hc w6 nb 7 (.slice Z (ks.length+1) kc6)) (by omega));clear Hl Hr X6;go_wp2_with fail;refine(Vi pb tb cap d ts (Zf R3) [44] _ X7.o.at_ OK.o).mono ?_;rintro e w8 ⟨rfl,A,C⟩;have X8:=Za (X7.o.step A C);have Fz:=Za (Fy.o.stay A V4);have Hs:=Za (Sh.o.stay A V4);clear A C X7 Fy Sh t0 t1 t2 t3 t4 t5 t6 t7 f0 f1 f2 f3 f4 f5 f6 f7 Ug
     have Xz:(ns ++ [nmv]).length=ns.length+1:=by simp
     have Uo:(ks ++ [Vy R3]).length=ks.length+1:=by simp
     cases V:Y2 ts (Zf R3) [44] with
     | true =>
      rw [V,if_pos rfl] at X8;rw [Yz.o] at V;obtain⟨t,b,H9,Dm⟩:=jV HF.o V;have Gv:=Za Dm;have hup:=jX HU.o H9
      have hS:Nr (Zf R3) = .inl (b+1):=by rw [Yz.o,H9]; rfl
      have Bk:Vy R3=some t:=by rw [Yz.o,H9]; rfl
      rw [hS,<- Xz,<- Uo] at X8;rw [<- Xz,<- Uo] at Fz Hs
      have HNS2:xQ (ns ++ [nmv]=(acc ++ [(Vd (Zu ts c'),t)]).map (·.1)/\ks ++ [Vy R3]=(acc ++ [(Vd (Zu ts c'),t)]).map (fun p=>some p.2)):=⟨by rw [Po.o.1,Na.o]; simp,by rw [Po.o.2,Bk]; simp⟩
      clear V H9 Dm hS Bk Xz Uo;go_wp2_with fail
      go_roundg (ts.length - (b+1))
      case measure=>have:=HG.o; omega
      case rel=>exact⟨b+1,m,_,J,Z,M,kc6,_,_,_,_,HNS2,X8,Fz,Hs,Gv,(by have:=HM.o; show _<=_; omega),(by have:=HA.o; show _<=_; simp; omega),xR⟩
     | false =>
      rw [V,if_neg (by simp)] at X8;rw [Yz.o] at V;have P6:=Za (jU HF.o V);clear V;go_wp2_with fail;refine(Td pb tb cap d ts (Zf R3) [125] _ X8.o.at_ OK.o).mono ?_;rintro e I ⟨rfl,A,C⟩;have X9:=Za (X8.o.step A C);have HN9:=Za (Fz.o.stay A V4);have HV9:=Za (Hs.o.stay A V4);clear A C X8 Fz Hs;have Mz:=Za Xz;have Ny:=Za Uo;clear Xz Uo;obtain⟨S9,hS9⟩:=xE (Zf (Zi (fun a=>Ze ts a [125]) (Zf R3)))
      rw [<- hS9] at X9
      have Xc:xQ (Zf R=S9):=by
       show _=_;rw [hS9,M1.o,Yz.o];rcases P6.o with⟨t,b,e1,e2⟩ | ⟨e,e1,e2⟩
       ·rw [e1,e2]
        show Zf ((Ze ts b [125]).go _)=Zf (Ze ts b [125])
        cases Ze ts b [125] <;> rfl
       ·rw [e1,e2]
        rfl
      clear hS9;obtain⟨⟨n0,n1,n2,n3,n4,n5,n6,n7⟩,⟨g0,g1,g2,g3,g4,g5,g6,g7⟩,Yb⟩:=Zn (X9.o.box (p:=(nb,NV.obj ⟨8,⟨#[]⟩,0,li,co,none,0,0,J,(ns.length+1),M,Z,(ks.length+1),kc6⟩)) (by simp));obtain⟨⟨r0,r1,r2,r3,r4,r5,r6,r7⟩,⟨f0,f1,f2,f3,f4,f5,f6,f7⟩,Xe⟩:=Zn (X9.o.box (p:=(rb,Zj.obj)) (by simp))
      have Ub:¬ nb=rb:=by omega
      have Up:¬ rb=nb:=by omega
      go_wp2_with fail;obtain⟨Wf,Zm⟩:=xE ((((((((I.setCell (aP rb 0) (iP 8)).setCell (aP rb 1) (.string ⟨#[]⟩)).setCell (aP rb 2) (iP 0)).setCell (aP rb 3) (iP li)).setCell (aP rb 4) (iP co)).setCell (aP rb 5) (.slice none 0 0)).setCell (aP rb 6) (.slice J (ns.length+1) M)).setCell (aP rb 7) (.slice Z (ks.length+1) kc6));rw [<- Zm]
      obtain⟨T,Xd,Tm⟩:Left pb tb cap ts w d S9 rb nb I Wf ⟨8,⟨#[]⟩,0,li,co,none,0,0,J,(ns.length+1),M,Z,(ks.length+1),kc6⟩ 0:=by rw [Zm]; exact I0 (rb:=rb) X9.o (by simp) nb ⟨8,⟨#[]⟩,0,li,co,none,0,0,J,(ns.length+1),M,Z,(ks.length+1),kc6⟩
      clear Zm;replace T:=Za T;refine Bt rfl rfl (T.o.box xM) rfl ⟨T.o.st,?_,⟨8,⟨#[]⟩,0,li,co,none,0,0,J,(ns.length+1),M,Z,(ks.length+1),kc6⟩,rfl,fun D c e=>?_⟩
      ·rw [Xc.o]; exact T.o.at_
      ·rw [M1.o] at e
       rcases P6.o with⟨t,b,e1,e2⟩ | ⟨e9,e1,e2⟩
       ·rw [e2] at e
        obtain⟨_,b',hw,e⟩:=Ni (R:=Ze ts b [125]) e;injection e with e;injection e with e _
        have Bk:Vy R3=some t:=by rw [Yz.o,e1]; rfl
        have en:ns ++ [nmv]=(acc ++ [(Vd (Zu ts c'),t)]).map (·.1):=by rw [Po.o.1,Na.o]; simp
        have ek:ks ++ [Vy R3]=((acc ++ [(Vd (Zu ts c'),t)]).map (·.2)).map some:=by rw [Po.o.2,Bk]; simp
        have hN:=HN9.o;have hV:=HV9.o;rw [<- Mz.o,<- Ny.o] at hN hV;rw [en] at hN;rw [ek] at hV;obtain⟨an,cn',ean,_,hnames⟩:=wK hN;obtain⟨ak,ck',m',eak,_,hnodes⟩:=aL (zhm hV)
        have Np:((acc ++ [(Vd (Zu ts c'),t)]).map (·.2)).length<=8193:=by have:=HA.o; simp; omega
        injection ean with ean _ _;injection eak with eak _ _;subst ean eak
        have hnm2:Bb Wf (rb+1) J ((acc ++ [(Vd (Zu ts c'),t)]).map (·.1)):=Ec hnames (by omega) fun c h6 h7=>Xd c (by omega) (by omega) h7
        have hnd2:O4 Wf (rb+1) m' Z ((acc ++ [(Vd (Zu ts c'),t)]).map (·.2)):=dT hnodes (by omega) fun c h6 h7=>Xd c (by omega) (by omega) h7
        rw [<- e,<- Xp.o.1,<- Xp.o.2]
        have hl1':ns.length+1=((acc ++ [(Vd (Zu ts c'),t)]).map (·.1)).length:=by rw [<- en]; exact Mz.o.symm
        have hl2':ks.length+1=((acc ++ [(Vd (Zu ts c'),t)]).map (·.2)).length:=by
         have:=congrArg List.length ek;rw [Ny.o,List.length_map] at this;exact this
        refine Y0.lower (lo:=rb+1) ⟨m'+1,[],_,_,rfl,⟨rfl,hl1',hl2'⟩,⟨xZ _,?_,by omega⟩,.inl rfl,hnm2,hnd2⟩ (by omega);rw [<- hl1'];omega
       ·rw [e2] at e
        cases e
end Go.Proofs.YtoppemkjhhlegaaGreatDoor
