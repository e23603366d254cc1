/- Part. -/
import Derived.Test.YtoppemkjhhlegaaGreatDoorPart25
set_option maxRecDepth 100000
set_option maxHeartbeats 4000000
namespace Go.Proofs.YtoppemkjhhlegaaGreatDoor
open Go.Proofs.Tryz
open Go.RowKit
section
attribute [local go_sem ↓] Go.wp_at_zero Go.wp_at_succ
theorem zgg (pb tb cap d:Nat) (ts:List Tok) (ok:Ym ts) (p:Int×Nat×Nat) (w:wD) (h:Z2 w pb tb cap ts d (.inr p)) :
  Calls prog 126 #[qP pb] w (V0 pb tb cap ts d w (.inr p)):=by
 have A:=Za ok
 have X0:=Za (Hb h Zj.obj)
 have hp:=h.ltp
 clear h
 go_enter func126,ntmps126
 go_wp2_with fail
 refine(zR pb tb cap d ts (.inr p) 2 _ X0.o.at_).mono ?_
 rintro e w1 ⟨li,co,rfl,Bl,j,z⟩
 have X1:=Za ((X0.o.step j z).alloc (Yf 2 li co).obj)
 have Xq:=j.size
 rw [xS] at Xq
 clear j z Bl X0
 obtain⟨nb,Vc⟩:=xE w1.heap.size
 rw [<- Vc] at X1 Xq
 obtain⟨a,ha⟩:=X1.o.at_
 have Bf:(a:Int)<(ts.length:Int):=by have:=ha.lt; omega
 obtain⟨t,ht⟩:=xE (Zk ts a)
 have Qf:(p.1 == 0)=false:=by have:=ha.bad p rfl; simpa using this
 have HA:=Za ha
 have HS:xQ (∀ W,Below (w1.alloc (Yf 2 li co).obj).heap.size (w1.alloc (Yf 2 li co).obj) W->W.cell? (aP pb 0)=some (lP tb ts.length cap)/\W.cell? (aP pb 1)=some (iP a)/\d4 W tb (a*4) (iP t.kind) (uP t.text) (iP t.line) (iP t.col)):=fun W hW=>by
  have J:=ha.below hW;rw [ht];obtain⟨q0,q1,q2,q3⟩:=J.toks a J.lt;exact⟨J.cells.1.1,J.cells.1.2.1,q0,q1,q2,q3⟩
 have Mf:=HS.o (w1.alloc (Yf 2 li co).obj).drew (Below.refl _ _).drew
 have Y5:xQ (∀ o,_):=fun o=>HS.o (((w1.alloc (Yf 2 li co).obj).alloc o).drew) (Zq _ o).drew
 have Ba:=Za Vc
 clear ha ht Vc
 go_wp2_with fail
 go_region_held (fun W=>W.cell? (aP pb 0)=some (lP tb ts.length cap)/\W.cell? (aP pb 1)=some (iP a)/\d4 W tb (a*4) (iP t.kind) (uP t.text) (iP t.line) (iP t.col)) (first | with_reducible assumption | with_reducible exact Y5.o _) (fail)
 obtain⟨W2,Qo⟩:=xE (((w1.alloc (.cells #[iP 2,sP,iP 0,iP li,iP co,nP,nP,nP] 64)).alloc (.cells #[iP t.kind,uP t.text,iP t.line,iP t.col] 121)).drew)
 rw [<- Qo]
 have Z:xQ (RX pb tb cap ts w W2 d (.inr p) [(nb+1,Z3 t),(nb,(Yf 2 li co).obj),(w.heap.size,Zj.obj)]):=by
  have J:=(X1.o.alloc (Z3 t)).drew;rw [xS,<- Ba.o] at J;rw [Qo];exact J
 rw [<- Ba.o]
 have hwn:w.heap.size<nb:=Xq
 clear Qo HS Y5 Mf X1 Ba HA
 obtain⟨⟨t0,t1,t2,t3⟩,_,Iw⟩:=Yh (Z.o.box (p:=(nb+1,Z3 t)) (by simp))
 have e0:W2.cell? (aP pb 3)=some (iP p.1):=by
  obtain⟨a2,h2⟩:=Z.o.at_;exact h2.cells.1.2.2.2.1
 have hpl2:=Z.o.at_.ltp
 go_wp2_with fail
 clear e0 t0 t1 t2 t3
 refine(Vi pb tb cap d ts (.inr p) [116,114,117,101] _ Z.o.at_ A.o).mono ?_
 rintro e W10 ⟨rfl,j,z⟩
 have V:xQ (RX pb tb cap ts w W10 d (.inr p) [(nb+1,Z3 t),(nb,(Yf 2 li co).obj),(w.heap.size,Zj.obj)]):=Z.o.step j z
 have Xq:Y2 ts (.inr p) [116,114,117,101]=false:=rfl
 rw [Xq]
 clear j z Z Xq
 go_wp2_with fail
 refine(Vi pb tb cap d ts (.inr p) [102,97,108,115,101] _ V.o.at_ A.o).mono ?_
 rintro e W11 ⟨rfl,j,z⟩
 have T:xQ (RX pb tb cap ts w W11 d (.inr p) [(nb+1,Z3 t),(nb,(Yf 2 li co).obj),(w.heap.size,Zj.obj)]):=V.o.step j z
 have Wj:Y2 ts (.inr p) [102,97,108,115,101]=false:=rfl
 rw [Wj]
 clear j z V Wj
 go_wp2_with fail
 refine(Vi pb tb cap d ts (.inr p) [110,117,108,108] _ T.o.at_ A.o).mono ?_
 rintro e W12 ⟨rfl,j,z⟩
 have Y:xQ (RX pb tb cap ts w W12 d (.inr p) [(nb+1,Z3 t),(nb,(Yf 2 li co).obj),(w.heap.size,Zj.obj)]):=T.o.step j z
 have Fj:Y2 ts (.inr p) [110,117,108,108]=false:=rfl
 rw [Fj]
 clear j z T Fj
 go_wp2_with fail
 refine(Vi pb tb cap d ts (.inr p) [114,101,97,100] _ Y.o.at_ A.o).mono ?_
 rintro e W13 ⟨rfl,j,z⟩
 have C:xQ (RX pb tb cap ts w W13 d (.inr p) [(nb+1,Z3 t),(nb,(Yf 2 li co).obj),(w.heap.size,Zj.obj)]):=Y.o.step j z
 have hs4:Y2 ts (.inr p) [114,101,97,100]=false:=rfl
 rw [hs4]
 clear j z Y hs4
 go_wp2_with fail
 refine(Vi pb tb cap d ts (.inr p) [112,114,105,110,116] _ C.o.at_ A.o).mono ?_
 rintro e W14 ⟨rfl,j,z⟩
 have M:xQ (RX pb tb cap ts w W14 d (.inr p) [(nb+1,Z3 t),(nb,(Yf 2 li co).obj),(w.heap.size,Zj.obj)]):=C.o.step j z
 have Do:Y2 ts (.inr p) [112,114,105,110,116]=false:=rfl
 rw [Do]
 clear j z C Do
 go_wp2_with fail
 refine(Vi pb tb cap d ts (.inr p) [40] _ M.o.at_ A.o).mono ?_
 rintro e W15 ⟨rfl,j,z⟩
 have H:xQ (RX pb tb cap ts w W15 d (.inr p) [(nb+1,Z3 t),(nb,(Yf 2 li co).obj),(w.heap.size,Zj.obj)]):=M.o.step j z
 have hs6:Y2 ts (.inr p) [40]=false:=rfl
 rw [hs6]
 clear j z M hs6
 go_wp2_with fail
 refine(Vi pb tb cap d ts (.inr p) [123] _ H.o.at_ A.o).mono ?_
 rintro e W16 ⟨rfl,j,z⟩
 have F:xQ (RX pb tb cap ts w W16 d (.inr p) [(nb+1,Z3 t),(nb,(Yf 2 li co).obj),(w.heap.size,Zj.obj)]):=H.o.step j z
 have hs7:Y2 ts (.inr p) [123]=false:=rfl
 rw [hs7]
 clear j z H hs7
 obtain⟨⟨n0,n1,n2,n3,n4,n5,n6,n7⟩,⟨g0,g1,g2,g3,g4,g5,g6,g7⟩,Yb⟩:=Zn (F.o.box (p:=(nb,(Yf 2 li co).obj)) (by simp))
 have Ub:¬ nb=w.heap.size:=by omega
 have Up:¬ w.heap.size=nb:=by omega
 have O:xQ (RX pb tb cap ts w (W16.setCell (aP nb 0) (iP 4)) d (.inr p) [(nb,(Yf 4 li co).obj),(w.heap.size,Zj.obj)]):=RX.setB (F.o.perm (bx':=[(nb,(Yf 2 li co).obj),(w.heap.size,Zj.obj)]) (by simp)) (by simp; omega) 0 (iP 4)
 go_wp2_with fail
 refine(Gm pb tb cap d ts (.inr p) _ O.o.at_ A.o).mono ?_
 rintro e wn ⟨rfl,j,z⟩
 have N:xQ (RX pb tb cap ts w wn d (.inr p) [(nb,(Yf 4 li co).obj),(w.heap.size,Zj.obj)]):=O.o.step j z
 clear j z O F n0 n1 n2 n3 n4 n5 n6 n7 g0 g1 g2 g3 g4 g5 g6 g7 Yb
 obtain⟨s,hs⟩:=xE (Vd (Zi (Zu ts) (.inr p)))
 rw [<- hs]
 clear hs
 obtain⟨⟨n0,n1,n2,n3,n4,n5,n6,n7⟩,⟨g0,g1,g2,g3,g4,g5,g6,g7⟩,Yb⟩:=Zn (N.o.box (p:=(nb,(Yf 4 li co).obj)) (by simp))
 have I:xQ (RX pb tb cap ts w (wn.setCell (aP nb 1) (uP s)) d (.inr p) [(nb,NV.obj ⟨4,⟨s.toArray⟩,0,li,co,none,0,0,none,0,0,none,0,0⟩),(w.heap.size,Zj.obj)]):=N.o.setB (by simp; omega) 1 (uP s)
 go_wp2_with fail
 refine(Vi pb tb cap d ts (.inr p) [91] _ I.o.at_ A.o).mono ?_
 rintro e wt ⟨rfl,j,z⟩
 have X:xQ (RX pb tb cap ts w wt d (.inr p) [(nb,NV.obj ⟨4,⟨s.toArray⟩,0,li,co,none,0,0,none,0,0,none,0,0⟩),(w.heap.size,Zj.obj)]):=I.o.step j z
 have hs9:Y2 ts (.inr p) [91]=false:=rfl
 rw [hs9]
 clear j z N I n0 n1 n2 n3 n4 n5 n6 n7 g0 g1 g2 g3 g4 g5 g6 g7 Yb hs9
 obtain⟨⟨n0,n1,n2,n3,n4,n5,n6,n7⟩,⟨g0,g1,g2,g3,g4,g5,g6,g7⟩,Yb⟩:=Zn (X.o.box (p:=(nb,NV.obj ⟨4,⟨s.toArray⟩,0,li,co,none,0,0,none,0,0,none,0,0⟩)) (by simp))
 obtain⟨⟨r0,r1,r2,r3,r4,r5,r6,r7⟩,⟨f0,f1,f2,f3,f4,f5,f6,f7⟩,Xe⟩:=Zn (X.o.box (p:=(w.heap.size,Zj.obj)) (by simp))
 have yW:¬ nb=w.heap.size:=by omega
 have yX:¬ w.heap.size=nb:=by omega
 go_wp2_with fail
 obtain⟨Wf,Zm⟩:=xE ((((((((wt.setCell (aP w.heap.size 0) (iP 4)).setCell (aP w.heap.size 1) (uP s)).setCell (aP w.heap.size 2) (iP 0)).setCell (aP w.heap.size 3) (iP li)).setCell (aP w.heap.size 4) (iP co)).setCell (aP w.heap.size 5) nP).setCell (aP w.heap.size 6) nP).setCell (aP w.heap.size 7) nP)
 rw [<- Zm]
 obtain⟨Zw,Xd,Tm⟩:Left pb tb cap ts w d (.inr p) w.heap.size nb wt Wf ⟨4,⟨s.toArray⟩,0,li,co,none,0,0,none,0,0,none,0,0⟩ 0:=by rw [Zm]; exact I0 (rb:=w.heap.size) X.o (by simp) nb ⟨4,⟨s.toArray⟩,0,li,co,none,0,0,none,0,0,none,0,0⟩
 clear Zm
 replace Zw:=Za Zw
 refine Bt rfl rfl (Zw.o.box xM) rfl ⟨Zw.o.st,?_,⟨4,⟨s.toArray⟩,0,li,co,none,0,0,none,0,0,none,0,0⟩,rfl,fun D c e=>?_⟩
 ·exact Zw.o.at_
 ·cases e
theorem zgf (pb tb cap d:Nat) (ts:List Tok) (A:Ym ts) (K E:Nat->Pr Ty) (f:Nat) (C:ts.length<=f+1) (z:∀ a x b,K a = .inl (x,b)->a<=b)
  (H:∀ S w,Z2 w pb tb cap ts d S->Calls prog 73 #[qP pb] w (N0 pb tb cap ts d w (Zi K S)))
  (F:∀ S w,Z2 w pb tb cap ts d S->Calls prog 61 #[qP pb] w (V0 pb tb cap ts d w (Zi E S)))
  (j:∀ a li co w,li=Yj ts a->co=Yi ts a->Z2 w pb tb cap ts d (.inl (a+1))->Calls prog 132 #[qP pb,(Yf 2 li co).val] w (V0 pb tb cap ts d w (Aj ts E (f+1) a)))
  (S:Yd) (w:wD) (h:Z2 w pb tb cap ts d S) :
  Calls prog 126 #[qP pb] w (V0 pb tb cap ts d w (Zi (Pt ts K E (f+1)) S)):=by
 cases S with
 | inl a=>exact zgh pb tb cap d ts A K E f C z H F a (j a) w h
 | inr p=>exact zgg pb tb cap d ts A p w h
theorem Jx {α β:Type} (R:Pr α) (G:α->Nat->Pr β) (k:Yd->Yd) (j:∀ p,k (.inr p) = .inr p) (h:∀ x b,R = .inl (x,b)->Zf (G x b)=k (.inl b)):Zf (R.go G)=k (Zf R):=by
 cases R with
 | inr p=>exact(j p).symm
 | inl q=>exact h q.1 q.2 rfl
theorem qH {α β:Type} (R:Pr α) (G:α->β):Zf (R.go fun x b=>(.inl (G x,b):Pr β))=Zf R:=by cases R <;> rfl
theorem Ni {α β:Type} {R:Pr α} {G:α->Nat->Pr β} {D:β} {c:Nat} (h:R.go G = .inl (D,c)):∃ x b,R = .inl (x,b)/\G x b = .inl (D,c):=by
 cases R with
 | inr p=>cases h
 | inl q=>exact⟨q.1,q.2,rfl,h⟩
section
variable (ts : List Tok) (K E U : Nat -> Pr Ty) (f a : Nat)
def tZ:Pr Ty:=(Zu ts (a+1)).go fun s b=>(Vp ts K b).go fun t b=>(Ze ts b [61]).go fun _ b=>(E b).go fun v b=>(Ze ts b [59]).go fun _ b=>(E b).go fun r b => .inl (Zp 5 s 0 (Yj ts a) (Yi ts a) t [] [v,r],b)
def tY:Pr Ty:=(E (a+1)).go fun c b=>(Ze ts b [116,104,101,110]).go fun _ b=>(E b).go fun x b=>(Ze ts b [101,108,115,101]).go fun _ b=>(E b).go fun y b => .inl (Zp 11 [] 0 (Yj ts a) (Yi ts a) [] [] [c,x,y],b)
def tX:Pr Ty:=(B8 ts K (a+1)).go fun h b=>(Ze ts b [61,62]).go fun _ b=>(E b).go fun x b => .inl (Zp 6 h.1 0 (Yj ts a) (Yi ts a) h.2 [] [x],b)
def ex3:Pr Ty:=if Zg ts a [102,110] then tX ts K E a else Co ts K U f a
def ex2:Pr Ty:=if Zg ts a [105,102] then tY ts E a else ex3 ts K E U f a
theorem qB:Nh ts K E U f a=if Zg ts a [108,101,116] then tZ ts K E a else ex2 ts K E U f a:=rfl
end
theorem zes {lo:Nat} {w':wD} {R:Pr (List Ty)} {e:Ending} (h:lQ lo w' R e):∃ (A:oA) (C z:Nat) (cs:List (List vL)) (acc:List (Option Ty)),e = .returned (.slice A C z)/\Yq Qm lo 94 4 none w' (.slice A acc.length z) cs acc/\acc.length<=1/\C=acc.length/\∀ l b,R = .inl (l,b)->acc=l.map some:=by
 rcases h with⟨rfl,j⟩ | ⟨g,k1,nm1,na1,nl1,nc1,ka1,kl1,kc1,F,rfl,H,j⟩
 ·exact⟨none,0,0,[],[],rfl,Ha Qm _ _ _ _,by simp,rfl,fun l b e=>by rw [j l b e]; rfl⟩
 ·refine⟨some (aP g 0),1,1,_,[F],rfl,H,by simp,rfl,fun l b e=>?_⟩
  obtain⟨t,rfl,rfl⟩:=j l b e;rfl
theorem zhb (pb tb cap d:Nat) (ts:List Tok) (ok:Ym ts) (K E U:Nat->Pr Ty) (f:Nat)
  (hK:∀ S w,Z2 w pb tb cap ts d S->Calls prog 73 #[qP pb] w (N0 pb tb cap ts d w (Zi K S)))
  (hE:∀ S w,Z2 w pb tb cap ts d S->Calls prog 61 #[qP pb] w (V0 pb tb cap ts d w (Zi E S)))
  (hO:∀ S w,Z2 w pb tb cap ts d S->Calls prog 98 #[qP pb,iP 0] w (V0 pb tb cap ts d w (Zi (Co ts K U f) S)))
  (S:Yd) (w:wD) (h:Z2 w pb tb cap ts d S) :
  Calls prog 76 #[qP pb] w (V0 pb tb cap ts d w (Zi (Nh ts K E U f) S)):=by
 have OK:=Za ok
 have HK:=Za hK
 have HE:=Za hE
 have HO:=Za hO
 have X0:=Za (Hb h Zj.obj)
 have hp:=h.ltp
 obtain⟨R,hR⟩:=xE (Zi (Nh ts K E U f) S)
 rw [<- hR]
 have HR:=Za hR
 clear h hR hE hO hK
 go_enter func76,ntmps76
 go_wp2_with fail
 refine(zR pb tb cap d ts S 5 _ X0.o.at_).mono ?_
 rintro e w1 ⟨li,co,rfl,Bl,j,A⟩
 have X1:=Za ((X0.o.step j A).alloc (Yf 5 li co).obj)
 have N9:=Za Bl
 have Xq:=j.size
 rw [xS] at Xq
 clear j A Bl X0
 go_wp2_with fail
 obtain⟨nb,Vc⟩:=xE w1.heap.size
 rw [<- Vc] at X1 Xq ⊢
 clear Vc
 generalize w1.alloc (.cells #[iP 5,sP,iP 0,iP li,iP co,nP,nP,nP] 64)=W1 at X1 ⊢
 have hwn:w.heap.size<nb:=Xq
 refine(Vi pb tb cap d ts S [108,101,116] _ X1.o.at_ OK.o).mono ?_
 rintro e wt ⟨rfl,j,A⟩
 have X:=Za (X1.o.step j A)
 clear j A X1
 cases H:Y2 ts S [108,101,116] with
 | true =>
  rw [H,if_pos rfl] at X
  obtain⟨a,rfl⟩:∃ a,S = .inl a:=by cases S with
   | inl a=>exact⟨a,rfl⟩
   | inr p=>cases H
  obtain⟨hl,hc⟩:=N9.o a rfl;have Xp:=Za (And.intro hl hc);replace X:xQ (RX pb tb cap ts w wt d (.inl (a+1)) [(nb,(Yf 5 li co).obj),(w.heap.size,Zj.obj)]):=X;clear hl hc N9
  have Yy:xQ (R=tZ ts K E a):=by
   rw [HR.o];show Nh ts K E U f a=_;rw [qB];exact if_pos H
  clear H HR;go_wp2_with fail;refine(Gm pb tb cap d ts (.inl (a+1)) _ X.o.at_ OK.o).mono ?_;rintro e w2 ⟨rfl,j,A⟩;have X2:=Za (X.o.step j A);clear j A X;obtain⟨R2,Tg⟩:=xE (Zu ts (a+1));have e9:Zi (Zu ts) (.inl (a+1))=R2:=Tg.symm;rw [e9] at X2 ⊢;have Zy:=Za Tg;obtain⟨s,H⟩:=xE (Vd R2);rw [<- H];have Kd:=Za H;clear H e9 Tg;obtain⟨⟨n0,n1,n2,n3,n4,n5,n6,n7⟩,⟨g0,g1,V,g3,g4,g5,g6,g7⟩,Yb⟩:=Zn (X2.o.box (p:=(nb,(Yf 5 li co).obj)) (by simp))
  have X3:xQ (RX pb tb cap ts w (w2.setCell (aP nb 1) (uP s)) d (Zf R2) [(nb,NV.obj ⟨5,⟨s.toArray⟩,0,li,co,none,0,0,none,0,0,none,0,0⟩),(w.heap.size,Zj.obj)]):=X2.o.setB (by simp; omega) 1 (uP s);go_wp2_with fail;refine(bN pb tb cap d ts OK.o K HK.o (Zf R2) _ X3.o.at_).mono ?_;rintro e w3 ⟨j,A,hnote⟩;have hnw:=xB (X3.o.box (p:=(nb,NV.obj ⟨5,⟨s.toArray⟩,0,li,co,none,0,0,none,0,0,none,0,0⟩)) (by simp))
  obtain⟨I,al,M,cs,acc,rfl,Ch,hal2,hlen,N6⟩:=zes hnote;have X4:=Za (X3.o.step j A);have Y:=Za (Ch.lowerB (B':=nb+1) hnw);have Au:=Za N6;subst hlen;clear j A X2 X3 Ch N6 hnote n0 n1 n2 n3 n4 n5 n6 n7 g0 g1 V g3 g4 g5 g6 g7 Yb;obtain⟨R3,Mu⟩:=xE (Zi (Vp ts K) (Zf R2));rw [<- Mu] at X4 Au;have Yz:=Za Mu;clear Mu;obtain⟨⟨n0,n1,n2,n3,n4,n5,n6,n7⟩,⟨g0,g1,V,g3,g4,g5,g6,g7⟩,Yb⟩:=Zn (X4.o.box (p:=(nb,NV.obj ⟨5,⟨s.toArray⟩,0,li,co,none,0,0,none,0,0,none,0,0⟩)) (by simp))
  have X5:xQ (RX pb tb cap ts w (w3.setCell (aP nb 5) (.slice I acc.length M)) d (Zf R3) [(nb,NV.obj ⟨5,⟨s.toArray⟩,0,li,co,I,acc.length,M,none,0,0,none,0,0⟩),(w.heap.size,Zj.obj)]):=X4.o.setB (by simp; omega) 5 (.slice I acc.length M);replace Y:=Za (Y.o.stay (Hc w3 nb 5 (.slice I acc.length M)) (xU _));go_wp2_with fail;refine(Td pb tb cap d ts (Zf R3) [61] _ X5.o.at_ OK.o).mono ?_
  rintro e w5 ⟨rfl,j,A⟩;have Z:=Za (X5.o.step j A);replace Y:=Za (Y.o.stay j (by omega));clear j A X4 X5 n0 n1 n2 n3 n4 n5 n6 n7 g0 g1 V g3 g4 g5 g6 g7 Yb;obtain⟨S4,Nl⟩:=xE (Zf (Zi (fun a=>Ze ts a [61]) (Zf R3)));rw [<- Nl] at Z;have Wm:=Za Nl;clear Nl;go_wp2_with fail;refine(HE.o _ _ Z.o.at_).mono ?_;rintro e wv ⟨j,A,z,rfl,hv⟩;have X7:=Za ((Z.o.step j A).alloc z.obj)
  have Vk:=xB (Z.o.box (p:=(nb,_)) (xM));replace Y:=Za ((Y.o.stay j (by omega)).stay ((Zl.refl pb wv).alloc (xT Z.o.at_.ltp j.size) z.obj) (by omega));have T:xQ (Wl (nb+1) (wv.alloc z.obj) z (Zi E S4)):=(Wl.lower hv Vk).below (Zq _ _);have Ml:=j.size;clear j A hv Z;obtain⟨R5,Lv⟩:=xE (Zi E S4);rw [<- Lv] at X7 T;have Wn:=Za Lv;clear Lv;go_wp2_with fail;obtain⟨kb,Vt⟩:=xE wv.heap.size
  rw [<- Vt] at X7 Ml ⊢;clear Vt;generalize wv.alloc (.cells #[iP z.k,.string z.tx,iP z.N,iP z.li,iP z.co,.slice z.ta z.tl z.tc,.slice z.na z.nl z.nc,.slice z.ka z.kl z.kc] 64)=W7 at X7 T Y ⊢
  have hnkb:nb<kb:=by omega
  clear Vk Ml;go_wp2_with fail;refine(Td pb tb cap d ts (Zf R5) [59] _ X7.o.at_ OK.o).mono ?_;rintro e w8 ⟨rfl,j,A⟩;have X8:=Za (X7.o.step j A);replace Y:=Za (Y.o.stay j (by omega));replace T:=Za (T.o.stay j (by omega));clear j A X7;obtain⟨S6,Nm⟩:=xE (Zf (Zi (fun a=>Ze ts a [59]) (Zf R5)));rw [<- Nm] at X8;have Ln:=Za Nm;clear Nm;replace X8:xQ (RX pb tb cap ts w w8 d S6 [(nb,NV.obj ⟨5,⟨s.toArray⟩,0,li,co,I,acc.length,M,none,0,0,none,0,0⟩),(kb,z.obj),(w.heap.size,Zj.obj)]):=X8.o.perm (by simp)
  go_wp2_with fail;refine(HE.o _ _ X8.o.at_).mono ?_;rintro e C ⟨j,A,u,rfl,hv⟩;have J:=Za (X8.o.step j A);have Vk:=xB (X8.o.box (p:=(nb,_)) (xM));replace Y:=Za (Y.o.stay j (by omega));replace T:=Za (T.o.stay j (by omega));have Pb:xQ (Wl (nb+1) C u (Zi E S6)):=Wl.lower hv Vk;clear j A hv X8 Vk;obtain⟨R7,Nk⟩:=xE (Zi E S6);rw [<- Nk] at J Pb;have Vz:=Za Nk;clear Nk
  have Xc:xQ (Zf R=Zf R7):=by
   show _=_;rw [Yy.o,Vz.o,Ln.o,Wn.o,Wm.o,Yz.o,Zy.o];unfold tZ
   refine Jx _ _ (fun S=>Zf (Zi E (Zf (Zi (fun a=>Ze ts a [59]) (Zf (Zi E (Zf (Zi (fun a=>Ze ts a [61]) (Zf (Zi (Vp ts K) S)))))))))) (fun _=>rfl) fun s b _=>?_
   refine Jx _ _ (fun S=>Zf (Zi E (Zf (Zi (fun a=>Ze ts a [59]) (Zf (Zi E (Zf (Zi (fun a=>Ze ts a [61]) S)))))))) (fun _=>rfl) fun l b _=>?_
   refine Jx _ _ (fun S=>Zf (Zi E (Zf (Zi (fun a=>Ze ts a [59]) (Zf (Zi E S)))))) (fun _=>rfl) fun _ b _=>?_
   refine Jx _ _ (fun S=>Zf (Zi E (Zf (Zi (fun a=>Ze ts a [59]) S)))) (fun _=>rfl) fun x b _=>?_
   refine Jx _ _ (fun S=>Zf (Zi E S)) (fun _=>rfl) fun _ b _=>?_
   exact qH (E b) fun r=>Zp 5 s 0 (Yj ts a) (Yi ts a) l [] [x,r]
  have Nc:xQ (∀ D c,R = .inl (D,c)->∃ s' b2 l b3 x b5 y b7,R2 = .inl (s',b2)/\R3 = .inl (l,b3)/\R5 = .inl (x,b5)/\R7 = .inl (y,b7)/\D=Zp 5 s' 0 (Yj ts a) (Yi ts a) l [] [x,y]):=fun D c e=>by
   rw [Yy.o] at e;unfold tZ at e;obtain⟨s',b2,h2,e⟩:=Ni e;obtain⟨l,b3,h3,e⟩:=Ni e;obtain⟨_,b4,h4,e⟩:=Ni e;obtain⟨x,b5,h5,e⟩:=Ni e;obtain⟨_,b6,h6,e⟩:=Ni e;obtain⟨y,b7,F,e⟩:=Ni e;injection e with e;injection e with e _
   have V:R2 = .inl (s',b2):=by rw [Zy.o,h2]
   have g3:R3 = .inl (l,b3):=by rw [Yz.o,V]; exact h3
   have g4:S4 = .inl b4:=by rw [Wm.o,g3]; show Zf (Ze ts b3 [61])=_; rw [h4]; rfl
   have g5:R5 = .inl (x,b5):=by rw [Wn.o,g4]; exact h5
   have g6:S6 = .inl b6:=by rw [Ln.o,g5]; show Zf (Ze ts b5 [59])=_; rw [h6]; rfl
   exact⟨s',b2,l,b3,x,b5,y,b7,V,g3,g5,by rw [Vz.o,g6]; exact F,e.symm⟩
  obtain⟨⟨z0,z1,z2,z3,z4,z5,z6,z7⟩,_,Z8⟩:=Zn (J.o.box (p:=(kb,z.obj)) (by simp))
  have Rz:¬ kb=nb:=by omega
  have Ir:¬ kb=w.heap.size:=by omega
  obtain⟨⟨n0,n1,n2,n3,n4,n5,n6,n7⟩,⟨g0,g1,V,g3,g4,g5,g6,g7⟩,Yb⟩:=Zn (J.o.box (p:=(nb,NV.obj ⟨5,⟨s.toArray⟩,0,li,co,I,acc.length,M,none,0,0,none,0,0⟩)) (by simp));obtain⟨⟨r0,r1,r2,r3,r4,r5,r6,r7⟩,⟨f0,f1,f2,f3,f4,f5,f6,f7⟩,Xe⟩:=Zn (J.o.box (p:=(w.heap.size,Zj.obj)) (by simp))
  have Ub:¬ nb=w.heap.size:=by omega
  have Up:¬ w.heap.size=nb:=by omega
  go_wp2_with fail;obtain⟨Wf,Zm⟩:=xE (((((((((((C.setCell (aP nb 7) (lP (C.heap.size+1) 2 2)).setCell (aP w.heap.size 0) (iP 5)).setCell (aP w.heap.size 1) (uP s)).setCell (aP w.heap.size 2) (iP 0)).setCell (aP w.heap.size 3) (iP li)).setCell (aP w.heap.size 4) (iP co)).setCell (aP w.heap.size 5) (.slice I acc.length M)).setCell (aP w.heap.size 6) nP).setCell (aP w.heap.size 7) (lP (C.heap.size+1) 2 2)).alloc (.cells #[iP u.k,.string u.tx,iP u.N,iP u.li,iP u.co,.slice u.ta u.tl u.tc,.slice u.na u.nl u.nc,.slice u.ka u.kl u.kc] 64)).alloc (.cells #[iP z.k,.string z.tx,iP z.N,iP z.li,iP z.co,.slice z.ta z.tl z.tc,.slice z.na z.nl z.nc,.slice z.ka z.kl z.kc,iP u.k,.string u.tx,iP u.N,iP u.li,iP u.co,.slice u.ta u.tl u.tc,.slice u.na u.nl u.nc,.slice u.ka u.kl u.kc] 64))
  rw [<- Zm]
  obtain⟨O,Xd,Tm⟩:Left pb tb cap ts w d (Zf R7) w.heap.size nb C Wf ⟨5,⟨s.toArray⟩,0,li,co,I,acc.length,M,none,0,0,(some (aP (C.heap.size+1) 0)),2,2⟩ 2:=by rw [Zm]; exact Dt (Dt (J6 (rb:=w.heap.size) J.o (by simp) (by omega) (by omega) 7 (lP (C.heap.size+1) 2 2) ⟨5,⟨s.toArray⟩,0,li,co,I,acc.length,M,none,0,0,(some (aP (C.heap.size+1) 0)),2,2⟩) (u.obj)) (Bv z u)
  have Yu:Wf.heap[C.heap.size+1]?=some (Bv z u):=by rw [Zm]; exact zL (Dt (J6 (rb:=w.heap.size) J.o (by simp) (by omega) (by omega) 7 (lP (C.heap.size+1) 2 2) ⟨5,⟨s.toArray⟩,0,li,co,I,acc.length,M,none,0,0,(some (aP (C.heap.size+1) 0)),2,2⟩) (u.obj)) (Bv z u) rfl
  clear Zm;replace O:=Za O;refine Bt rfl rfl (O.o.box xM) rfl ⟨O.o.st,?_,⟨5,⟨s.toArray⟩,0,li,co,I,acc.length,M,none,0,0,(some (aP (C.heap.size+1) 0)),2,2⟩,rfl,fun D c e=>?_⟩
  ·rw [Xc.o]; exact O.o.at_
  ·obtain⟨s',b2,l,b3,x,b5,y,b7,h2,h3,h5,F,hD⟩:=Nc.o D c e
   have hss:s=s':=by rw [Kd.o,h2]; rfl
   have A0:=Au.o l b3 h3
   have hz:Y0 (nb+1) Wf z x:=(T.o x b5 h5).keep (by omega) fun c h6 F=>Xd c (by omega) (by omega) F
   have hu:Y0 (nb+1) Wf u y:=(Pb.o y b7 F).keep (by omega) fun c h6 F=>Xd c (by omega) (by omega) F
   have hr:=Y.o;rw [A0] at hr;obtain⟨a2,cap2,m,ea,Xl,hk⟩:=Ek (wJ hr);rw [List.length_map] at ea;injection ea with ea _ _;subst ea
   have hll:acc.length=l.length:=by rw [A0,List.length_map]
   have Tt:Qk Wf (nb+1) m I l:=L4 hk (by omega) fun c h6 F=>Xd c (by omega) (by omega) F
   have:=(Dv (kb:=C.heap.size+1) hz hu Yu (by omega) ⟨5,⟨s.toArray⟩,0,li,co,I,acc.length,M,none,0,0,(some (aP (C.heap.size+1) 0)),2,2⟩ l [] ⟨rfl,rfl⟩ ⟨hll,by omega,m,Tt⟩ ⟨rfl,xZ _,.inl rfl⟩).lower (show w.heap.size<=nb+1 by omega);rw [hD,<- hss,<- Xp.o.1,<- Xp.o.2];exact this
 | false =>
 rw [H,if_neg (by simp)] at X
 have B1:=Za H
 clear H
 obtain⟨W10,Io⟩:=xE wt
 subst Io
 have X10:=X
 clear X
 go_wp2_with fail
 refine(Vi pb tb cap d ts S [105,102] _ X10.o.at_ OK.o).mono ?_
 rintro e wt ⟨rfl,j,A⟩
 have X:=Za (X10.o.step j A)
 clear j A X10
 cases H:Y2 ts S [105,102] with
 | true =>
  rw [H,if_pos rfl] at X
  obtain⟨a,rfl⟩:∃ a,S = .inl a:=by cases S with
   | inl a=>exact⟨a,rfl⟩
   | inr p=>cases H
  obtain⟨hl,hc⟩:=N9.o a rfl;have Xp:=Za (And.intro hl hc);replace X:xQ (RX pb tb cap ts w wt d (.inl (a+1)) [(nb,(Yf 5 li co).obj),(w.heap.size,Zj.obj)]):=X;clear hl hc N9
  have Yy:xQ (R=tY ts E a):=by
   rw [HR.o];show Nh ts K E U f a=_;rw [qB,if_neg (by rw [show Zg ts a [108,101,116]=false from B1.o]; simp)];exact if_pos H
  clear H HR B1;obtain⟨⟨n0,n1,n2,n3,n4,n5,n6,n7⟩,⟨g0,g1,V,g3,g4,g5,g6,g7⟩,Yb⟩:=Zn (X.o.box (p:=(nb,(Yf 5 li co).obj)) (by simp));have X2:xQ (RX pb tb cap ts w (wt.setCell (aP nb 0) (iP 11)) d (.inl (a+1)) [(nb,NV.obj ⟨11,⟨#[]⟩,0,li,co,none,0,0,none,0,0,none,0,0⟩),(w.heap.size,Zj.obj)]):=X.o.setB (by simp; omega) 0 (iP 11);clear X;go_wp2_with fail;refine(HE.o _ _ X2.o.at_).mono ?_
  rintro e wv ⟨j,A,z,rfl,hv⟩;have X3:=Za ((X2.o.step j A).alloc z.obj);have Vk:=xB (X2.o.box (p:=(nb,_)) (xM));have T:xQ (Wl (nb+1) (wv.alloc z.obj) z (Zi E (.inl (a+1)))):=(Wl.lower hv Vk).below (Zq _ _);have Ml:=j.size;clear j A hv X2 n0 n1 n2 n3 n4 n5 n6 n7 g0 g1 V g3 g4 g5 g6 g7 Yb;obtain⟨R2,Tg⟩:=xE (Zi E (.inl (a+1)));rw [<- Tg] at X3 T;have Zy:=Za Tg;clear Tg
  go_wp2_with fail;obtain⟨kb,Vt⟩:=xE wv.heap.size;rw [<- Vt] at X3 Ml ⊢;clear Vt;generalize wv.alloc (.cells #[iP z.k,.string z.tx,iP z.N,iP z.li,iP z.co,.slice z.ta z.tl z.tc,.slice z.na z.nl z.nc,.slice z.ka z.kl z.kc] 64)=W3 at X3 T  ⊢
  have hnkb:nb<kb:=by omega
  clear Vk Ml;go_wp2_with fail;refine(Td pb tb cap d ts (Zf R2) [116,104,101,110] _ X3.o.at_ OK.o).mono ?_;rintro e w4 ⟨rfl,j,A⟩;have X4:=Za (X3.o.step j A);replace T:=Za (T.o.stay j (by omega));clear j A X3;obtain⟨S4,Nl⟩:=xE (Zf (Zi (fun a=>Ze ts a [116,104,101,110]) (Zf R2)));rw [<- Nl] at X4;have Wm:=Za Nl;clear Nl;replace X4:xQ (RX pb tb cap ts w w4 d S4 [(nb,NV.obj ⟨11,⟨#[]⟩,0,li,co,none,0,0,none,0,0,none,0,0⟩),(kb,z.obj),(w.heap.size,Zj.obj)]):=X4.o.perm (by simp)
  go_wp2_with fail;refine(HE.o _ _ X4.o.at_).mono ?_;rintro e wv ⟨j,A,u,rfl,hv⟩;have X5:=Za ((X4.o.step j A).alloc u.obj);have Vk:=xB (X4.o.box (p:=(nb,_)) (xM));replace T:=Za ((T.o.stay j (by omega)).below (Zq _ u.obj));have Pb:xQ (Wl (nb+1) (wv.alloc u.obj) u (Zi E S4)):=(Wl.lower hv Vk).below (Zq _ _);have Ml:=j.size;clear j A hv X4;obtain⟨R5,Lv⟩:=xE (Zi E S4)
  rw [<- Lv] at X5 Pb;have Wn:=Za Lv;clear Lv;go_wp2_with fail;obtain⟨mb,Vt⟩:=xE wv.heap.size;rw [<- Vt] at X5 Ml ⊢;clear Vt;generalize wv.alloc (.cells #[iP u.k,.string u.tx,iP u.N,iP u.li,iP u.co,.slice u.ta u.tl u.tc,.slice u.na u.nl u.nc,.slice u.ka u.kl u.kc] 64)=W5 at X5 Pb T ⊢
  have hnmb:nb<mb:=by omega
  clear Vk Ml;go_wp2_with fail;refine(Td pb tb cap d ts (Zf R5) [101,108,115,101] _ X5.o.at_ OK.o).mono ?_;rintro e w6 ⟨rfl,j,A⟩;have Z:=Za (X5.o.step j A);replace T:=Za (T.o.stay j (by omega));replace Pb:=Za (Pb.o.stay j (by omega));clear j A X5;obtain⟨S6,Nm⟩:=xE (Zf (Zi (fun a=>Ze ts a [101,108,115,101]) (Zf R5)));rw [<- Nm] at Z;have Ln:=Za Nm;clear Nm;replace Z:xQ (RX pb tb cap ts w w6 d S6 [(nb,NV.obj ⟨11,⟨#[]⟩,0,li,co,none,0,0,none,0,0,none,0,0⟩),(mb,u.obj),(kb,z.obj),(w.heap.size,Zj.obj)]):=Z.o.perm (by simp)
  go_wp2_with fail;refine(HE.o _ _ Z.o.at_).mono ?_;rintro e C ⟨j,A,v,rfl,hv⟩;have J:=Za (Z.o.step j A);have Vk:=xB (Z.o.box (p:=(nb,_)) (xM));replace T:=Za (T.o.stay j (by omega));replace Pb:=Za (Pb.o.stay j (by omega));have HZv:xQ (Wl (nb+1) C v (Zi E S6)):=Wl.lower hv Vk;clear j A hv Z Vk;obtain⟨R7,Nk⟩:=xE (Zi E S6);rw [<- Nk] at J HZv;have Vz:=Za Nk
  clear Nk
  have Xc:xQ (Zf R=Zf R7):=by
   show _=_;rw [Yy.o,Vz.o,Ln.o,Wn.o,Wm.o,Zy.o];unfold tY
   refine Jx _ _ (fun S=>Zf (Zi E (Zf (Zi (fun a=>Ze ts a [101,108,115,101]) (Zf (Zi E (Zf (Zi (fun a=>Ze ts a [116,104,101,110]) S)))))))) (fun _=>rfl) fun c b _=>?_
   refine Jx _ _ (fun S=>Zf (Zi E (Zf (Zi (fun a=>Ze ts a [101,108,115,101]) (Zf (Zi E S)))))) (fun _=>rfl) fun _ b _=>?_
   refine Jx _ _ (fun S=>Zf (Zi E (Zf (Zi (fun a=>Ze ts a [101,108,115,101]) S)))) (fun _=>rfl) fun x b _=>?_
   refine Jx _ _ (fun S=>Zf (Zi E S)) (fun _=>rfl) fun _ b _=>?_
   exact qH (E b) fun r=>Zp 11 [] 0 (Yj ts a) (Yi ts a) [] [] [c,x,r]
  have Nc:xQ (∀ D c,R = .inl (D,c)->∃ t b2 x b5 y b7,R2 = .inl (t,b2)/\R5 = .inl (x,b5)/\R7 = .inl (y,b7)/\D=Zp 11 [] 0 (Yj ts a) (Yi ts a) [] [] [t,x,y]):=fun D c e=>by
   rw [Yy.o] at e;unfold tY at e;obtain⟨t,b2,h2,e⟩:=Ni e;obtain⟨_,b4,h4,e⟩:=Ni e;obtain⟨x,b5,h5,e⟩:=Ni e;obtain⟨_,b6,h6,e⟩:=Ni e;obtain⟨y,b7,F,e⟩:=Ni e;injection e with e;injection e with e _
   have V:R2 = .inl (t,b2):=by rw [Zy.o]; exact h2
   have g4:S4 = .inl b4:=by rw [Wm.o,V]; show Zf (Ze ts b2 [116,104,101,110])=_; rw [h4]; rfl
   have g5:R5 = .inl (x,b5):=by rw [Wn.o,g4]; exact h5
   have g6:S6 = .inl b6:=by rw [Ln.o,g5]; show Zf (Ze ts b5 [101,108,115,101])=_; rw [h6]; rfl
   exact⟨t,b2,x,b5,y,b7,V,g5,by rw [Vz.o,g6]; exact F,e.symm⟩
  obtain⟨⟨z0,z1,z2,z3,z4,z5,z6,z7⟩,_,Z8⟩:=Zn (J.o.box (p:=(kb,z.obj)) (by simp));obtain⟨⟨u0,u1,u2,u3,u4,u5,u6,u7⟩,_,Uu⟩:=Zn (J.o.box (p:=(mb,u.obj)) (by simp))
  have Rz:¬ kb=nb:=by omega
  have hne8:¬ mb=nb:=by omega
  have Ir:¬ kb=w.heap.size:=by omega
  have A4:¬ mb=w.heap.size:=by omega
  obtain⟨⟨n0,n1,n2,n3,n4,n5,n6,n7⟩,⟨g0,g1,V,g3,g4,g5,g6,g7⟩,Yb⟩:=Zn (J.o.box (p:=(nb,NV.obj ⟨11,⟨#[]⟩,0,li,co,none,0,0,none,0,0,none,0,0⟩)) (by simp));obtain⟨⟨r0,r1,r2,r3,r4,r5,r6,r7⟩,⟨f0,f1,f2,f3,f4,f5,f6,f7⟩,Xe⟩:=Zn (J.o.box (p:=(w.heap.size,Zj.obj)) (by simp))
  have Ub:¬ nb=w.heap.size:=by omega
  have Up:¬ w.heap.size=nb:=by omega
  go_wp2_with fail;obtain⟨Wf,Zm⟩:=xE (((((((((((C.setCell (aP nb 7) (lP (C.heap.size+1) 3 3)).setCell (aP w.heap.size 0) (iP 11)).setCell (aP w.heap.size 1) sP).setCell (aP w.heap.size 2) (iP 0)).setCell (aP w.heap.size 3) (iP li)).setCell (aP w.heap.size 4) (iP co)).setCell (aP w.heap.size 5) nP).setCell (aP w.heap.size 6) nP).setCell (aP w.heap.size 7) (lP (C.heap.size+1) 3 3)).alloc (.cells #[iP v.k,.string v.tx,iP v.N,iP v.li,iP v.co,.slice v.ta v.tl v.tc,.slice v.na v.nl v.nc,.slice v.ka v.kl v.kc] 64)).alloc (.cells #[iP z.k,.string z.tx,iP z.N,iP z.li,iP z.co,.slice z.ta z.tl z.tc,.slice z.na z.nl z.nc,.slice z.ka z.kl z.kc,iP u.k,.string u.tx,iP u.N,iP u.li,iP u.co,.slice u.ta u.tl u.tc,.slice u.na u.nl u.nc,.slice u.ka u.kl u.kc,iP v.k,.string v.tx,iP v.N,iP v.li,iP v.co,.slice v.ta v.tl v.tc,.slice v.na v.nl v.nc,.slice v.ka v.kl v.kc] 64))
  rw [<- Zm]
  obtain⟨O,Xd,Tm⟩:Left pb tb cap ts w d (Zf R7) w.heap.size nb C Wf ⟨11,⟨#[]⟩,0,li,co,none,0,0,none,0,0,(some (aP (C.heap.size+1) 0)),3,3⟩ 2:=by rw [Zm]; exact Dt (Dt (J6 (rb:=w.heap.size) J.o (by simp) (by omega) (by omega) 7 (lP (C.heap.size+1) 3 3) ⟨11,⟨#[]⟩,0,li,co,none,0,0,none,0,0,(some (aP (C.heap.size+1) 0)),3,3⟩) (v.obj)) (.cells #[iP z.k,.string z.tx,iP z.N,iP z.li,iP z.co,.slice z.ta z.tl z.tc,.slice z.na z.nl z.nc,.slice z.ka z.kl z.kc,iP u.k,.string u.tx,iP u.N,iP u.li,iP u.co,.slice u.ta u.tl u.tc,.slice u.na u.nl u.nc,.slice u.ka u.kl u.kc,iP v.k,.string v.tx,iP v.N,iP v.li,iP v.co,.slice v.ta v.tl v.tc,.slice v.na v.nl v.nc,.slice v.ka v.kl v.kc] 64)
  have Yu:Wf.heap[C.heap.size+1]?=some (.cells #[iP z.k,.string z.tx,iP z.N,iP z.li,iP z.co,.slice z.ta z.tl z.tc,.slice z.na z.nl z.nc,.slice z.ka z.kl z.kc,iP u.k,.string u.tx,iP u.N,iP u.li,iP u.co,.slice u.ta u.tl u.tc,.slice u.na u.nl u.nc,.slice u.ka u.kl u.kc,iP v.k,.string v.tx,iP v.N,iP v.li,iP v.co,.slice v.ta v.tl v.tc,.slice v.na v.nl v.nc,.slice v.ka v.kl v.kc] 64):=by rw [Zm]; exact zL (Dt (J6 (rb:=w.heap.size) J.o (by simp) (by omega) (by omega) 7 (lP (C.heap.size+1) 3 3) ⟨11,⟨#[]⟩,0,li,co,none,0,0,none,0,0,(some (aP (C.heap.size+1) 0)),3,3⟩) (v.obj)) (.cells #[iP z.k,.string z.tx,iP z.N,iP z.li,iP z.co,.slice z.ta z.tl z.tc,.slice z.na z.nl z.nc,.slice z.ka z.kl z.kc,iP u.k,.string u.tx,iP u.N,iP u.li,iP u.co,.slice u.ta u.tl u.tc,.slice u.na u.nl u.nc,.slice u.ka u.kl u.kc,iP v.k,.string v.tx,iP v.N,iP v.li,iP v.co,.slice v.ta v.tl v.tc,.slice v.na v.nl v.nc,.slice v.ka v.kl v.kc] 64) rfl
  clear Zm;replace O:=Za O;refine Bt rfl rfl (O.o.box xM) rfl ⟨O.o.st,?_,⟨11,⟨#[]⟩,0,li,co,none,0,0,none,0,0,(some (aP (C.heap.size+1) 0)),3,3⟩,rfl,fun D c e=>?_⟩
  ·rw [Xc.o]; exact O.o.at_
  ·obtain⟨t,b2,x,b5,y,b7,h2,h5,F,hD⟩:=Nc.o D c e
   have hz:Y0 (nb+1) Wf z t:=(T.o t b2 h2).keep (by omega) fun c h6 F=>Xd c (by omega) (by omega) F
   have hu:Y0 (nb+1) Wf u x:=(Pb.o x b5 h5).keep (by omega) fun c h6 F=>Xd c (by omega) (by omega) F
   have hv:Y0 (nb+1) Wf v y:=(HZv.o y b7 F).keep (by omega) fun c h6 F=>Xd c (by omega) (by omega) F
   have:=(dP (kb:=C.heap.size+1) hz hu hv Yu (by omega) ⟨11,⟨#[]⟩,0,li,co,none,0,0,none,0,0,(some (aP (C.heap.size+1) 0)),3,3⟩ ⟨rfl,rfl⟩ rfl rfl).lower (show w.heap.size<=nb+1 by omega);rw [hD,<- Xp.o.1,<- Xp.o.2];exact this
 | false =>
 rw [H,if_neg (by simp)] at X
 have Vr:=Za H
 clear H
 obtain⟨W11,hW11⟩:=xE wt
 subst hW11
 have X11:=X
 clear X
 go_wp2_with fail
 refine(Vi pb tb cap d ts S [102,110] _ X11.o.at_ OK.o).mono ?_
 rintro e wt ⟨rfl,j,A⟩
 have X:=Za (X11.o.step j A)
 clear j A X11
 cases H:Y2 ts S [102,110] with
 | true =>
  rw [H,if_pos rfl] at X
  obtain⟨a,rfl⟩:∃ a,S = .inl a:=by cases S with
   | inl a=>exact⟨a,rfl⟩
   | inr p=>cases H
  obtain⟨hl,hc⟩:=N9.o a rfl;have Xp:=Za (And.intro hl hc);replace X:xQ (RX pb tb cap ts w wt d (.inl (a+1)) [(nb,(Yf 5 li co).obj),(w.heap.size,Zj.obj)]):=X;clear hl hc N9
  have Yy:xQ (R=tX ts K E a):=by
   rw [HR.o];show Nh ts K E U f a=_;rw [qB,if_neg (by rw [show Zg ts a [108,101,116]=false from B1.o]; simp)];unfold ex2;rw [if_neg (by rw [show Zg ts a [105,102]=false from Vr.o]; simp)];exact if_pos H
  clear H HR B1 Vr;obtain⟨⟨n0,n1,n2,n3,n4,n5,n6,n7⟩,⟨g0,g1,V,g3,g4,g5,g6,g7⟩,Yb⟩:=Zn (X.o.box (p:=(nb,(Yf 5 li co).obj)) (by simp));have X2:xQ (RX pb tb cap ts w (wt.setCell (aP nb 0) (iP 6)) d (.inl (a+1)) [(nb,NV.obj ⟨6,⟨#[]⟩,0,li,co,none,0,0,none,0,0,none,0,0⟩),(w.heap.size,Zj.obj)]):=X.o.setB (by simp; omega) 0 (iP 6);clear X;go_wp2_with fail;refine(s6 pb tb cap d ts OK.o K HK.o (.inl (a+1)) _ X2.o.at_).mono ?_
  rintro e w3 ⟨j,A,s,v0,cs,acc,rfl,Ch,yR,hac2,N6⟩;have hnw:=xB (X2.o.box (p:=(nb,NV.obj ⟨6,⟨#[]⟩,0,li,co,none,0,0,none,0,0,none,0,0⟩)) (by simp));have X3:=Za (X2.o.step j A);have Y:=Za (Ch.lowerB (B':=nb+1) hnw);have Au:=Za N6;obtain⟨I,M,rfl⟩:=Yt Ch.ow;clear j A X2 Ch N6 n0 n1 n2 n3 n4 n5 n6 n7 g0 g1 V g3 g4 g5 g6 g7 Yb;obtain⟨R2,Tg⟩:=xE (Zi (B8 ts K) (.inl (a+1)))
  rw [<- Tg] at X3 Au;have Zy:=Za Tg;clear Tg;obtain⟨⟨n0,n1,n2,n3,n4,n5,n6,n7⟩,⟨g0,g1,V,g3,g4,g5,g6,g7⟩,Yb⟩:=Zn (X3.o.box (p:=(nb,NV.obj ⟨6,⟨#[]⟩,0,li,co,none,0,0,none,0,0,none,0,0⟩)) (by simp));have X5:xQ (RX pb tb cap ts w ((w3.setCell (aP nb 1) (uP s)).setCell (aP nb 5) (.slice I acc.length M)) d (Zf R2) [(nb,NV.obj ⟨6,⟨s.toArray⟩,0,li,co,I,acc.length,M,none,0,0,none,0,0⟩),(w.heap.size,Zj.obj)]):=(X3.o.setB (by simp; omega) 1 (uP s)).setB (by simp; omega) 5 (.slice I acc.length M)
  replace Y:=Za ((Y.o.stay (Hc w3 nb 1 (uP s)) (xU _)).stay (Hc _ nb 5 (.slice I acc.length M)) (xU _));go_wp2_with fail;refine(Td pb tb cap d ts (Zf R2) [61,62] _ X5.o.at_ OK.o).mono ?_;rintro e w5 ⟨rfl,j,A⟩;have Z:=Za (X5.o.step j A);replace Y:=Za (Y.o.stay j (by omega));clear j A X3 X5 n0 n1 n2 n3 n4 n5 n6 n7 g0 g1 V g3 g4 g5 g6 g7 Yb;obtain⟨S6,Nm⟩:=xE (Zf (Zi (fun a=>Ze ts a [61,62]) (Zf R2)))
  rw [<- Nm] at Z;have Ln:=Za Nm;clear Nm;go_wp2_with fail;refine(HE.o _ _ Z.o.at_).mono ?_;rintro e C ⟨j,A,z,rfl,hv⟩;have J:=Za (Z.o.step j A);have Vk:=xB (Z.o.box (p:=(nb,_)) (xM));replace Y:=Za (Y.o.stay j (by omega));have T:xQ (Wl (nb+1) C z (Zi E S6)):=Wl.lower hv Vk;clear j A hv Z Vk;obtain⟨R7,Nk⟩:=xE (Zi E S6);rw [<- Nk] at J T;have Vz:=Za Nk;clear Nk
  have Xc:xQ (Zf R=Zf R7):=by
   show _=_;rw [Yy.o,Vz.o,Ln.o,Zy.o];unfold tX
   refine Jx _ _ (fun S=>Zf (Zi E (Zf (Zi (fun a=>Ze ts a [61,62]) S)))) (fun _=>rfl) fun hd b _=>?_
   refine Jx _ _ (fun S=>Zf (Zi E S)) (fun _=>rfl) fun _ b _=>?_
   exact qH (E b) fun r=>Zp 6 hd.1 0 (Yj ts a) (Yi ts a) hd.2 [] [r]
  have Nc:xQ (∀ D c,R = .inl (D,c)->∃ hd b2 y b7,R2 = .inl (hd,b2)/\R7 = .inl (y,b7)/\D=Zp 6 hd.1 0 (Yj ts a) (Yi ts a) hd.2 [] [y]):=fun D c e=>by
   rw [Yy.o] at e;unfold tX at e;obtain⟨hd,b2,h2,e⟩:=Ni e;obtain⟨_,b6,h6,e⟩:=Ni e;obtain⟨y,b7,F,e⟩:=Ni e;injection e with e;injection e with e _
   have V:R2 = .inl (hd,b2):=by rw [Zy.o]; exact h2
   have g6:S6 = .inl b6:=by rw [Ln.o,V]; show Zf (Ze ts b2 [61,62])=_; rw [h6]; rfl
   exact⟨hd,b2,y,b7,V,by rw [Vz.o,g6]; exact F,e.symm⟩
  obtain⟨⟨n0,n1,n2,n3,n4,n5,n6,n7⟩,⟨g0,g1,V,g3,g4,g5,g6,g7⟩,Yb⟩:=Zn (J.o.box (p:=(nb,NV.obj ⟨6,⟨s.toArray⟩,0,li,co,I,acc.length,M,none,0,0,none,0,0⟩)) (by simp));obtain⟨⟨r0,r1,r2,r3,r4,r5,r6,r7⟩,⟨f0,f1,f2,f3,f4,f5,f6,f7⟩,Xe⟩:=Zn (J.o.box (p:=(w.heap.size,Zj.obj)) (by simp))
  have Ub:¬ nb=w.heap.size:=by omega
  have Up:¬ w.heap.size=nb:=by omega
  go_wp2_with fail;obtain⟨Wf,Zm⟩:=xE (((((((((((C.setCell (aP nb 7) (lP (C.heap.size+1) 1 1)).setCell (aP w.heap.size 0) (iP 6)).setCell (aP w.heap.size 1) (uP s)).setCell (aP w.heap.size 2) (iP 0)).setCell (aP w.heap.size 3) (iP li)).setCell (aP w.heap.size 4) (iP co)).setCell (aP w.heap.size 5) (.slice I acc.length M)).setCell (aP w.heap.size 6) nP).setCell (aP w.heap.size 7) (lP (C.heap.size+1) 1 1)).alloc (.cells #[iP z.k,.string z.tx,iP z.N,iP z.li,iP z.co,.slice z.ta z.tl z.tc,.slice z.na z.nl z.nc,.slice z.ka z.kl z.kc] 64)).alloc (.cells #[iP z.k,.string z.tx,iP z.N,iP z.li,iP z.co,.slice z.ta z.tl z.tc,.slice z.na z.nl z.nc,.slice z.ka z.kl z.kc] 64))
  rw [<- Zm]
  obtain⟨O,Xd,Tm⟩:Left pb tb cap ts w d (Zf R7) w.heap.size nb C Wf ⟨6,⟨s.toArray⟩,0,li,co,I,acc.length,M,none,0,0,(some (aP (C.heap.size+1) 0)),1,1⟩ 2:=by rw [Zm]; exact Dt (Dt (J6 (rb:=w.heap.size) J.o (by simp) (by omega) (by omega) 7 (lP (C.heap.size+1) 1 1) ⟨6,⟨s.toArray⟩,0,li,co,I,acc.length,M,none,0,0,(some (aP (C.heap.size+1) 0)),1,1⟩) (z.obj)) (z.obj)
  have Yu:Wf.heap[C.heap.size+1]?=some (z.obj):=by rw [Zm]; exact zL (Dt (J6 (rb:=w.heap.size) J.o (by simp) (by omega) (by omega) 7 (lP (C.heap.size+1) 1 1) ⟨6,⟨s.toArray⟩,0,li,co,I,acc.length,M,none,0,0,(some (aP (C.heap.size+1) 0)),1,1⟩) (z.obj)) (z.obj) rfl
  clear Zm;replace O:=Za O;refine Bt rfl rfl (O.o.box xM) rfl ⟨O.o.st,?_,⟨6,⟨s.toArray⟩,0,li,co,I,acc.length,M,none,0,0,(some (aP (C.heap.size+1) 0)),1,1⟩,rfl,fun D c e=>?_⟩
  ·rw [Xc.o]; exact O.o.at_
  ·obtain⟨hd,b2,y,b7,h2,F,hD⟩:=Nc.o D c e
   obtain⟨hss,A0⟩:=Au.o hd b2 h2
   have hz:Y0 (nb+1) Wf z y:=(T.o y b7 F).keep (by omega) fun c h6 F=>Xd c (by omega) (by omega) F
   have hr:=Y.o;rw [A0] at hr;obtain⟨a2,cap2,m,ea,Xl,hk⟩:=Ek (wJ hr);rw [List.length_map] at ea;injection ea with ea _ _;subst ea
   have hll:acc.length=hd.2.length:=by rw [A0,List.length_map]
   have Tt:Qk Wf (nb+1) m I hd.2:=L4 hk (by omega) fun c h6 F=>Xd c (by omega) (by omega) F
   have:=(Ko (kb:=C.heap.size+1) hz Yu (by omega) ⟨6,⟨s.toArray⟩,0,li,co,I,acc.length,M,none,0,0,(some (aP (C.heap.size+1) 0)),1,1⟩ hd.2 [] ⟨rfl,rfl⟩ ⟨hll,by omega,m,Tt⟩ ⟨rfl,xZ _,.inl rfl⟩).lower (show w.heap.size<=nb+1 by omega);rw [hD,<- hss,<- Xp.o.1,<- Xp.o.2];exact this
 | false =>
 rw [H,if_neg (by simp)] at X
 have Lj:=Za H
 clear H
 obtain⟨W12,hW12⟩:=xE wt
 subst hW12
 have X12:=X
 clear X
 have Yy:xQ (R=Zi (Co ts K U f) S):=by
  rw [HR.o]
  cases S with
  | inr p=>exact rfl
  | inl a =>
   show Nh ts K E U f a=_;rw [qB,if_neg (by rw [show Zg ts a [108,101,116]=false from B1.o]; simp)];unfold ex2;rw [if_neg (by rw [show Zg ts a [105,102]=false from Vr.o]; simp)];unfold ex3;exact if_neg (by rw [show Zg ts a [102,110]=false from Lj.o]; simp)
 have HC:=Za (HO.o S _ X12.o.at_)
 rw [<- Yy.o] at HC
 clear B1 Vr Lj HR Yy
 go_wp2_with fail
 refine HC.o.mono ?_
 rintro e C ⟨j,A,z,rfl,hv⟩
 have J:=Za (X12.o.step j A)
 have HZ9:=Za (hv.lower (xB (X12.o.box (p:=(nb,(Yf 5 li co).obj)) (by simp))))
 clear j A hv X12 HC
 obtain⟨⟨n0,n1,n2,n3,n4,n5,n6,n7⟩,⟨g0,g1,V,g3,g4,g5,g6,g7⟩,Yb⟩:=Zn (J.o.box (p:=(nb,(Yf 5 li co).obj)) (by simp))
 obtain⟨⟨r0,r1,r2,r3,r4,r5,r6,r7⟩,⟨f0,f1,f2,f3,f4,f5,f6,f7⟩,Xe⟩:=Zn (J.o.box (p:=(w.heap.size,Zj.obj)) (by simp))
 have Ub:¬ nb=w.heap.size:=by omega
 have Up:¬ w.heap.size=nb:=by omega
 go_wp2_with fail
 obtain⟨Wf,Zm⟩:=xE ((((((((C.setCell (aP w.heap.size 0) (iP z.k)).setCell (aP w.heap.size 1) (.string z.tx)).setCell (aP w.heap.size 2) (iP z.N)).setCell (aP w.heap.size 3) (iP z.li)).setCell (aP w.heap.size 4) (iP z.co)).setCell (aP w.heap.size 5) (.slice z.ta z.tl z.tc)).setCell (aP w.heap.size 6) (.slice z.na z.nl z.nc)).setCell (aP w.heap.size 7) (.slice z.ka z.kl z.kc))
 rw [<- Zm]
 obtain⟨O,Xd,Tm⟩:Left pb tb cap ts w d (Zf R) w.heap.size nb C Wf z 0:=by rw [Zm]; exact I0 (rb:=w.heap.size) J.o (by simp) nb z
 clear Zm
 replace O:=Za O
 refine Bt rfl rfl (O.o.box xM) rfl ⟨O.o.st,?_,z,rfl,fun D c e=>?_⟩
 ·exact O.o.at_
 ·exact((HZ9.o D c e).keep (by omega) fun c h6 F=>Xd c (by omega) (by omega) F).lower (by omega)
end
theorem zbx (ts:List Tok) (b:Nat) (A:Zg ts b [105,109,112,111,114,116]=true):∃ (R1:Pr (bS)) (R2:Pr Unit) (h:Pr (List (bS))) (j:Pr Unit),
  R1=Zu ts (b+1)/\R2=Zi (fun a=>Ze ts a [58]) (Zf R1)/\h=Zi (fun a=>Z9 ts (Zu ts) [44] ts.length a) (Zf R2)/\j=Zi (fun a=>Ze ts a [59]) (Zf h) /\
  Zf (Bq ts b)=Zf j/\∀ D c,Bq ts b = .inl (D,c)->∃ s l b1 b3,R1 = .inl (s,b1)/\h = .inl (l,b3)/\D=L5 s l (Yj ts b) (Yi ts b):=by
 refine⟨_,_,_,_,rfl,rfl,rfl,rfl,?_⟩
 have z:Bq ts b=(Zu ts (b+1)).go fun s b'=>(Ze ts b' [58]).go fun _ b'=>(Z9 ts (Zu ts) [44] ts.length b').go fun l b'=>(Ze ts b' [59]).go fun _ b' => .inl (L5 s l (Yj ts b) (Yi ts b),b'):=by
  unfold Bq;rw [Ze,if_pos A];rfl
 rw [z]
 rcases Zu ts (b+1)with⟨s,b1⟩ | p
 ·show Zf ((Ze ts b1 [58]).go _)=Zf (Zi _ (Zf (Zi _ (Zf (Ze ts b1 [58])))))/\∀ D c,(Ze ts b1 [58]).go _ = .inl (D,c)->∃ s' l b1' b3,(.inl (s,b1):Pr (bS))=_/\Zi (fun a=>Z9 ts (Zu ts) [44] ts.length a) (Zf (Ze ts b1 [58]))=_/\_
  rcases Ze ts b1 [58] with⟨_,b2⟩ | p
  ·show Zf ((Z9 ts (Zu ts) [44] ts.length b2).go _)=Zf (Zi _ (Zf (Z9 ts (Zu ts) [44] ts.length b2)))/\∀ D c,(Z9 ts (Zu ts) [44] ts.length b2).go _ = .inl (D,c)->∃ s' l b1' b3,(.inl (s,b1):Pr (bS))=_/\Z9 ts (Zu ts) [44] ts.length b2=_/\_
   rcases Z9 ts (Zu ts) [44] ts.length b2 with⟨l,b3⟩ | p
   ·show Zf ((Ze ts b3 [59]).go _)=Zf (Ze ts b3 [59])/\∀ D c,(Ze ts b3 [59]).go _ = .inl (D,c)->_
    rcases Ze ts b3 [59] with⟨_,b4⟩ | p
    ·refine⟨rfl,fun D c e=>⟨s,l,b1,b3,rfl,rfl,?_⟩⟩
     injection e with e;injection e with e _;exact e.symm
    ·exact⟨rfl,fun D c e=>by cases e⟩
   ·exact⟨rfl,fun D c e=>by cases e⟩
  ·exact⟨rfl,fun D c e=>by cases e⟩
 ·exact⟨rfl,fun D c e=>by cases e⟩
theorem wN {α:Type} (x:α) (b:Nat):Zf (.inl (x,b):Pr α) = .inl b:=rfl
theorem xO {α:Type} (F:Nat->Pr α) (b:Nat):Zi F (.inl b)=F b:=rfl
def Ca (ts:List Tok) (a:Nat):Nat:=if Zg ts a [101,120,112,111,114,116] then a+1 else a
theorem zad (ts:List Tok) (K:Nat->Pr Ty) (M:K=Wg ts ts.length 101 0) (E:Nat->Pr Ty) (N:E=Vo ts ts.length 101 false 0) (a:Nat):∃ (R1:Pr Unit) (R2:Pr (bS)) (F:Pr (List (bS×Ty))) (A:Pr (bS×List Ty)) (J:Pr Unit) (C:Pr Ty) (I:Pr Unit),
  R1=Zi (fun a=>Ze ts a [102,110]) (.inl (Ca ts a))/\R2=Zi (Zu ts) (Zf R1)/\F=Zi (Mp ts K ts.length) (Zf R2)/\A=Zi (B8 ts K) (Zf F)/\J=Zi (fun a=>Ze ts a [61]) (Zf A)/\C=Zi E (Zf J)/\I=Zi (fun a=>Ze ts a [59]) (Zf C) /\
  Zf (Ng ts a)=Zf I/\∀ D c,Ng ts a = .inl (D,c)->∃ s vs h x b2 b3 b4 z,R2 = .inl (s,b2)/\F = .inl (vs,b3)/\A = .inl (h,b4)/\C = .inl (x,z)/\D=Mm s (Zg ts a [101,120,112,111,114,116]) vs h.1 (if h.2.length=1 then h.2 ++ [Y7 0 [] [] []] else h.2) x (Yj ts (Ca ts a)) (Yi ts (Ca ts a)):=by
 refine⟨_,_,_,_,_,_,_,rfl,rfl,rfl,rfl,rfl,rfl,rfl,?_⟩
 obtain⟨O,j⟩:=xE (Zg ts a [101,120,112,111,114,116])
 have H:Ng ts a=(Ze ts (Ca ts a) [102,110]).go fun _ b=>(Zu ts b).go fun s b=>(Mp ts K ts.length b).go fun vs b=>(B8 ts K b).go fun h b=>(Ze ts b [61]).go fun _ b=>(E b).go fun x b=>(Ze ts b [59]).go fun _ b =>
  .inl (Mm s O vs h.1 (if h.2.length=1 then h.2 ++ [Y7 0 [] [] []] else h.2) x (Yj ts (Ca ts a)) (Yi ts (Ca ts a)),b):=by
  rw [M,N,j];rfl
 rw [H,<- j]
 clear H j
 generalize Ca ts a=a
 rw [show Zi (fun a=>Ze ts a [102,110]) (.inl a)=Ze ts a [102,110] from rfl]
 rcases Ze ts a [102,110] with⟨_,b1⟩ | p
 ·simp only [wN,xO]
  show Zf ((Zu ts b1).go _)=_/\∀ D c,(Zu ts b1).go _ = .inl (D,c)->_;rcases Zu ts b1 with⟨s,b2⟩ | p
  ·simp only [wN,xO]
   show Zf ((Mp ts K ts.length b2).go _)=_/\∀ D c,(Mp ts K ts.length b2).go _ = .inl (D,c)->_;rcases Mp ts K ts.length b2 with⟨vs,b3⟩ | p
   ·simp only [wN,xO]
    show Zf ((B8 ts K b3).go _)=_/\∀ D c,(B8 ts K b3).go _ = .inl (D,c)->_;rcases B8 ts K b3 with⟨h,b4⟩ | p
    ·simp only [wN,xO]
     show Zf ((Ze ts b4 [61]).go _)=_/\∀ D c,(Ze ts b4 [61]).go _ = .inl (D,c)->_;rcases Ze ts b4 [61] with⟨_,b5⟩ | p
     ·simp only [wN,xO]
      show Zf ((E b5).go _)=_/\∀ D c,(E b5).go _ = .inl (D,c)->_;rcases E b5 with⟨x,z⟩ | p
      ·simp only [wN,xO]
       show Zf ((Ze ts z [59]).go _)=_/\∀ D c,(Ze ts z [59]).go _ = .inl (D,c)->_;rcases Ze ts z [59] with⟨_,b7⟩ | p
       ·refine⟨rfl,fun D c e=>⟨s,vs,h,x,b2,b3,b4,z,rfl,rfl,rfl,rfl,?_⟩⟩
        injection e with e;injection e with e _;exact e.symm
       ·exact⟨rfl,fun D c e=>by cases e⟩
      ·exact⟨rfl,fun D c e=>by cases e⟩
     ·exact⟨rfl,fun D c e=>by cases e⟩
    ·exact⟨rfl,fun D c e=>by cases e⟩
   ·exact⟨rfl,fun D c e=>by cases e⟩
  ·exact⟨rfl,fun D c e=>by cases e⟩
 ·exact⟨rfl,fun D c e=>by cases e⟩
def IS (ts:List Tok) (R:Pr (List Ty×List Ty)) (S:Yd) (acc:List (Option Ty)) (gk:Nat):Prop :=
 (∃ b l m,S = .inl b/\acc=l.map some/\R=((L3 ts (m+1) b).go fun r c=>(Bc ts (ts.length+1) c).go fun d c => .inl ((l ++ r,d),c))/\ts.length<=b+m+1/\l.length<=b/\ts.length - b<=gk)∨∃ e,S = .inr e/\R = .inr e/\acc.length<=8194
def DS (ts:List Tok) (R:Pr (List Ty×List Ty)) (is:List (Option Ty)) (S:Yd) (acc:List (Option Ty)) (gk:Nat):Prop :=
 (∃ b i l m,S = .inl b/\is=i.map some/\acc=l.map some/\R=((Bc ts (m+1) b).go fun r c => .inl ((i,l ++ r),c))/\ts.length<=b+m/\l.length<=b/\ts.length - b<=gk)∨∃ e,S = .inr e/\R = .inr e/\acc.length<=8194
section
variable {ts : List Tok} {R : Pr (List Ty × List Ty)} {S : Yd} {is acc : List (Option Ty)} {gk : Nat}
theorem zcj (h:1<=ts.length):IS ts (Du ts) (.inl 0) [] ts.length:=by
 refine .inl ⟨0,[],ts.length - 1,rfl,rfl,?_,by omega,by simp,by omega⟩
 rw [show ts.length - 1+1=ts.length by omega]
 rfl
theorem IS.dead {e:Int×Nat×Nat} (h:IS ts R (.inr e) acc gk):R = .inr e:=by
 rcases h with⟨b,l,m,e,_⟩ | ⟨e,j,z,_⟩
 ·cases e
 ·injection j with j
  rw [j];exact z
theorem IS.len {b:Nat} (h:IS ts R (.inl b) acc gk):acc.length<=b:=by
 rcases h with⟨b,l,m,e,rfl,_,_,j,_⟩ | ⟨e,j,_⟩
 ·injection e with e
  rw [List.length_map,e];exact j
 ·cases j
theorem IS.next {b:Nat} (h:IS ts R (.inl b) acc gk) (hb:b<ts.length) (j:Zg ts b [105,109,112,111,114,116]=true) (A:∀ c,Zf (Bq ts b) = .inl c->c<ts.length) (hl:ts.length<=8193):∃ g',g'<gk/\IS ts R (Zf (Bq ts b)) (acc ++ [Vy (Bq ts b)]) g':=by
 rcases h with⟨b',l,m,e,rfl,hr,h3,h4,h5⟩ | ⟨e,h1,_⟩
 ·injection e with e
  subst e
  obtain⟨m,rfl⟩ | C:(∃ q,m=q+1)∨m=0:=by
   cases m with
   | zero=>exact .inr rfl
   | succ q=>exact .inl ⟨q,rfl⟩
  ·cases hi:Bq ts b with
   | inr p =>
    refine⟨0,by omega,.inr ⟨p,rfl,?_,by simp; omega⟩⟩;rw [hr,vZ j,hi];rfl
   | inl q =>
    obtain⟨D,c⟩:=q;have z:b+1<=c:=m9 D c hi;refine⟨ts.length - c,by omega,.inl ⟨c,l ++ [D],m,rfl,by simp [Vy],?_,by omega,by simp; omega,xR⟩⟩;rw [hr,vZ j,hi];show Pr.go (Pr.go (L3 ts (m+1) c) _) _=_
    cases L3 ts (m+1) c with
    | inr e=>rfl
    | inl p =>
     show Pr.go (Bc ts (ts.length+1) p.2) _=Pr.go (Bc ts (ts.length+1) p.2) _;simp
  ·subst C
   cases hi:Bq ts b with
   | inr p =>
    refine⟨0,by omega,.inr ⟨p,rfl,?_,by simp; omega⟩⟩;rw [hr,vZ j,hi];rfl
   | inl q =>
    obtain⟨D,c⟩:=q;have z:b+1<=c:=m9 D c hi;have:=A c (by rw [hi]; rfl);omega
 ·cases h1
theorem IS.end_ {b:Nat} (h:IS ts R (.inl b) acc gk) (j:Zg ts b [105,109,112,111,114,116]=false):DS ts R acc (.inl b) [] ts.length:=by
 rcases h with⟨b',l,m,e,rfl,hr,h3,h4,h5⟩ | ⟨e,h1,_⟩
 ·injection e with e
  subst e;refine .inl ⟨b,l,[],ts.length,rfl,rfl,rfl,?_,by omega,by simp,by omega⟩;rw [hr,L3,if_neg (by simp [j])];simp [Pr.go]
 ·cases h1
theorem DS.dead {e:Int×Nat×Nat} (h:DS ts R is (.inr e) acc gk):R = .inr e:=by
 rcases h with⟨b,i,l,m,e,_⟩ | ⟨e,j,z,_⟩
 ·cases e
 ·injection j with j
  rw [j];exact z
theorem DS.len {b:Nat} (h:DS ts R is (.inl b) acc gk):acc.length<=b:=by
 rcases h with⟨b,i,l,m,e,_,rfl,_,_,j,_⟩ | ⟨e,j,_⟩
 ·injection e with e
  rw [List.length_map,e];exact j
 ·cases j
theorem DS.next {b:Nat} (h:DS ts R is (.inl b) acc gk) (hb:b<ts.length) (j:((Zk ts b).kind == 0)=false) (hl:ts.length<=8193):∃ g',g'<gk/\DS ts R is (Zf (Ng ts b)) (acc ++ [Vy (Ng ts b)]) g':=by
 rcases h with⟨b',i,l,m,e,rfl,rfl,hr,h3,h4,h5⟩ | ⟨e,h1,_⟩
 ·injection e with e
  subst e
  obtain⟨m,rfl⟩:∃ q,m=q+1:=⟨m - 1,by omega⟩
  cases hi:Ng ts b with
  | inr p =>
   refine⟨0,by omega,.inr ⟨p,rfl,?_,by simp; omega⟩⟩;rw [hr,Bc,if_neg (by simp [j]),hi];rfl
  | inl q =>
   obtain⟨D,c⟩:=q;have hu:b+1<=c:=kM D c hi;refine⟨ts.length - c,by omega,.inl ⟨c,i,l ++ [D],m,rfl,rfl,by simp [Vy],?_,by omega,by simp; omega,xR⟩⟩;rw [hr,Bc,if_neg (by simp [j]),hi];show Pr.go (Pr.go (Bc ts (m+1) c) _) _=_
   cases Bc ts (m+1) c with
   | inr e=>rfl
   | inl p=>simp [Pr.go]
 ·cases h1
theorem DS.end_ {b:Nat} (h:DS ts R is (.inl b) acc gk) (j:((Zk ts b).kind == 0)=true):∃ i l,R = .inl ((i,l),b)/\is=i.map some/\acc=l.map some:=by
 rcases h with⟨b',i,l,m,e,rfl,rfl,hr,h3,h4,h5⟩ | ⟨e,h1,_⟩
 ·injection e with e
  subst e;refine⟨i,l,?_,rfl,rfl⟩;rw [hr,Bc,if_pos j];simp [Pr.go]
 ·cases h1
end
def yG (lo:Nat) (w:wD) (c:List vL) (x:Option Ty):Prop:=c.length=4/\∀ D,x=some D->Ky lo w c D
def wV (lo:Nat) (w:wD) (c:List vL) (x:Option Ty):Prop:=c.length=15/\∀ D,x=some D->Jn lo w c D
theorem impQ_k:B5 yG where
 keep:=fun h z A=>⟨h.1,fun y e=>Cj.keep (h.2 y e) z A⟩
 lower:=fun h j=>⟨h.1,fun y e=>Cj.lower (h.2 y e) j⟩
theorem decQ_k:B5 wV where
 keep:=fun h z A=>⟨h.1,fun y e=>Ax.keep (h.2 y e) z A⟩
 lower:=fun h j=>⟨h.1,fun y e=>Ax.lower (h.2 y e) j⟩
theorem bO {α:Type} {rep:Nat->wD->List vL->α->Prop} {z:Nat->wD->List vL->Option α->Prop} (J:∀ lo w c D,z lo w c (some D)->rep lo w c D) (T:B5 z) {B et k:Nat} {o:Option Nat} {w:wD} {v:vL} {cs:List (List vL)} {l:List α} (h:Yq z B et k o w v cs (l.map some)):∃ a cap,v = .slice a l.length cap/\Tf rep k B w a l:=by
 obtain⟨a,cap,e,hc,j⟩:=h.form T
 rw [List.length_map] at e
 refine⟨a,cap,e,?_⟩
 rcases j with j | ⟨g,N,F,H,A⟩
 ·exact .inl (by simpa using j)
 ·refine .inr ⟨g,N,F,H,fun i M=>?_⟩
  obtain⟨c,C,O,I⟩:=A i (by simpa using M);exact⟨c,C,O,J _ _ _ _ (by simpa using I)⟩
section
attribute [local go_sem ↓] Go.wp_at_zero Go.wp_at_succ
def NmsP (lo:Nat) (w':wD) (R:Pr (List (bS))) (e:Ending):Prop :=
 ∃ (av:oA) (cv:Nat) (cs:List (List vL)) (acc:List (bS)),e = .returned (.slice av acc.length cv)/\Yq Mb lo 9 1 none w' (.slice av acc.length cv) cs acc/\acc.length<=8195/\∀ l b,R = .inl (l,b)->acc=l
theorem zhe (pb tb cap d:Nat) (ts:List Tok) (ok:Ym ts) (f:Nat) (hf:ts.length<=f+1) (S:Yd) (w:wD) (h:Z2 w pb tb cap ts d S) :
  Calls prog 58 #[qP pb] w fun e w'=>Zl pb w w'/\Z2 w' pb tb cap ts d (Zf (Zi (fun a=>Z9 ts (Zu ts) [44] (f+1) a) S))/\NmsP w.heap.size w' (Zi (fun a=>Z9 ts (Zu ts) [44] (f+1) a) S) e:=by
 obtain⟨Rm,M5⟩:=xE (Zi (fun a=>Z9 ts (Zu ts) [44] (f+1) a) S)
 rw [<- M5]
 have P7:xQ (Ke ts (Zu ts) id [44] Rm S [] ts.length):=Ke.start f hf M5
 have M:=Za ok
 have I:=h.ltp
 have Pq:xQ (RX pb tb cap ts w w d S []):=⟨Zl.refl _ _,h,I,by simp⟩
 obtain⟨i0,hi,Xr,Xg,Xw⟩:=info_parts Ix
 clear h ok M5
 go_enter func58,ntmps58
 go_wp2_with fail
 go_loopg [3] (ts.length) (fun gk v wr=>∃ (S:Yd) (cs:List (List vL)) (acc:List (bS)),xQ (RX pb tb cap ts w wr d S [])/\xQ (Yq Mb w.heap.size 9 1 none wr v cs acc)/\xQ (Ke ts (Zu ts) id [44] Rm S acc gk))
 case atStart=>exact⟨S,[],[],Pq,Ha Mb w.heap.size 9 1 w,P7⟩
 case round =>
  clear Pq P7;obtain⟨S',cs,acc,X,RT,HI⟩:=hrel
  have Lw:acc.length<=8194:=HI.o.len fun b e=>by
   obtain⟨a,ha⟩:=X.o.at_;have:=ha.live b e;have:=ha.lt;have:=M.o.len;omega
  obtain⟨av,cv,rfl⟩:=Yt RT.o.ow;have T:=Za (Gm pb tb cap d ts S' _ X.o.at_ M.o);obtain⟨R2,Tg⟩:=xE (Zi (Zu ts) S');rw [<- Tg] at T;have J:=Za Tg;obtain⟨j,Bn⟩:=xE (Vd R2);rw [<- Bn] at T;have Na:=Za Bn;clear Tg Bn;go_wp2_with fail;refine T.o.mono ?_;rintro e w3 ⟨rfl,A,H⟩;have S7:=X.o.st.size;have V:=Za (X.o.step A H);have Fj:=A.size;have z:=Za (RT.o.stay A I)
  clear A H T X RT
  go_wp2_with(at_builtin; refine wpList_append_own_at _ rfl (.tmp 8) (.tmp 10) 25 rfl (w.heap.size) 9 i0 _ 1 16 underlying25 hi Xr Xg Xw rfl (by decide) _ _ _ rfl (z.o.ow.alloc _) (aP _ 0) 1 1 [uP j] rfl rfl (V2 _ _ _) (by simp [Value.oneCell']) (by unfold maxLen; omega) (by omega) (by simp; omega) ?_)
  intro v' w4 Zr Zo _ Z4
  have Xn:xQ (Yq Mb w.heap.size 9 1 none w4 v' (cs ++ [[uP j]]) (acc ++ [j])) :=
   z.o.put Zr Zo (Z4.imp_right fun e=>⟨_,e,by simp⟩) ((Zl.refl pb _).alloc V.o.at_.ltp _) I rfl ((Xt.new (rep:=Mb) (lo:=w3.heap.size) (x:=j) rfl (by omega) fun q C=>z.o.all q C).stay ((Zl.refl pb _).alloc V.o.at_.ltp _) I)
  have O:xQ (RX pb tb cap ts w w4 d (Zf R2) []):=by
   have N:=(V.o.alloc (.cells #[uP j] 9)).drop
   have Zt:∀ q,(Value.slice av acc.length cv).ownBlock=some q->w.heap.size<=q:=fun q C=>(z.o.own q C).1
   exact⟨N.st.grown Zo N.hp fun q C=>Zt q C,N.at_.grown Zo fun q C=>by have:=Zt q C; omega,N.hp,by simp⟩
  clear Zr Zo Z4 z V;go_wp2_with fail;refine(Vi pb tb cap d ts (Zf R2) [44] _ O.o.at_ M.o).mono ?_;rintro e w5 ⟨rfl,A,H⟩;have F:=Za (O.o.step A H);have R5:=Za (Xn.o.stay A I)
  have Df:∀ b,Zf R2 = .inl b->b<ts.length:=fun b e=>by
   obtain⟨a,ha⟩:=O.o.at_;have:=ha.live b e;have:=ha.lt;omega
  have Xa:=Za Df;clear A H O Xn Df
  cases hs:Y2 ts (Zf R2) [44] with
  | true =>
   rw [hs,if_pos rfl] at F
   obtain⟨g',Qp,hn⟩:=HI.o.more (put:=Vd) (fun _ _=>rfl) (by rw [<- J.o]; exact hs) (fun a x b h=>by rw [Eb h]; omega) (fun b e=>by
    rw [<- J.o] at e;rw [e] at hs
    exact Xx M.o.ends (Xa.o b e) hs)
   rw [<- J.o,<- Na.o] at hn;have HN:=Za hn;clear hs hn HI;go_wp2_with fail
   go_roundg g'
   case measure=>exact Qp
   case rel=>exact⟨_,_,_,F,R5,HN⟩
  | false =>
   rw [hs,if_neg (by simp)] at F;have Ly:=HI.o.end_ (put:=Vd) (fun _ _=>rfl) (by rw [<- J.o]; exact hs);rw [<- J.o,<- Na.o] at Ly;have P6:=Za Ly;clear hs Ly HI
   have hlv:(acc ++ [j]).length=acc.length+1:=by simp
   obtain⟨Y,cv5,Z⟩:=Yt R5.o.ow;subst Z;go_wp2_with fail;go_ret;refine⟨F.o.st,by rw [P6.o.1]; exact F.o.at_,Y,cv5,_,acc ++ [j],by rw [hlv]; rfl,R5.o,by omega,fun l b e=>?_⟩;have:=P6.o.2 l b e;rw [List.map_id] at this;exact this
end
end Go.Proofs.YtoppemkjhhlegaaGreatDoor
