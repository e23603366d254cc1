/- Part. -/
import Derived.Test.YtoppemkjhhlegaaGreatDoorPart5
set_option maxRecDepth 100000
set_option maxHeartbeats 4000000
namespace Go.Proofs.YtoppemkjhhlegaaGreatDoor
open Go.Proofs.Tryz
open Go.RowKit
section
attribute [local go_sem ↓] Go.wp_at_zero Go.wp_at_succ
theorem zkg (pb tb cap d:Nat) (ts:List Tok) (P:Nat->Pr Ty) (Z:Xs pb tb cap d ts Z6 143 P) (ok:Ym ts) (a:Nat) (N:Zg ts a [45]=false) (h2:Zg ts a [110,111,116]=false) (w:wD) (h:Ps w pb tb cap ts a d) :
  Calls prog 142 #[qP pb] w (Ya pb tb cap ts d w Z6 ((P a).go fun x b => .inl (x,b))):=by
 have H:=Za h
 have OK:=Za ok
 have hp:=h.ltp
 have I:=Za Z
 have Y5:=Za N
 have Vn:=Za h2
 have O:=Za (U2 h Zj.obj)
 obtain⟨R,J⟩:∃ R:Pr Ty,R=((P a).go fun x b => .inl (x,b)):=⟨_,rfl⟩
 rw [<- J]
 have T:=Za J
 clear h ok J Z N h2
 go_enter func142,ntmps142
 go_wp2_with fail
 refine(V5 pb tb cap a _ 1 ts [[45]] _ _ O.o.ps.rd (by simp) (by simp)).mono ?_
 rw [T0,Y5.o]
 rintro e w1 ⟨rfl,A⟩
 have V:=Za (O.o.below A)
 clear A
 go_wp2_with fail
 refine(V5 pb tb cap a _ 1 ts [[110,111,116]] _ _ V.o.ps.rd (by simp) (by simp)).mono ?_
 rw [T0,Vn.o]
 rintro e w2 ⟨rfl,A⟩
 have F:=Za (V.o.below A)
 clear A
 go_wp2_with fail
 refine(I.o.calls a _ F.o.ps).mono ?_
 intro e w3 M
 rcases Yr M with⟨er,li,co,j,rfl,C⟩ | ⟨D,b,v,j,rfl,C,Y,hv⟩
 ·have HE:xQ (R = .inr (er,li,co)):=by rw [T.o,j]; exact rfl
  have HF:=Za (F.o.st.trans C);clear j C M;go_wp2_with fail;exact⟨rfl,HF.o,by rw [HE.o]⟩
 have Yl:xQ (R = .inl (D,b)):=by rw [T.o,j]; exact rfl
 obtain⟨x,rfl,hv⟩:=hv
 have z:=Za ((F.o.step C Y).addN hv F.o.sz)
 clear j C Y M hv
 obtain⟨⟨r0,r1,r2,r3,r4,r5,r6,r7⟩,⟨f0,f1,f2,f3,f4,f5,f6,f7⟩,Yw⟩:=Zn (x:=Zj) (z.o.b0)
 go_wp2_with fail
 rw [Yl.o]
 refine r64 rfl rfl (Wv (x:=x) z.o.b0) rfl ⟨Wy z.o.st hp (xR) (x),Ve z.o.ps hp (x),_,rfl,x,rfl,?_⟩
 exact((z.o.n0).put8 (xU _) (x)).lower (Nat.le_succ _)
theorem zkb (pb tb cap d:Nat) (ts:List Tok) (U P:Nat->Pr Ty) (C:Xs pb tb cap d ts Z6 141 U) (F:Xs pb tb cap d ts Z6 143 P) (A:Ym ts) (a:Nat) (w:wD) (h:Ps w pb tb cap ts a d) :
  Calls prog 142 #[qP pb] w (Ya pb tb cap ts d w Z6 (if Zg ts a [45] then(U (a+1)).go fun x b => .inl (Zp 16 [] 0 (Yj ts a) (Yi ts a) [] [] [x],b)
   else if Zg ts a [110,111,116] then(U (a+1)).go fun x b => .inl (Zp 15 [] 0 (Yj ts a) (Yi ts a) [] [] [x],b)else P a)):=by
 by_cases j:Zg ts a [45]=true
 ·rw [if_pos j]
  exact zke pb tb cap d ts U C A a j w h
 ·rw [if_neg j]
  by_cases z:Zg ts a [110,111,116]=true
  ·rw [if_pos z]
   exact zkf pb tb cap d ts U C A a z w h
  ·rw [if_neg z]
   have:=zkg pb tb cap d ts P F A a (by simpa using j) (by simpa using z) w h
   cases hp:P a with
   | inl p=>rw [hp] at this; exact this
   | inr p=>rw [hp] at this; exact this
theorem dP {lo kb:Nat} {w:wD} {x y u:NV} {D1 D2 j:Ty} (A:Y0 lo w x D1) (F:Y0 lo w y D2) (C:Y0 lo w u j) (h:w.heap[kb]?=some (.cells #[iP x.k,.string x.tx,iP x.N,iP x.li,iP x.co,.slice x.ta x.tl x.tc,.slice x.na x.nl x.nc,.slice x.ka x.kl x.kc,iP y.k,.string y.tx,iP y.N,iP y.li,iP y.co,.slice y.ta y.tl y.tc,.slice y.na y.nl y.nc,.slice y.ka y.kl y.kc,iP u.k,.string u.tx,iP u.N,iP u.li,iP u.co,.slice u.ta u.tl u.tc,.slice u.na u.nl u.nc,.slice u.ka u.kl u.kc] 64)) (M:lo<=kb)
  (z:NV) (H:z.ka=some (aP kb 0)/\z.kl=3) (O:z.tl=0) (I:z.nl=0) :
  Y0 lo w z (Zp z.k z.tx.data.toList z.N z.li z.co [] [] [D1,D2,j]):=by
 obtain⟨Y,A⟩:=A
 obtain⟨J,F⟩:=F
 obtain⟨T,C⟩:=C
 refine⟨max (max Y J) T+1,[],[],[D1,D2,j],rfl,⟨O,I,H.2⟩,⟨xZ _,xZ _,(by show 3<=_; omega)⟩,.inl rfl,.inl rfl,.inr ⟨kb,0,H.1,M,⟨_,_,h⟩,fun i V=>?_⟩⟩
 match i,V with
 | 0,_=>exact⟨x,⟨by rw [cell_of_row _ _ _ _ _ _ h]; rfl,by rw [cell_of_row _ _ _ _ _ _ h]; rfl,by rw [cell_of_row _ _ _ _ _ _ h]; rfl,by rw [cell_of_row _ _ _ _ _ _ h]; rfl,by rw [cell_of_row _ _ _ _ _ _ h]; rfl,by rw [cell_of_row _ _ _ _ _ _ h]; rfl,by rw [cell_of_row _ _ _ _ _ _ h]; rfl,by rw [cell_of_row _ _ _ _ _ _ h]; rfl⟩,Ee A (Nat.le_trans (Nat.le_max_left _ _) (Nat.le_max_left _ _))⟩
 | 1,_=>exact⟨y,⟨by rw [cell_of_row _ _ _ _ _ _ h]; rfl,by rw [cell_of_row _ _ _ _ _ _ h]; rfl,by rw [cell_of_row _ _ _ _ _ _ h]; rfl,by rw [cell_of_row _ _ _ _ _ _ h]; rfl,by rw [cell_of_row _ _ _ _ _ _ h]; rfl,by rw [cell_of_row _ _ _ _ _ _ h]; rfl,by rw [cell_of_row _ _ _ _ _ _ h]; rfl,by rw [cell_of_row _ _ _ _ _ _ h]; rfl⟩,Ee F (Nat.le_trans (Nat.le_max_right _ _) (Nat.le_max_left _ _))⟩
 | 2,_=>exact⟨u,⟨by rw [cell_of_row _ _ _ _ _ _ h]; rfl,by rw [cell_of_row _ _ _ _ _ _ h]; rfl,by rw [cell_of_row _ _ _ _ _ _ h]; rfl,by rw [cell_of_row _ _ _ _ _ _ h]; rfl,by rw [cell_of_row _ _ _ _ _ _ h]; rfl,by rw [cell_of_row _ _ _ _ _ _ h]; rfl,by rw [cell_of_row _ _ _ _ _ _ h]; rfl,by rw [cell_of_row _ _ _ _ _ _ h]; rfl⟩,Ee C (Nat.le_max_right _ _)⟩
abbrev xD (t:Tok) (kb:Nat):NV:=⟨11,⟨#[]⟩,0,t.line,t.col,none,0,0,none,0,0,some (aP kb 0),3,3⟩
theorem oU (pb tb cap d:Nat) (ts:List Tok) (E:Nat->Pr Ty) (hE:Xs pb tb cap d ts Z6 92 E) (ok:Ym ts) (a:Nat) (w:wD) (h:Ps w pb tb cap ts a d) :
  Calls prog 117 #[qP pb] w (Ya pb tb cap ts d w Z6 ((Ze ts a [105,102]).go fun _ b=>(E b).go fun c b=>(Ze ts b [116,104,101,110]).go fun _ b=>(E b).go fun x b=>(Ze ts b [101,108,115,101]).go fun _ b=>(E b).go fun y b => .inl (Zp 11 [] 0 (Zk ts a).line (Zk ts a).col [] [] [c,x,y],b))):=by
 have H:=Za h
 have OK:=Za ok
 have hp:=h.ltp
 have Pm:=Za hE
 have HM0:=Za (fun w h=>Uy pb tb cap a d ts [105,102] w h ok)
 obtain⟨t,ht⟩:=xE (Zk ts a)
 rw [<- ht] at HM0 ⊢
 clear ht
 have C0:=Za (U2 h Zj.obj)
 obtain⟨R,hR⟩:∃ R:Pr Ty,R=((Ze ts a [105,102]).go fun _ b=>(E b).go fun c b=>(Ze ts b [116,104,101,110]).go fun _ b=>(E b).go fun x b=>(Ze ts b [101,108,115,101]).go fun _ b=>(E b).go fun y b => .inl (Zp 11 [] 0 t.line t.col [] [] [c,x,y],b)):=⟨_,rfl⟩
 rw [<- hR]
 have Yc:=Za hR
 clear h ok hR hE
 go_enter func117,ntmps117
 go_wp2_with fail
 refine(HM0.o _ C0.o.ps).mono ?_
 intro e w1 A
 rcases Yr A with⟨er,li,co,j,rfl,z⟩ | ⟨u,b1,v,j,rfl,z,F,hv⟩
 ·have T:xQ (R = .inr (er,li,co)):=by rw [Yc.o,j]; exact rfl
  have V:=Za (C0.o.st.trans z);clear j z A;go_wp2_with fail;exact⟨rfl,V.o,by rw [T.o]⟩
 have Yl:xQ (R=(E b1).go fun c b=>(Ze ts b [116,104,101,110]).go fun _ b=>(E b).go fun x b=>(Ze ts b [101,108,115,101]).go fun _ b=>(E b).go fun y b => .inl (Zp 11 [] 0 t.line t.col [] [] [c,x,y],b)):=by rw [Yc.o,j]; exact rfl
 subst hv
 have C1:=Za ((C0.o.step z F))
 have C2:=Za (C1.o.alloc (Z3 t))
 clear j z F A  
 go_wp2_with fail
 refine(Pm.o.calls b1 _ C2.o.ps).mono ?_
 intro e w2 A
 rcases Yr A with⟨er,li,co,j,rfl,z⟩ | ⟨D1,b2,v,j,rfl,z,F,hv⟩
 ·have T:xQ (R = .inr (er,li,co)):=by rw [Yl.o,j]; exact rfl
  have V:=Za (C2.o.st.trans z);clear j z A;go_wp2_with fail;exact⟨rfl,V.o,by rw [T.o]⟩
 have Zy:xQ (R=(Ze ts b2 [116,104,101,110]).go fun _ b=>(E b).go fun x b=>(Ze ts b [101,108,115,101]).go fun _ b=>(E b).go fun y b => .inl (Zp 11 [] 0 t.line t.col [] [] [D1,x,y],b)):=by rw [Yl.o,j]; exact rfl
 obtain⟨I,rfl,hv⟩:=hv
 have C3:=Za ((C2.o.step z F).addN hv C2.o.sz)
 have C4:=Za (C3.o.alloc (I.obj))
 clear j z F A hv
 go_wp2_with fail
 refine(Uy pb tb cap b2 d ts [116,104,101,110] _ C4.o.ps OK.o).mono ?_
 intro e w3 A
 rcases Yr A with⟨er,li,co,j,rfl,z⟩ | ⟨u3,b3,Y,j,rfl,z,F,hv⟩
 ·have T:xQ (R = .inr (er,li,co)):=by rw [Zy.o,j]; exact rfl
  have V:=Za (C4.o.st.trans z);clear j z A;go_wp2_with fail;exact⟨rfl,V.o,by rw [T.o]⟩
 have Yz:xQ (R=(E b3).go fun x b=>(Ze ts b [101,108,115,101]).go fun _ b=>(E b).go fun y b => .inl (Zp 11 [] 0 t.line t.col [] [] [D1,x,y],b)):=by rw [Zy.o,j]; exact rfl
 have C5:=Za ((C4.o.step z F))
 clear j z F A hv
 go_wp2_with fail
 refine(Pm.o.calls b3 _ C5.o.ps).mono ?_
 intro e w4 A
 rcases Yr A with⟨er,li,co,j,rfl,z⟩ | ⟨D2,b4,v,j,rfl,z,F,hv⟩
 ·have T:xQ (R = .inr (er,li,co)):=by rw [Yz.o,j]; exact rfl
  have V:=Za (C5.o.st.trans z);clear j z A;go_wp2_with fail;exact⟨rfl,V.o,by rw [T.o]⟩
 have Xn:xQ (R=(Ze ts b4 [101,108,115,101]).go fun _ b=>(E b).go fun y b => .inl (Zp 11 [] 0 t.line t.col [] [] [D1,D2,y],b)):=by rw [Yz.o,j]; exact rfl
 obtain⟨J,rfl,hv⟩:=hv
 have C6:=Za ((C5.o.step z F).addN hv C5.o.sz)
 have C7:=Za (C6.o.alloc (J.obj))
 clear j z F A hv
 go_wp2_with fail
 refine(Uy pb tb cap b4 d ts [101,108,115,101] _ C7.o.ps OK.o).mono ?_
 intro e w5 A
 rcases Yr A with⟨er,li,co,j,rfl,z⟩ | ⟨u5,b5,Z,j,rfl,z,F,hv⟩
 ·have T:xQ (R = .inr (er,li,co)):=by rw [Xn.o,j]; exact rfl
  have V:=Za (C7.o.st.trans z);clear j z A;go_wp2_with fail;exact⟨rfl,V.o,by rw [T.o]⟩
 have Wn:xQ (R=(E b5).go fun y b => .inl (Zp 11 [] 0 t.line t.col [] [] [D1,D2,y],b)):=by rw [Xn.o,j]; exact rfl
 have O:=Za ((C7.o.step z F))
 clear j z F A hv
 obtain⟨⟨k0,k1,k2,k3⟩,_,N4⟩:=Yh O.o.b2
 obtain⟨⟨n0,n1,n2,n3,n4,n5,n6,n7⟩,_,N5⟩:=Zn (x:=I) O.o.b1
 obtain⟨⟨m0,m1,m2,m3,m4,m5,m6,m7⟩,_,Kk⟩:=Zn (x:=J) O.o.b0
 go_wp2_with fail
 have Lz:w1.heap.size≠w.heap.size:=by have:=C1.o.sz; omega
 have Ub:w2.heap.size≠w.heap.size:=by have:=C3.o.sz; omega
 have Up:w4.heap.size≠w.heap.size:=by have:=C6.o.sz; omega
 have Uq:(kT ((w5).drew) w1.heap.size t)/\(kN ((w5).drew) w2.heap.size I)/\(kN ((w5).drew) w4.heap.size J):=⟨(Y8 (O.o.drew.b2)),(Zn (x:=I) (O.o.drew.b1)).1,(Zn (x:=J) (O.o.drew.b0)).1⟩
 have HC:xQ (Calls prog 92 #[qP pb] (w5).drew fun e C=>(∃ chain,e = .panicked chain/\Ya pb tb cap ts d w Z6 R e C)∨∃ (y:NV) (D3:Ty) (b6:Nat),e = .returned (y.val)/\((kT C w1.heap.size t)/\(kN C w2.heap.size I)/\(kN C w4.heap.size J))/\xQ (R = .inl (Zp 11 [] 0 t.line t.col [] [] [D1,D2,D3],b6)/\Y4 pb tb cap d ts w C b6 [(w4.heap.size,J.obj),(w2.heap.size,I.obj),(w1.heap.size,Z3 t),(w.heap.size,Zj.obj)] [(y,D3),(J,D2),(I,D1)] [])):=by
  refine(Pm.o.calls b5 _ O.o.drew.ps).mono ?_;intro e C A;rcases Yr A with⟨er,li,co,j,rfl,z⟩ | ⟨D3,b6,v,j,rfl,z,F,hv⟩
  ·exact .inl ⟨_,rfl,O.o.drew.st.trans z,by rw [Wn.o,j]; rfl⟩
  obtain⟨y,rfl,hv⟩:=hv;have CN:=(O.o.drew.step z F).addN hv O.o.drew.sz;exact .inr ⟨y,D3,b6,rfl,⟨(Y8 (CN.b2)),(Zn (x:=I) (CN.b1)).1,(Zn (x:=J) (CN.b0)).1⟩,by rw [Wn.o,j]; rfl,CN⟩
 go_wp2_with fail
 go_region_held (fun W=>(kT W w1.heap.size t)/\(kN W w2.heap.size I)/\(kN W w4.heap.size J)) (first | with_reducible assumption | with_reducible exact Vs.o _ | with_reducible exact Wm.o _ _ _ _ _ _ _ _) (first
  | (go_at_call 92; refine HC.o.mono ?_; rintro e C (⟨ch,rfl,hf⟩ | ⟨y,D3,b6,rfl,t5,HX⟩); exact⟨rfl,hf⟩; have Vs:xQ (∀ o,(kT ((C.alloc o)) w1.heap.size t)/\(kN ((C.alloc o)) w2.heap.size I)/\(kN ((C.alloc o)) w4.heap.size J)):=(fun o=>⟨(Y8 ((HX.o.2.alloc o).b3)),(Zn (x:=I) ((HX.o.2.alloc o).b2)).1,(Zn (x:=J) ((HX.o.2.alloc o).b1)).1⟩))
  | (go_at_call 123; refine(L7 t ⟨11,⟨#[]⟩,0,0,0,none,0,0,none,0,0,some (aP C.heap.size 0),3,3⟩ _).mono ?_; rintro e N ⟨rfl,hb⟩; have M:=Za ((HX.o.2.alloc _).below hb); have t6:(kT N w1.heap.size t)/\(kN N w2.heap.size I)/\(kN N w4.heap.size J):=⟨(Y8 (M.o.b3)),(Zn (x:=I) (M.o.b2)).1,(Zn (x:=J) (M.o.b1)).1⟩; have Pl:=Za (Zn (x:=Zj) (M.o.b4)); obtain⟨⟨r0,r1,r2,r3,r4,r5,r6,r7⟩,⟨f0,f1,f2,f3,f4,f5,f6,f7⟩,Yw⟩:=Pl.o; have Wm:xQ (∀ v0 v1 v2 Y v4 Z v6 v7,(kT ((L9 N w.heap.size v0 v1 v2 Y v4 Z v6 v7)) w1.heap.size t)/\(kN ((L9 N w.heap.size v0 v1 v2 Y v4 Z v6 v7)) w2.heap.size I)/\(kN ((L9 N w.heap.size v0 v1 v2 Y v4 Z v6 v7)) w4.heap.size J)):=(fun v0 v1 v2 Y v4 Z v6 v7=>⟨(Y8 ((Jm Lz v0 v1 v2 Y v4 Z v6 v7).trans (M.o.b3))),(Zn (x:=I) ((Jm Ub v0 v1 v2 Y v4 Z v6 v7).trans (M.o.b2))).1,(Zn (x:=J) ((Jm Up v0 v1 v2 Y v4 Z v6 v7).trans (M.o.b1))).1⟩); clear hb))
 all_goals
  go_wp2_with fail;rw [HX.o.1];refine r64 rfl rfl (Wv (x:=xD t C.heap.size) M.o.b4) rfl ⟨Wy M.o.st hp (xR) (xD t C.heap.size),Ve M.o.ps hp (xD t C.heap.size),_,rfl,xD t C.heap.size,rfl,?_⟩;exact((dP M.o.n2 M.o.n1 M.o.n0 M.o.b0 (by have:=HX.o.2.sz; omega) (xD t C.heap.size) ⟨rfl,rfl⟩ rfl rfl).put8 (xU _) (xD t C.heap.size)).lower (Nat.le_succ _)
theorem Y4.regrow {pb tb cap d b:Nat} {ts:List Tok} {w0 w w4:wD} {bx bx':List (Nat×Obj)} {ns:List (NV×Ty)} {tys:List (vL×Ty)} {g:Option Nat} (h:Y4 pb tb cap d ts w0 w b bx ns tys) (j:w.grownBy w4 g) (A:∀ q,g=some q->w0.heap.size<=q)
  (z:∀ p ∈ bx',p ∈ bx/\g≠some p.1):Y4 pb tb cap d ts w0 w4 b bx' [] [] where
 st:=h.st.grown j h.hp A
 ps:=h.ps.grown j fun q C=>by have:=A q C; have:=h.hp; omega
 hp:=h.hp
 sz:=Nat.le_trans h.sz j.size
 has:=fun p hp=>⟨(j.block _ (xB (h.has p (z p hp).1).1) (fun e=>(z p hp).2 e.symm)).trans (h.has p (z p hp).1).1,(h.has p (z p hp).1).2⟩
 nds:=(fun _ h=>nomatch h)
 tys:=(fun _ h=>nomatch h)
theorem oS (W:wD) (n:Nat) (c:List vL) (t:TypeId) (h:n=W.heap.size):∀ j u,c[j]?=some u->(W.alloc (.cells c.toArray t)).cell? ((aP n 0).add j)=some u:=by
 subst h
 exact V2 W c t
abbrev tE (av:oA) (n cv:Nat):vL := .agg #[iP 7,sP,nP,.slice av n cv]
theorem eI {lo:Nat} {o:Option Nat} {w:wD} {v:vL} {cs:List (List vL)} {xs:List Ty} (h:Yq Kf lo 94 4 o w v cs xs) (hl:xs.length<=8193):∃ j z,v = .slice j xs.length z/\Yk lo w (tE j xs.length z) (Y7 7 [] [] xs):=by
 obtain⟨j,z,m,e,A,C⟩:=Ek h
 exact⟨j,z,e,m+1,7,⟨#[]⟩,none,0,j,z,[],xs,rfl,rfl,by decide,by decide,(fun _ h=>nomatch h),⟨xR,xZ _⟩,⟨A,by unfold reachBytes; omega⟩,.inl rfl,C⟩
theorem eG {lo n C:Nat} {w:wD} {j:oA} {xs:List Ty} (h:Yk lo w (tE j n C) (Y7 7 [] [] xs)):∃ m,Qk w lo m j xs:=by
 obtain⟨m,h⟩:=h
 cases m with
 | zero=>exact h.elim
 | succ m =>
  obtain⟨k,nm,na,nc,ka,kc,ns,ks,e,A,_,_,_,_,_,_,F⟩:=h;obtain⟨_,_,_,rfl⟩:=f9 A;simp only [tE,Value.agg.injEq] at e;have z:=congrArg (fun a:Array vL=>a.getD 3 undef) e;simp at z;obtain⟨rfl,_,_⟩:=z;exact⟨m,F⟩
abbrev Sp (t:Tok) (s:bS) (ta:oA) (tl tc kb:Nat):NV:=⟨6,⟨s.toArray⟩,0,t.line,t.col,ta,tl,tc,none,0,0,some (aP kb 0),1,1⟩
theorem zbc (pb tb cap d:Nat) (ts:List Tok) (K E:Nat->Pr Ty) (hK:Xs pb tb cap d ts Yk 106 K) (hE:Xs pb tb cap d ts Z6 92 E) (ok:Ym ts) (a:Nat) (w:wD) (h:Ps w pb tb cap ts a d) :
  Calls prog 118 #[qP pb] w (Ya pb tb cap ts d w Z6 ((Ze ts a [102,110]).go fun _ b=>(Ji ts K b).go fun h b=>(V1 ts K [58] b).go fun y b=>(Ze ts b [61,62]).go fun _ b=>(E b).go fun x b => .inl (Zp 6 h.1 0 (Zk ts a).line (Zk ts a).col (h.2 :: if y.2 then [y.1] else []) [] [x],b))):=by
 have H:=Za h
 have OK:=Za ok
 have hp:=h.ltp
 have Pm:=Za hE
 have Pn:=Za hK
 have HM0:=Za (fun w h=>Uy pb tb cap a d ts [102,110] w h ok)
 obtain⟨t,ht⟩:=xE (Zk ts a)
 rw [<- ht] at HM0 ⊢
 clear ht
 have C0:=Za (U2 h Zj.obj)
 obtain⟨R,hR⟩:∃ R:Pr Ty,R=((Ze ts a [102,110]).go fun _ b=>(Ji ts K b).go fun h b=>(V1 ts K [58] b).go fun y b=>(Ze ts b [61,62]).go fun _ b=>(E b).go fun x b => .inl (Zp 6 h.1 0 t.line t.col (h.2 :: if y.2 then [y.1] else []) [] [x],b)):=⟨_,rfl⟩
 rw [<- hR]
 have Yc:=Za hR
 clear h ok hR hE hK
 obtain⟨i0,hi,Xr,Xg,Xw⟩:=info_parts Iy
 go_enter func118,ntmps118
 go_wp2_with fail
 refine(HM0.o _ C0.o.ps).mono ?_
 intro e w1 C
 rcases Yr C with⟨er,li,co,z,rfl,j⟩ | ⟨u,b1,v,z,rfl,j,Y,hv⟩
 ·have HE:xQ (R = .inr (er,li,co)):=by rw [Yc.o,z]; exact rfl
  have HF:=Za (C0.o.st.trans j);clear z j C;go_wp2_with fail;exact⟨rfl,HF.o,by rw [HE.o]⟩
 have Yl:xQ (R=(Ji ts K b1).go fun h b=>(V1 ts K [58] b).go fun y b=>(Ze ts b [61,62]).go fun _ b=>(E b).go fun x b => .inl (Zp 6 h.1 0 t.line t.col (h.2 :: if y.2 then [y.1] else []) [] [x],b)):=by rw [Yc.o,z]; exact rfl
 subst hv
 have C1:=Za ((C0.o.step j Y))
 have C2:=Za (C1.o.alloc (Z3 t))
 clear z j Y C  
 go_wp2_with fail
 refine(bD pb tb cap d ts K Pn.o OK.o b1 _ C2.o.ps).mono ?_
 intro e w2 C
 rcases Yr C with⟨er,li,co,z,rfl,j⟩ | ⟨hh,b2,v,z,rfl,j,Y,hv⟩
 ·have HE:xQ (R = .inr (er,li,co)):=by rw [Yl.o,z]; exact rfl
  have HF:=Za (C2.o.st.trans j);clear z j C;go_wp2_with fail;exact⟨rfl,HF.o,by rw [HE.o]⟩
 have Zy:xQ (R=(V1 ts K [58] b2).go fun y b=>(Ze ts b [61,62]).go fun _ b=>(E b).go fun x b => .inl (Zp 6 hh.1 0 t.line t.col (hh.2 :: if y.2 then [y.1] else []) [] [x],b)):=by rw [Yl.o,z]; exact rfl
 obtain⟨s,D⟩:=hh
 obtain⟨u2,rfl,hv⟩:=hv
 obtain⟨k1,F,M,J,O,T,N,I,rfl⟩:=hv.cells
 have C3:=Za ((C2.o.step j Y).addT hv C2.o.sz)
 have C4:=Za (C3.o.alloc (Z7 k1 F M J O T N I))
 clear z j Y C hv
 have Hn:xQ (Yq Kf (w.heap.size+1) 94 4 none ((w2.alloc (Z7 k1 F M J O T N I)).alloc (.cells #[iP k1,.string F,.slice M J O,.slice T N I] 94)) (lP (w2.heap.size+1) 1 1) [[iP k1,.string F,.slice M J O,.slice T N I]] [D]):=by
  have:=zT (B:=w.heap.size+1) (et:=94) (k:=4) (rep:=Kf) (c:=[iP k1,.string F,.slice M J O,.slice T N I]) (x:=D) C4.o.t0 (xR) C4.o.sz rfl;rw [xS] at this;exact this
 have C5:=Za (C4.o.alloc (.cells #[iP k1,.string F,.slice M J O,.slice T N I] 94))
 go_wp2_with fail
 refine(yM pb tb cap d ts [58] K Pn.o OK.o b2 _ C5.o.ps).mono ?_
 intro e w3 C
 rcases Yr C with⟨er,li,co,z,rfl,j⟩ | ⟨y,b3,v,z,rfl,j,Y,hv⟩
 ·have HE:xQ (R = .inr (er,li,co)):=by rw [Zy.o,z]; exact rfl
  have HF:=Za (C5.o.st.trans j);clear z j C;go_wp2_with fail;exact⟨rfl,HF.o,by rw [HE.o]⟩
 have Yz:xQ (R=(Ze ts b3 [61,62]).go fun _ b=>(E b).go fun x b => .inl (Zp 6 s 0 t.line t.col (D :: if y.2 then [y.1] else []) [] [x],b)):=by rw [Zy.o,z]; exact rfl
 obtain⟨D2,okb⟩:=y
 obtain⟨u4,rfl,hv⟩:=hv
 obtain⟨k4,nm4,na4,nl4,nc4,ka4,Z,kc4,rfl⟩:=hv.cells
 have HRw3:=Za (Hn.o.stay j (by omega))
 have Kw:=Za hv
 have C6:=Za ((C5.o.step j Y).addT hv C5.o.sz)
 have C7:=Za (C6.o.alloc (Z7 k4 nm4 na4 nl4 nc4 ka4 Z kc4))
 clear z j Y C hv
 cases okb with
 | false =>
  have Xn:xQ (R=(Ze ts b3 [61,62]).go fun _ b=>(E b).go fun x b => .inl (Zp 6 s 0 t.line t.col ([D]) [] [x],b)):=Yz.o;have HRw4:=Za ((HRw3.o.stay ((Zl.refl pb w3).alloc (by have:=C6.o.ps.ltp; exact this) (Z7 k4 nm4 na4 nl4 nc4 ka4 Z kc4)) (by omega)));obtain⟨av,cv,hve,hu⟩:=eI HRw4.o (by simp);injection hve with hve1 hve2 hve3;subst hve1 hve3;have C8:=Za (C7.o.addT hu (xR));clear hu hve2
  go_wp2_with fail;refine(Uy pb tb cap b3 d ts [61,62] _ C8.o.ps OK.o).mono ?_;intro e w4 C;rcases Yr C with⟨er,li,co,z,rfl,j⟩ | ⟨u5,b4,v5,z,rfl,j,Y,hv⟩
  ·have HE:xQ (R = .inr (er,li,co)):=by rw [Xn.o,z]; exact rfl
   have HF:=Za (C8.o.st.trans j);clear z j C;go_wp2_with fail;exact⟨rfl,HF.o,by rw [HE.o]⟩
  have Wn:xQ (R=(E b4).go fun x b => .inl (Zp 6 s 0 t.line t.col [D] [] [x],b)):=by rw [Xn.o,z]; exact rfl
  have C9:=Za ((C8.o.step j Y));clear z j Y C hv;obtain⟨⟨k0,k1',k2,k3⟩,_,N4⟩:=Yh C9.o.b3;go_wp2_with fail
  have Lz:w1.heap.size≠w.heap.size:=by have:=C1.o.sz; omega
  have Uq:(kT ((w4).drew) w1.heap.size t):=(Y8 (C9.o.drew.b3))
  have HC:xQ (Calls prog 92 #[qP pb] (w4).drew fun e A=>(∃ chain,e = .panicked chain/\Ya pb tb cap ts d w Z6 R e A)∨∃ (y:NV) (D3:Ty) (b6:Nat),e = .returned (y.val)/\((kT A w1.heap.size t))/\xQ (R = .inl (Zp 6 s 0 t.line t.col [D] [] [D3],b6)/\Y4 pb tb cap d ts w A b6 [(w3.heap.size,Z7 k4 nm4 na4 nl4 nc4 ka4 Z kc4),((w2.alloc (Z7 k1 F M J O T N I)).heap.size,.cells #[iP k1,.string F,.slice M J O,.slice T N I] 94),(w2.heap.size,Z7 k1 F M J O T N I),(w1.heap.size,Z3 t),(w.heap.size,Zj.obj)] [(y,D3)] [(tE (some (aP (w2.heap.size+1) 0)) 1 1,Y7 7 [] [] [D]),(.agg #[iP k4,.string nm4,.slice na4 nl4 nc4,.slice ka4 Z kc4],D2),(.agg #[iP k1,.string F,.slice M J O,.slice T N I],D)])):=by
   refine(Pm.o.calls b4 _ C9.o.drew.ps).mono ?_;intro e A C;rcases Yr C with⟨er,li,co,z,rfl,j⟩ | ⟨D3,b6,v,z,rfl,j,Y,hv⟩
   ·exact .inl ⟨_,rfl,C9.o.drew.st.trans j,by rw [Wn.o,z]; rfl⟩
   obtain⟨y,rfl,hv⟩:=hv;have CN:=(C9.o.drew.step j Y).addN hv C9.o.drew.sz;exact .inr ⟨y,D3,b6,rfl,(Y8 (CN.b3)),by rw [Wn.o,z]; rfl,CN⟩
  go_wp2_with fail
  go_region_held (fun W=>(kT W w1.heap.size t)) (first | with_reducible assumption | with_reducible exact Vs.o _ | with_reducible exact Wm.o _ _ _ _ _ _ _ _) (first
   | (go_at_call 92; refine HC.o.mono ?_; rintro e A (⟨ch,rfl,hf⟩ | ⟨y,D3,b6,rfl,t5,HX⟩); exact⟨rfl,hf⟩; have Vs:xQ (∀ o,(kT ((A.alloc o)) w1.heap.size t)):=(fun o=>(Y8 ((HX.o.2.alloc o).b4))))
   | (go_at_call 123; refine(L7 t ⟨6,⟨s.toArray⟩,0,0,0,some (aP (w2.heap.size+1) 0),1,1,none,0,0,some (aP A.heap.size 0),1,1⟩ _).mono ?_; rintro e w10 ⟨rfl,hb⟩; have V:=Za ((HX.o.2.alloc _).below hb); have t6:(kT w10 w1.heap.size t):=(Y8 (V.o.b4)); have Pl:=Za (Zn (x:=Zj) (V.o.b5)); obtain⟨⟨r0,r1,r2,r3,r4,r5,r6,r7⟩,⟨f0,f1,f2,f3,f4,f5,f6,f7⟩,Yw⟩:=Pl.o; have Wm:xQ (∀ v0 v1 v2 v3 v4 v5 v6 v7,(kT ((L9 w10 w.heap.size v0 v1 v2 v3 v4 v5 v6 v7)) w1.heap.size t)):=(fun v0 v1 v2 v3 v4 v5 v6 v7=>(Y8 ((Jm Lz v0 v1 v2 v3 v4 v5 v6 v7).trans (V.o.b4)))); clear hb))
  all_goals
   go_wp2_with fail;rw [HX.o.1];refine r64 rfl rfl (Wv (x:=Sp t s (some (aP (w2.heap.size+1) 0)) 1 1 A.heap.size) V.o.b5) rfl ⟨Wy V.o.st hp (xR) (Sp t s (some (aP (w2.heap.size+1) 0)) 1 1 A.heap.size),Ve V.o.ps hp (Sp t s (some (aP (w2.heap.size+1) 0)) 1 1 A.heap.size),_,rfl,Sp t s (some (aP (w2.heap.size+1) 0)) 1 1 A.heap.size,rfl,?_⟩;exact((Ko V.o.n0 V.o.b0 (by have:=HX.o.2.sz; omega) (Sp t s (some (aP (w2.heap.size+1) 0)) 1 1 A.heap.size) [D] [] ⟨rfl,rfl⟩ ⟨rfl,by simp,eG V.o.t0⟩ ⟨rfl,xZ _,.inl rfl⟩).put8 (xU _) (Sp t s (some (aP (w2.heap.size+1) 0)) 1 1 A.heap.size)).lower (Nat.le_succ _)
 | true =>
  have Xn:xQ (R=(Ze ts b3 [61,62]).go fun _ b=>(E b).go fun x b => .inl (Zp 6 s 0 t.line t.col ([D,D2]) [] [x],b)):=Yz.o;have HRw4:=Za ((HRw3.o.stay ((Zl.refl pb w3).alloc (by have:=C6.o.ps.ltp; exact this) (Z7 k4 nm4 na4 nl4 nc4 ka4 Z kc4)) (by omega)))
  go_wp2_with(at_builtin; refine wpList_append_own_at _ rfl (.tmp 26) (.tmp 28) 61 rfl (w.heap.size+1) 94 i0 _ 4 72 underlying61 hi Xr Xg Xw rfl (by decide) _ _ _ rfl (HRw4.o.ow.alloc _) (aP _ 0) 1 1 [iP k4,.string nm4,.slice na4 nl4 nc4,.slice ka4 Z kc4] rfl rfl (oS _ _ _ _ (by simp)) (by simp [Value.oneCell']) (by unfold maxLen; simp) (by simp) (by have:=C7.o.sz; simp at this ⊢; omega) ?_)
  intro v' w4 Zr Zo _ Z4;have Wn:=Za (HRw4.o.put (x:=D2) (rep:=Kf) Zr Zo (Z4.imp_right fun e=>⟨_,e,by simp⟩) ((Zl.refl pb _).alloc C7.o.ps.ltp _) (by omega) rfl (((Xt.new (rep:=Kf) Kw.o C5.o.sz fun q hq=>Hn.o.all q hq).stay ((Zl.refl pb w3).alloc (by have:=C6.o.ps.ltp; exact this) (Z7 k4 nm4 na4 nl4 nc4 ka4 Z kc4)) (by omega)).stay ((Zl.refl pb _).alloc C7.o.ps.ltp _) (by omega)))
  have C8:=Za ((C7.o.alloc (.cells #[iP k4,.string nm4,.slice na4 nl4 nc4,.slice ka4 Z kc4] 94)).regrow (bx':=[(w1.heap.size,Z3 t),(w.heap.size,Zj.obj)]) Zo (fun q hq=>by simp [Value.ownBlock] at hq; have:=C3.o.sz; omega) (by
   intro p hp;rcases List.mem_cons.1 hp with rfl | hp
   ·exact⟨by simp,fun e=>by simp [Value.ownBlock] at e; have:=(C4.o.b1); have:=xB C3.o.b0; omega⟩
   ·rw [List.mem_singleton.1 hp]; exact⟨by simp,fun e=>by simp [Value.ownBlock] at e; have:=C3.o.sz; omega⟩))
  obtain⟨av,cv,rfl,hu⟩:=eI Wn.o (by simp);have C9:=Za (C8.o.addT hu (xR));clear hu Zr Zo Z4;go_wp2_with fail;refine(Uy pb tb cap b3 d ts [61,62] _ C9.o.ps OK.o).mono ?_;intro e w5 C;rcases Yr C with⟨er,li,co,z,rfl,j⟩ | ⟨u5,b4,v5,z,rfl,j,Y,hv⟩
  ·have HE:xQ (R = .inr (er,li,co)):=by rw [Xn.o,z]; exact rfl
   have HF:=Za (C9.o.st.trans j);clear z j C;go_wp2_with fail;exact⟨rfl,HF.o,by rw [HE.o]⟩
  have Wn:xQ (R=(E b4).go fun x b => .inl (Zp 6 s 0 t.line t.col [D,D2] [] [x],b)):=by rw [Xn.o,z]; exact rfl
  have C10:=Za ((C9.o.step j Y));clear z j Y C hv;obtain⟨⟨k0,k1',k2,k3⟩,_,N4⟩:=Yh C10.o.b0;go_wp2_with fail
  have Lz:w1.heap.size≠w.heap.size:=by have:=C1.o.sz; omega
  have Uq:(kT ((w5).drew) w1.heap.size t):=(Y8 (C10.o.drew.b0))
  have HC:xQ (Calls prog 92 #[qP pb] (w5).drew fun e A=>(∃ chain,e = .panicked chain/\Ya pb tb cap ts d w Z6 R e A)∨∃ (y:NV) (D3:Ty) (b6:Nat),e = .returned (y.val)/\((kT A w1.heap.size t))/\xQ (R = .inl (Zp 6 s 0 t.line t.col [D,D2] [] [D3],b6)/\Y4 pb tb cap d ts w A b6 [(w1.heap.size,Z3 t),(w.heap.size,Zj.obj)] [(y,D3)] [(tE av 2 cv,Y7 7 [] [] [D,D2])])):=by
   refine(Pm.o.calls b4 _ C10.o.drew.ps).mono ?_;intro e A C;rcases Yr C with⟨er,li,co,z,rfl,j⟩ | ⟨D3,b6,v,z,rfl,j,Y,hv⟩
   ·exact .inl ⟨_,rfl,C10.o.drew.st.trans j,by rw [Wn.o,z]; rfl⟩
   obtain⟨y,rfl,hv⟩:=hv;have CN:=(C10.o.drew.step j Y).addN hv C10.o.drew.sz;exact .inr ⟨y,D3,b6,rfl,(Y8 (CN.b0)),by rw [Wn.o,z]; rfl,CN⟩
  go_wp2_with fail
  go_region_held (fun W=>(kT W w1.heap.size t)) (first | with_reducible assumption | with_reducible exact Vs.o _ | with_reducible exact Wm.o _ _ _ _ _ _ _ _) (first
   | (go_at_call 92; refine HC.o.mono ?_; rintro e A (⟨ch,rfl,hf⟩ | ⟨y,D3,b6,rfl,t5,HX⟩); exact⟨rfl,hf⟩; have Vs:xQ (∀ o,(kT ((A.alloc o)) w1.heap.size t)):=(fun o=>(Y8 ((HX.o.2.alloc o).b1))))
   | (go_at_call 123; refine(L7 t ⟨6,⟨s.toArray⟩,0,0,0,av,2,cv,none,0,0,some (aP A.heap.size 0),1,1⟩ _).mono ?_; rintro e w10 ⟨rfl,hb⟩; have V:=Za ((HX.o.2.alloc _).below hb); have t6:(kT w10 w1.heap.size t):=(Y8 (V.o.b1)); have Pl:=Za (Zn (x:=Zj) (V.o.b2)); obtain⟨⟨r0,r1,r2,r3,r4,r5,r6,r7⟩,⟨f0,f1,f2,f3,f4,f5,f6,f7⟩,Yw⟩:=Pl.o; have Wm:xQ (∀ v0 v1 v2 v3 v4 v5 v6 v7,(kT ((L9 w10 w.heap.size v0 v1 v2 v3 v4 v5 v6 v7)) w1.heap.size t)):=(fun v0 v1 v2 v3 v4 v5 v6 v7=>(Y8 ((Jm Lz v0 v1 v2 v3 v4 v5 v6 v7).trans (V.o.b1)))); clear hb))
  all_goals
   go_wp2_with fail;rw [HX.o.1];refine r64 rfl rfl (Wv (x:=Sp t s (av) 2 cv A.heap.size) V.o.b2) rfl ⟨Wy V.o.st hp (xR) (Sp t s (av) 2 cv A.heap.size),Ve V.o.ps hp (Sp t s (av) 2 cv A.heap.size),_,rfl,Sp t s (av) 2 cv A.heap.size,rfl,?_⟩;exact((Ko V.o.n0 V.o.b0 (by have:=HX.o.2.sz; omega) (Sp t s (av) 2 cv A.heap.size) [D,D2] [] ⟨rfl,rfl⟩ ⟨rfl,by simp,eG V.o.t0⟩ ⟨rfl,xZ _,.inl rfl⟩).put8 (xU _) (Sp t s (av) 2 cv A.heap.size)).lower (Nat.le_succ _)
def E1 (lo:Nat) (w:wD) (c:List vL) (D:Ty):Prop:=Z6 lo w (.agg c.toArray) D
theorem dM:B5 E1 where
 keep:=fun⟨x,e,h⟩ z A=>⟨x,e,h.keep z A⟩
 lower:=fun⟨x,e,h⟩ j=>⟨x,e,h.lower j⟩
theorem dN {lo:Nat} {w:wD} {j:NV} {D:Ty} (h:Y0 lo w j D):E1 lo w [iP j.k,.string j.tx,iP j.N,iP j.li,iP j.co,.slice j.ta j.tl j.tc,.slice j.na j.nl j.nc,.slice j.ka j.kl j.kc] D:=⟨j,rfl,h⟩
theorem gX:(prog.info? 64).map (fun i=>(i.zero,i.size,i.bytes))=some (some Zj.val,8,120):=by kernel_rfl
def lL (lo:Nat) (w:wD) (v:vL) (l:List (bS×Ty)):Prop:=∃ vn vv cn cv,v = .tuple #[vn,vv]/\Yq Mb lo 9 1 vv.ownBlock w vn cn (l.map (·.1))/\Yq E1 lo 64 8 vn.ownBlock w vv cv (l.map (·.2))
theorem jG (pb tb cap d:Nat) (ts:List Tok) (g:Nat) (K:Nat->Pr Ty) (O:Xs pb tb cap d ts Z6 g K)
  (f a:Nat) (hf:ts.length<=a+(f+1)) (w:wD) (h:Ps w pb tb cap ts a d) (ok:Ym ts) :
  Calls prog 150 #[qP pb,.func (.func g) #[] #[]] w (Ya pb tb cap ts d w lL (B7 ts K (f+1) a)):=by
 have H:=Za h
 have OK:=Za ok
 have HG:=Za O
 have U4:=O.enters
 clear h ok O
 have HT:=Za (Ta pb tb cap a d ts [125] w H.o OK.o)
 have HF:=Za hf
 clear hf
 obtain⟨R,hR⟩:=xE (B7 ts K (f+1) a)
 rw [<- hR]
 obtain⟨sb,Wx⟩:=xE (Zg ts a [125])
 rw [<- Wx] at HT
 have HR:=Za hR
 have F:=Za Wx
 clear hR Wx
 have hnot:∀ (x:Bool) (w:wD),(Op.unary .not (.bool x)).run prog w = .ok (.bool (!x)) w:=fun _ _=>rfl
 obtain⟨i0,hi,Xr,Xg,Xw⟩:=info_parts gX
 obtain⟨s0,si,sz0,sz1,sz2⟩:=info_parts Ix
 go_enter func150,ntmps150
 go_wp2_with fail
 refine HT.o.mono ?_
 rintro e w1 ⟨rfl,j,A⟩
 have M:=Za j
 have HP:=Za A
 clear j A
 go_wp2_with fail
 go_loopg [6,7,8] (ts.length+2) (fun gk vn vv mo wr=>∃ (b m:Nat) (cn cv:List (List vL)) (acc:List (bS×Ty)) (ns:List (bS)) (ks:List Ty) (mb:Bool),mo = .bool mb/\xQ (ns=acc.map (·.1)/\ks=acc.map (·.2))/\xQ (Yq Mb w.heap.size 9 1 vv.ownBlock wr vn cn ns)/\xQ (Yq E1 w.heap.size 64 8 vn.ownBlock wr vv cv ks)/\xQ (Zl pb w wr)/\xQ (Ps wr pb tb cap ts b d)/\xQ (acc.length<=b)/\xQ (ts.length<=b+(m+1))/\xQ (mb=true->Kr ts K R acc (m+1) b/\ts.length - b+1<=gk)/\xQ (mb=false->R = .inl (acc,b)))
 case atStart =>
  refine⟨_,f,[],[],[],[],[],_,rfl,⟨rfl,rfl⟩,Ha _ _ _ _ _,Ha _ _ _ _ _,M,HP,xZ _,?_,fun h=>?_,fun h=>?_⟩
  ·have:=HF.o
   show _<=_
   split <;> omega
  ·have hs:sb=false:=by simpa using h
   rw [hs] at F ⊢;exact⟨by rw [HR.o]; exact jL F.o.symm,by have:=HF.o; simp; omega⟩
  ·have hs:sb=true:=by simpa using h
   rw [hs] at F ⊢;rw [HR.o];exact mX F.o.symm
 case round =>
  clear M HP HT HR F;obtain⟨b,m,cn,cv,acc,ns,ks,mb,rfl,Po,HN,HV,Xc,Qt,Nw,Qs,V,HFa⟩:=hrel
  cases mb with
  | false =>
   have T:=Za (HFa.o rfl);clear HFa V;go_wp2_with fail;refine bodyPost_ret (uL rfl _ _ _) rfl ?_;rw [T.o];exact⟨Xc.o,Qt.o,_,rfl,_,_,cn,cv,rfl,Po.o.1 ▸ HN.o,Po.o.2 ▸ HV.o⟩
  | true =>
   have Y:=Za (V.o rfl).1;have Pw:=(V.o rfl).2;clear HFa V;obtain⟨av,lv,rfl⟩:=Yt HN.o.ow;obtain⟨av2,lv2,rfl⟩:=Yt HV.o.ow;have HO:=Za (Dx pb tb cap b d ts wr Qt.o OK.o)
   cases hn:Zu ts b with
   | inr x =>
    obtain⟨er,li,co⟩:=x;have T:=Za (jK Y.o hn);rw [hn] at HO;clear hn;go_wp2_with fail;refine HO.o.mono ?_;rintro e w2 ⟨j,rfl⟩;have M:=Za (Xc.o.trans j);clear j;go_wp2_with fail;rw [T.o];exact⟨rfl,M.o,rfl⟩
   | inl x =>
    obtain⟨s,b1⟩:=x;have Ll:=Za hn;have Zs:=Eb hn;rw [hn] at HO;clear hn
    have Lw:acc.length<=8193:=by have:=Nw.o; have:=OK.o.len; have:=Qt.o.lt; omega
    have yR:ns.length<=8193:=by rw [Po.o.1]; simpa using Lw
    have hac2:ks.length<=8193:=by rw [Po.o.2]; simpa using Lw
    go_wp2_with fail;refine HO.o.mono ?_;rintro e w2 ⟨j,A,v,rfl,rfl⟩;have M:=Za (Xc.o.trans j);have Nb:=Za A;have Vr:=Za (HN.o.stay j H.o.ltp);have Lo:=Za (HV.o.stay j H.o.ltp);clear j A
    go_wp2_with(at_builtin; refine wpList_append_own_at _ rfl (.tmp 19) (.tmp 24) 25 rfl w.heap.size 9 s0 _ 1 16 underlying25 si sz0 sz1 sz2 rfl (by decide) _ _ _ rfl (Vr.o.ow.alloc _) (aP _ 0) 1 1 [uP s] rfl rfl (V2 _ _ _) (by simp [Value.oneCell']) (by unfold maxLen; omega) (by omega) (by have:=M.o.size; simp; omega) ?_)
    intro vn' w4 Zr Zo _ Z4;have HN4:=Za (Vr.o.put (x:=s) (rep:=Mb) Zr Zo (Z4.imp_right fun e=>⟨_,e,by simp⟩) ((Zl.refl pb w2).alloc Nb.o.ltp _) H.o.ltp rfl ((Xt.new (rep:=Mb) (lo:=w2.heap.size) rfl M.o.size fun q J=>Vr.o.all q J).stay ((Zl.refl pb w2).alloc Nb.o.ltp _) H.o.ltp));have Kw:=Za ((Lo.o.stay ((Zl.refl pb w2).alloc Nb.o.ltp _) H.o.ltp).beside (o':=vn'.ownBlock) Zo (Z4.imp_right fun e=>⟨_,e,by simp,(Zr.lt _ e).2⟩) (by have:=M.o.size; simp; omega))
    have P8:xQ (Zl pb w w4):=(M.o.alloc H.o.ltp _).grown Zo H.o.ltp fun q J=>(Vr.o.own q J).1
    have Sd:xQ (Ps w4 pb tb cap ts b1 d):=(Nb.o.alloc _).grown Zo fun q J=>xT H.o.ltp (Vr.o.own q J).1
    obtain⟨av3,lv3,rfl⟩:=Yt Zr;clear Zr Zo Z4 Vr Lo M Nb;have HM:=Za (Uy pb tb cap b1 d ts [58] w4 Sd.o OK.o)
    cases hm:Ze ts b1 [58] with
    | inr x =>
     obtain⟨er,li,co⟩:=x;have T:=Za (jI Y.o Ll.o hm);rw [hm] at HM;clear hm;go_wp2_with fail;refine HM.o.mono ?_;rintro e w5 ⟨j,rfl⟩;have Hp:=Za (P8.o.trans j);clear j;go_wp2_with fail;rw [T.o];exact⟨rfl,Hp.o,rfl⟩
    | inl x =>
     obtain⟨u,b2⟩:=x;have Kx:=Za hm;have Z5:=tH hm;rw [hm] at HM;clear hm;go_wp2_with fail;refine HM.o.mono ?_;rintro e w5 ⟨j,A,v,rfl,_⟩;have Hp:=Za (P8.o.trans j);have HPS5:=Za A;have Hk:=Za (HN4.o.stay j H.o.ltp);have Lp:=Za (Kw.o.stay j H.o.ltp);clear j A HM;have F1:=Za (HG.o.calls b2 w5 HPS5.o)
     cases ho:K b2 with
     | inr x =>
      obtain⟨er,li,co⟩:=x;have T:=Za (jM Y.o Ll.o Kx.o ho);rw [ho] at F1;clear ho;go_wp2_with fail;refine F1.o.mono ?_;rintro e w6 ⟨j,rfl⟩;have At:=Za (Hp.o.trans j);clear j;go_wp2_with fail;rw [T.o];exact⟨rfl,At.o,rfl⟩
     | inl x =>
      obtain⟨D1,b3⟩:=x;have I:=Za ho;have Ts:=HG.o.up _ _ _ ho;rw [ho] at F1;clear ho;go_wp2_with fail;refine F1.o.mono ?_;rintro e w6 ⟨j,A,v,rfl,hv⟩;obtain⟨z,rfl,hv⟩:=hv;have At:=Za (Hp.o.trans j);have Ey:=Za A;have Hl:=Za (Hk.o.stay j H.o.ltp);have Hr:=Za (Lp.o.stay j H.o.ltp);have Au:=Za hv;clear j A hv
      go_wp2_with(at_builtin; refine wpList_append_own_at _ rfl (.tmp 30) (.tmp 34) 62 rfl w.heap.size 64 i0 _ 8 120 underlying62 hi Xr Xg Xw rfl (by decide) _ _ _ rfl (Hr.o.ow.alloc _) (aP _ 0) 1 1 [iP z.k,.string z.tx,iP z.N,iP z.li,iP z.co,.slice z.ta z.tl z.tc,.slice z.na z.nl z.nc,.slice z.ka z.kl z.kc] rfl rfl (V2 _ _ _) (by simp [Value.oneCell']) (by unfold maxLen; omega) (by omega) (by have:=At.o.size; simp; omega) ?_)
      intro vv' w7 Zr Zo _ Z4;have Sh:=Za (Hr.o.put (x:=D1) (rep:=E1) Zr Zo (Z4.imp_right fun e=>⟨_,e,by simp⟩) ((Zl.refl pb w6).alloc Ey.o.ltp _) H.o.ltp rfl ((Xt.new (rep:=E1) (dN Au.o) Hp.o.size fun q J=>Lp.o.all q J).stay ((Zl.refl pb w6).alloc Ey.o.ltp _) H.o.ltp));have Fy:=Za ((Hl.o.stay ((Zl.refl pb w6).alloc Ey.o.ltp _) H.o.ltp).beside (o':=vv'.ownBlock) Zo (Z4.imp_right fun e=>⟨_,e,by simp,(Zr.lt _ e).2⟩) (by have:=At.o.size; simp; omega))
      have Z:xQ (Zl pb w w7):=(At.o.alloc H.o.ltp _).grown Zo H.o.ltp fun q J=>(Hr.o.own q J).1
      have HPS7:xQ (Ps w7 pb tb cap ts b3 d):=(Ey.o.alloc _).grown Zo fun q J=>xT H.o.ltp (Hr.o.own q J).1
      clear Zr Zo Z4 F1;have C:=Za (gA pb tb cap b3 d ts [44] [125] w7 HPS7.o OK.o)
      cases O:Rr ts b3 [44] [125] with
      | inr x =>
       obtain⟨er,li,co⟩:=x;have T:=Za (jJ Y.o Ll.o Kx.o I.o O);rw [O] at C;clear O;go_wp2_with fail;refine C.o.mono ?_;rintro e w8 ⟨j,rfl⟩;have Ou:=Za (Z.o.trans j);clear j;go_wp2_with fail;rw [T.o];exact⟨rfl,Ou.o,rfl⟩
      | inl x =>
       obtain⟨gb,b4⟩:=x;have Ew:=Za O;rw [O] at C;clear O;go_wp2_with fail;refine C.o.mono ?_;rintro e w8 ⟨j,A,v,rfl,rfl⟩;have Ou:=Za (Z.o.trans j);have Oq:=Za A;have Fz:=Za (Fy.o.stay j H.o.ltp);have Hs:=Za (Sh.o.stay j H.o.ltp);clear j A C;go_wp2_with fail
       have Fa:b3<=b4:=by
        cases gb with
        | true=>have:=(qF Y.o Ll.o Kx.o I.o Ew.o).2; omega
        | false=>exact(qE Y.o Ll.o Kx.o I.o Ew.o).2
       go_roundg (ts.length - b4+1)
       case measure=>have:=Oq.o.lt; omega
       case rel =>
        refine⟨b4,m - 1,_,_,acc ++ [(s,D1)],_,_,gb,rfl,⟨?_,?_⟩,Fz,Hs,Ou,Oq,?_,?_,fun h=>?_,fun h=>?_⟩
        ·rw [Po.o.1]; simp
        ·rw [Po.o.2]; simp
        ·have:=Nw.o
         show(acc ++ [(s,D1)]).length<=b4;simp;omega
        ·have:=Qs.o
         show _<=_;omega
        ·subst h
         have h1:=(qF Y.o Ll.o Kx.o I.o Ew.o)
         have:=Oq.o.lt;have:=Qs.o
         obtain⟨q,rfl⟩:∃ q,m=q+1:=⟨m - 1,by omega⟩
         exact⟨h1.1,xR⟩
        ·subst h
         exact(qE Y.o Ll.o Kx.o I.o Ew.o).1
theorem kC {lo:Nat} {w:wD}:∀ (l:List (vL×Ty)),(∀ p ∈ l,Z6 lo w p.1 p.2)->∃ m,∀ p ∈ l,∃ x:NV,p.1=x.val/\Hv w lo m x p.2
 | [],_=>⟨0,fun _ h=>nomatch h⟩
 | p :: l,h=>by
  obtain⟨x,e,I,A⟩:=h p (xM ..)
  obtain⟨C,F⟩:=kC l fun q j=>h q (xW _ j)
  refine⟨max I C,fun q j=>?_⟩;rcases List.mem_cons.1 j with rfl | j
  ·exact⟨x,e,Ee A (Nat.le_max_left _ _)⟩
  ·obtain⟨y,H,z⟩:=F q j
   exact⟨y,H,Ee z (Nat.le_max_right _ _)⟩
theorem aL {B et:Nat} {o:Option Nat} {wx:wD} {v:vL} {cs:List (List vL)} {xs:List Ty} (h:Yq E1 B et 8 o wx v cs xs):∃ (a:oA) (cap m:Nat),v = .slice a xs.length cap/\xs.length<=cap/\O4 wx B m a xs:=by
 obtain⟨a,cap,e,Cc,hr⟩:=h.form dM
 have J:∀ p ∈ (cs.map fun c=>(Value.agg c.toArray)).zip xs,Z6 B wx p.1 p.2:=by
  intro p V;obtain⟨i,F,rfl⟩:=List.mem_iff_getElem.1 V;simp only [List.getElem_zip,List.getElem_map];simp only [List.length_zip,List.length_map] at F;exact(h.made i (by omega) (by omega)).now dM
 obtain⟨m,hm⟩:=kC _ J
 refine⟨a,cap,m,e,Cc,?_⟩
 rcases h.ow.2 with⟨C,Z⟩ | ⟨g,cap2,cur,C,Y,I,_⟩
 ·exact .inl (List.length_eq_zero_iff.1 Z)
 ·rw [e] at C
  injection C with e3 e4 e5;refine .inr ⟨g,0,e3,Y,⟨_,_,I⟩,fun i F=>?_⟩
  have O:i<cs.length:=by rw [h.len]; exact F
  obtain⟨x,T,M⟩:=hm (.agg cs[i].toArray,xs[i]) (List.mem_iff_getElem.2 ⟨i,by simp; omega,by simp⟩)
  have z:∀ j,j<8->wx.cell? (aP g (0+i*8+j))=cs[i][j]?:=by
   intro j hj;have H:=h.ow;rw [e,e3] at H;rw [show 0+i*8+j=i*8+j by omega,H.cellAt (i*8+j) (by omega)];exact Ij cs h.each i O j hj
  have J2:cs[i]=[iP x.k,.string x.tx,iP x.N,iP x.li,iP x.co,.slice x.ta x.tl x.tc,.slice x.na x.nl x.nc,.slice x.ka x.kl x.kc]:=by
   have A:Value.agg cs[i].toArray=x.val:=T;injection A with A
   simpa using congrArg Array.toList A
  rw [J2] at z;exact⟨x,⟨z 0 (by omega),z 1 (by omega),z 2 (by omega),z 3 (by omega),z 4 (by omega),z 5 (by omega),z 6 (by omega),z 7 (by omega)⟩,M⟩
abbrev Rc (na:oA) (nl nc:Nat) (ka:oA) (kl kc:Nat):NV:=⟨8,⟨#[]⟩,0,0,0,none,0,0,na,nl,nc,ka,kl,kc⟩
abbrev Er (s:bS) (kb:Nat):NV:=⟨10,⟨s.toArray⟩,0,0,0,none,0,0,none,0,0,some (aP kb 0),2,2⟩
theorem sY {lo:Nat} {w:wD} {l:List (bS×Ty)} {j:vL} (h:lL lo w j l) (hl:l.length<=8193):∃ a c a' c',j = .tuple #[.slice a l.length c,.slice a' l.length c']/\Y0 lo w (Rc a l.length c a' l.length c') (Zp 8 [] 0 0 0 [] (l.map (·.1)) (l.map (·.2))):=by
 obtain⟨vn,vv,cn,cv,rfl,z,A⟩:=h
 obtain⟨a,c,rfl,hc,C⟩:=wK z
 obtain⟨a',c',m,rfl,Qc,hK⟩:=aL A
 refine⟨a,c,a',c',by simp,m+1,[],l.map (·.1),l.map (·.2),rfl,⟨rfl,by simp,by simp⟩,⟨xZ _,?_,?_⟩,.inl rfl,C,hK⟩
 ·simp only [List.length_map]; omega
 ·simp only [List.length_map]; omega
theorem oN (pb tb cap d:Nat) (ts:List Tok) (E:Nat->Pr Ty) (hE:Xs pb tb cap d ts Z6 92 E) (M:Ym ts) (a:Nat) (T:Zg ts a [125]=true) (w:wD) (h:Ps w pb tb cap ts a d) :
  Calls prog 147 #[qP pb] w (Ya pb tb cap ts d w Z6 ((B7 ts E ts.length a).go fun l b => .inl (Zp 8 [] 0 0 0 [] (l.map (·.1)) (l.map (·.2)),b))):=by
 have H:=Za h
 have I:=Za M
 have hp:=h.ltp
 have Pm:=Za hE
 have Y5:=Za T
 obtain⟨ff,J⟩:∃ f,f+1=ts.length:=⟨ts.length - 1,by have:=M.pos; omega⟩
 have V:=Za (U2 h Zj.obj)
 rw [<- J]
 obtain⟨R,N⟩:∃ R:Pr Ty,R=((B7 ts E (ff+1) a).go fun l b => .inl (Zp 8 [] 0 0 0 [] (l.map (·.1)) (l.map (·.2)),b)):=⟨_,rfl⟩
 rw [<- N]
 have Y:=Za N
 clear h M N hE T
 go_enter func147,ntmps147
 go_wp2_with fail
 refine(V5 pb tb cap a _ 1 ts [[125]] _ _ V.o.ps.rd (by simp) (by simp)).mono ?_
 rw [T0,Y5.o]
 rintro e w1 ⟨rfl,hb⟩
 have F:=Za (V.o.below hb)
 clear hb
 go_wp2_with fail
 refine(jG pb tb cap d ts 92 E Pm.o ff a (by omega) _ F.o.ps I.o).mono ?_
 intro e w2 O
 rcases Yr O with⟨er,li,co,j,rfl,C⟩ | ⟨l,b,v,j,rfl,C,Z,hv⟩
 ·have HE:xQ (R = .inr (er,li,co)):=by rw [Y.o,j]; exact rfl
  have HF:=Za (F.o.st.trans C);clear j C O;go_wp2_with fail;exact⟨rfl,HF.o,by rw [HE.o]⟩
 have Yl:xQ (R = .inl (Zp 8 [] 0 0 0 [] (l.map (·.1)) (l.map (·.2)),b)):=by rw [Y.o,j]; exact rfl
 obtain⟨na,nc,ka,kc,rfl,z⟩:=sY hv (by have:=(mW I.o j).1; have:=I.o.len; omega)
 have A:=Za ((F.o.step C Z).addN z F.o.sz)
 clear j C Z O hv z
 obtain⟨⟨r0,r1,r2,r3,r4,r5,r6,r7⟩,⟨f0,f1,f2,f3,f4,f5,f6,f7⟩,Yw⟩:=Zn (x:=Zj) (A.o.b0)
 go_wp2_with fail
 rw [Yl.o]
 refine r64 rfl rfl (Wv (x:=Rc na l.length nc ka l.length kc) A.o.b0) rfl ⟨Wy A.o.st hp (xR) (Rc na l.length nc ka l.length kc),Ve A.o.ps hp (Rc na l.length nc ka l.length kc),_,rfl,Rc na l.length nc ka l.length kc,rfl,?_⟩
 exact((A.o.n0).put8 (xU _) (Rc na l.length nc ka l.length kc)).lower (Nat.le_succ _)
theorem oM (pb tb cap d:Nat) (ts:List Tok) (E:Nat->Pr Ty) (hE:Xs pb tb cap d ts Z6 92 E) (J:Ym ts) (a:Nat) (V:Zg ts a [125]=false) (h2:((Zk ts a).kind == 1 && Zg ts (a+1) [58])=true) (w:wD) (h:Ps w pb tb cap ts a d) :
  Calls prog 147 #[qP pb] w (Ya pb tb cap ts d w Z6 ((B7 ts E ts.length a).go fun l b => .inl (Zp 8 [] 0 0 0 [] (l.map (·.1)) (l.map (·.2)),b))):=by
 have H:=Za h
 have M:=Za J
 have hp:=h.ltp
 have Pm:=Za hE
 have Y5:=Za V
 have Y:=Za (fun w h=>lY pb tb cap a d ts w h J)
 rw [h2] at Y
 obtain⟨ff,N⟩:∃ f,f+1=ts.length:=⟨ts.length - 1,by have:=J.pos; omega⟩
 have Z:=Za (U2 h Zj.obj)
 rw [<- N]
 obtain⟨R,O⟩:∃ R:Pr Ty,R=((B7 ts E (ff+1) a).go fun l b => .inl (Zp 8 [] 0 0 0 [] (l.map (·.1)) (l.map (·.2)),b)):=⟨_,rfl⟩
 rw [<- O]
 have Yc:=Za O
 clear h J O hE V h2
 go_enter func147,ntmps147
 go_wp2_with fail
 refine(V5 pb tb cap a _ 1 ts [[125]] _ _ Z.o.ps.rd (by simp) (by simp)).mono ?_
 rw [T0,Y5.o]
 rintro e w1 ⟨rfl,C⟩
 have C1:=Za (Z.o.below C)
 clear C
 go_wp2_with fail
 refine(Y.o _ C1.o.ps).mono ?_
 rintro e w2 ⟨rfl,C⟩
 have I:=Za (C1.o.below C)
 clear C
 go_wp2_with fail
 refine(jG pb tb cap d ts 92 E Pm.o ff a (by omega) _ I.o.ps M.o).mono ?_
 intro e w3 T
 rcases Yr T with⟨er,li,co,j,rfl,F⟩ | ⟨l,b,v,j,rfl,F,Zc,hv⟩
 ·have HE:xQ (R = .inr (er,li,co)):=by rw [Yc.o,j]; exact rfl
  have HF:=Za (I.o.st.trans F);clear j F T;go_wp2_with fail;exact⟨rfl,HF.o,by rw [HE.o]⟩
 have Yl:xQ (R = .inl (Zp 8 [] 0 0 0 [] (l.map (·.1)) (l.map (·.2)),b)):=by rw [Yc.o,j]; exact rfl
 obtain⟨na,nc,ka,kc,rfl,A⟩:=sY hv (by have:=(mW M.o j).1; have:=M.o.len; omega)
 have z:=Za ((I.o.step F Zc).addN A I.o.sz)
 clear j F Zc T hv A
 obtain⟨⟨r0,r1,r2,r3,r4,r5,r6,r7⟩,⟨f0,f1,f2,f3,f4,f5,f6,f7⟩,Yw⟩:=Zn (x:=Zj) (z.o.b0)
 go_wp2_with fail
 rw [Yl.o]
 refine r64 rfl rfl (Wv (x:=Rc na l.length nc ka l.length kc) z.o.b0) rfl ⟨Wy z.o.st hp (xR) (Rc na l.length nc ka l.length kc),Ve z.o.ps hp (Rc na l.length nc ka l.length kc),_,rfl,Rc na l.length nc ka l.length kc,rfl,?_⟩
 exact((z.o.n0).put8 (xU _) (Rc na l.length nc ka l.length kc)).lower (Nat.le_succ _)
theorem oO (pb tb cap d:Nat) (ts:List Tok) (E:Nat->Pr Ty) (hE:Xs pb tb cap d ts Z6 92 E) (ok:Ym ts) (a:Nat) (h1:Zg ts a [125]=false) (h2:((Zk ts a).kind == 1 && Zg ts (a+1) [58])=false) (w:wD) (h:Ps w pb tb cap ts a d) :
  Calls prog 147 #[qP pb] w (Ya pb tb cap ts d w Z6 ((E a).go fun x b=>(Ze ts b [119,105,116,104]).go fun _ b=>(Zu ts b).go fun s b=>(Ze ts b [58]).go fun _ b=>(E b).go fun y b=>(Ze ts b [125]).go fun _ b => .inl (Zp 10 s 0 0 0 [] [] [x,y],b))):=by
 have H:=Za h
 have Z:=Za ok
 have hp:=h.ltp
 have Pm:=Za hE
 have Y5:=Za h1
 have Ye:=Za (fun w h=>lY pb tb cap a d ts w h ok)
 rw [h2] at Ye
 have C0:=Za (U2 h Zj.obj)
 obtain⟨R,hR⟩:∃ R:Pr Ty,R=((E a).go fun x b=>(Ze ts b [119,105,116,104]).go fun _ b=>(Zu ts b).go fun s b=>(Ze ts b [58]).go fun _ b=>(E b).go fun y b=>(Ze ts b [125]).go fun _ b => .inl (Zp 10 s 0 0 0 [] [] [x,y],b)):=⟨_,rfl⟩
 rw [<- hR]
 have Yc:=Za hR
 clear h ok hR hE h1 h2
 go_enter func147,ntmps147
 go_wp2_with fail
 refine(V5 pb tb cap a _ 1 ts [[125]] _ _ C0.o.ps.rd (by simp) (by simp)).mono ?_
 rw [T0,Y5.o]
 rintro e w1 ⟨rfl,V⟩
 have C1:=Za (C0.o.below V)
 clear V
 go_wp2_with fail
 refine(Ye.o _ C1.o.ps).mono ?_
 rintro e w2 ⟨rfl,V⟩
 have C2:=Za (C1.o.below V)
 clear V
 go_wp2_with fail
 refine(Pm.o.calls a _ C2.o.ps).mono ?_
 intro e w3 F
 rcases Yr F with⟨er,li,co,A,rfl,C⟩ | ⟨D1,b1,v,A,rfl,C,J,hv⟩
 ·have O:xQ (R = .inr (er,li,co)):=by rw [Yc.o,A]; exact rfl
  have T:=Za (C2.o.st.trans C);clear A C F;go_wp2_with fail;exact⟨rfl,T.o,by rw [O.o]⟩
 have Yl:xQ (R=(Ze ts b1 [119,105,116,104]).go fun _ b=>(Zu ts b).go fun s b=>(Ze ts b [58]).go fun _ b=>(E b).go fun y b=>(Ze ts b [125]).go fun _ b => .inl (Zp 10 s 0 0 0 [] [] [D1,y],b)):=by rw [Yc.o,A]; exact rfl
 obtain⟨j,rfl,hv⟩:=hv
 have C3:=Za ((C2.o.step C J).addN hv C2.o.sz)
 have C4:=Za (C3.o.alloc (j.obj))
 clear A C J F hv
 go_wp2_with fail
 refine(Uy pb tb cap b1 d ts [119,105,116,104] _ C4.o.ps Z.o).mono ?_
 intro e w4 F
 rcases Yr F with⟨er,li,co,A,rfl,C⟩ | ⟨u2,b2,v2,A,rfl,C,J,hv⟩
 ·have O:xQ (R = .inr (er,li,co)):=by rw [Yl.o,A]; exact rfl
  have T:=Za (C4.o.st.trans C);clear A C F;go_wp2_with fail;exact⟨rfl,T.o,by rw [O.o]⟩
 have Zy:xQ (R=(Zu ts b2).go fun s b=>(Ze ts b [58]).go fun _ b=>(E b).go fun y b=>(Ze ts b [125]).go fun _ b => .inl (Zp 10 s 0 0 0 [] [] [D1,y],b)):=by rw [Yl.o,A]; exact rfl
 have C5:=Za ((C4.o.step C J))
 clear A C J F hv
 go_wp2_with fail
 refine(Dx pb tb cap b2 d ts _ C5.o.ps Z.o).mono ?_
 intro e w5 F
 rcases Yr F with⟨er,li,co,A,rfl,C⟩ | ⟨s,b3,v3,A,rfl,C,J,hv⟩
 ·have O:xQ (R = .inr (er,li,co)):=by rw [Zy.o,A]; exact rfl
  have T:=Za (C5.o.st.trans C);clear A C F;go_wp2_with fail;exact⟨rfl,T.o,by rw [O.o]⟩
 have Yz:xQ (R=(Ze ts b3 [58]).go fun _ b=>(E b).go fun y b=>(Ze ts b [125]).go fun _ b => .inl (Zp 10 s 0 0 0 [] [] [D1,y],b)):=by rw [Zy.o,A]; exact rfl
 subst hv
 have C6:=Za ((C5.o.step C J))
 clear A C J F  
 go_wp2_with fail
 refine(Uy pb tb cap b3 d ts [58] _ C6.o.ps Z.o).mono ?_
 intro e w6 F
 rcases Yr F with⟨er,li,co,A,rfl,C⟩ | ⟨u4,b4,v4,A,rfl,C,J,hv⟩
 ·have O:xQ (R = .inr (er,li,co)):=by rw [Yz.o,A]; exact rfl
  have T:=Za (C6.o.st.trans C);clear A C F;go_wp2_with fail;exact⟨rfl,T.o,by rw [O.o]⟩
 have Xn:xQ (R=(E b4).go fun y b=>(Ze ts b [125]).go fun _ b => .inl (Zp 10 s 0 0 0 [] [] [D1,y],b)):=by rw [Yz.o,A]; exact rfl
 have Y:=Za ((C6.o.step C J))
 clear A C J F hv
 go_wp2_with fail
 refine(Pm.o.calls b4 _ Y.o.ps).mono ?_
 intro e w7 F
 rcases Yr F with⟨er,li,co,A,rfl,C⟩ | ⟨D2,b5,v,A,rfl,C,J,hv⟩
 ·have O:xQ (R = .inr (er,li,co)):=by rw [Xn.o,A]; exact rfl
  have T:=Za (Y.o.st.trans C);clear A C F;go_wp2_with fail;exact⟨rfl,T.o,by rw [O.o]⟩
 have Wn:xQ (R=(Ze ts b5 [125]).go fun _ b => .inl (Zp 10 s 0 0 0 [] [] [D1,D2],b)):=by rw [Xn.o,A]; exact rfl
 obtain⟨z,rfl,hv⟩:=hv
 have C8:=Za ((Y.o.step C J).addN hv Y.o.sz)
 have C9:=Za (C8.o.alloc (z.obj))
 clear A C J F hv
 go_wp2_with fail
 refine(Uy pb tb cap b5 d ts [125] _ C9.o.ps Z.o).mono ?_
 intro e M F
 rcases Yr F with⟨er,li,co,A,rfl,C⟩ | ⟨u6,b6,v6,A,rfl,C,J,hv⟩
 ·have O:xQ (R = .inr (er,li,co)):=by rw [Wn.o,A]; exact rfl
  have T:=Za (C9.o.st.trans C);clear A C F;go_wp2_with fail;exact⟨rfl,T.o,by rw [O.o]⟩
 have Pa:xQ (R = .inl (Zp 10 s 0 0 0 [] [] [D1,D2],b6)):=by rw [Wn.o,A]; exact rfl
 have I:=Za ((C9.o.step C J))
 clear A C J F hv
 obtain⟨⟨r0,r1,r2,r3,r4,r5,r6,r7⟩,⟨f0,f1,f2,f3,f4,f5,f6,f7⟩,Yw⟩:=Zn (x:=Zj) (I.o.b2)
 obtain⟨⟨n0,n1,n2,n3,n4,n5,n6,n7⟩,_,N5⟩:=Zn (x:=j) I.o.b1
 obtain⟨⟨m0,m1,m2,m3,m4,m5,m6,m7⟩,_,Kk⟩:=Zn (x:=z) I.o.b0
 have Ub:¬ w3.heap.size=w.heap.size:=by have:=C3.o.sz; omega
 have Up:¬ w7.heap.size=w.heap.size:=by have:=C8.o.sz; omega
 go_wp2_with fail
 rw [Pa.o]
 refine r64 rfl rfl ((xA (show w.heap.size<(put8 M w.heap.size (Er s M.heap.size)).heap.size by rw [Nt]; exact Yw)).trans (Wv (x:=Er s M.heap.size) I.o.b2)) rfl ⟨(Wy I.o.st hp (xR) (Er s M.heap.size)).alloc hp _,(Ve I.o.ps hp (Er s M.heap.size)).alloc _,_,rfl,Er s M.heap.size,rfl,?_⟩
 have hk:((put8 M w.heap.size (Er s M.heap.size)).alloc (.cells #[iP j.k,.string j.tx,iP j.N,iP j.li,iP j.co,.slice j.ta j.tl j.tc,.slice j.na j.nl j.nc,.slice j.ka j.kl j.kc,iP z.k,.string z.tx,iP z.N,iP z.li,iP z.co,.slice z.ta z.tl z.tc,.slice z.na z.nl z.nc,.slice z.ka z.kl z.kc] 64)).heap[M.heap.size]?=some (.cells #[iP j.k,.string j.tx,iP j.N,iP j.li,iP j.co,.slice j.ta j.tl j.tc,.slice j.na j.nl j.nc,.slice j.ka j.kl j.kc,iP z.k,.string z.tx,iP z.N,iP z.li,iP z.co,.slice z.ta z.tl z.tc,.slice z.na z.nl z.nc,.slice z.ka z.kl z.kc] 64):=by
  have:=xL (put8 M w.heap.size (Er s M.heap.size)) (.cells #[iP j.k,.string j.tx,iP j.N,iP j.li,iP j.co,.slice j.ta j.tl j.tc,.slice j.na j.nl j.nc,.slice j.ka j.kl j.kc,iP z.k,.string z.tx,iP z.N,iP z.li,iP z.co,.slice z.ta z.tl z.tc,.slice z.na z.nl z.nc,.slice z.ka z.kl z.kc] 64);rw [Nt] at this;exact this
 exact(Dv ((I.o.n1.put8 (xU _) (Er s M.heap.size)).alloc _) ((I.o.n0.put8 (xU _) (Er s M.heap.size)).alloc _) hk I.o.sz (Er s M.heap.size) [] [] ⟨rfl,rfl⟩ ⟨rfl,xZ _,0,.inl rfl⟩ ⟨rfl,xZ _,.inl rfl⟩).lower (Nat.le_succ _)
def yO (ts:List Tok) (E:Nat->Pr Ty) (f a:Nat):Pr Ty :=
 if Zg ts a [125] then(B7 ts E f a).go fun l b => .inl (Zp 8 [] 0 0 0 [] (l.map (·.1)) (l.map (·.2)),b)
 else if (Zk ts a).kind == 1 && Zg ts (a+1) [58] then(B7 ts E f a).go fun l b => .inl (Zp 8 [] 0 0 0 [] (l.map (·.1)) (l.map (·.2)),b)
 else(E a).go fun x b=>(Ze ts b [119,105,116,104]).go fun _ b=>(Zu ts b).go fun s b=>(Ze ts b [58]).go fun _ b=>(E b).go fun y b=>(Ze ts b [125]).go fun _ b => .inl (Zp 10 s 0 0 0 [] [] [x,y],b)
theorem oL (pb tb cap d:Nat) (ts:List Tok) (E:Nat->Pr Ty) (A:Xs pb tb cap d ts Z6 92 E) (C:Ym ts) (a:Nat) (w:wD) (h:Ps w pb tb cap ts a d) :
  Calls prog 147 #[qP pb] w (Ya pb tb cap ts d w Z6 (yO ts E ts.length a)):=by
 unfold yO
 by_cases j:Zg ts a [125]=true
 ·rw [if_pos j]
  exact oN pb tb cap d ts E A C a j w h
 ·rw [if_neg j]
  by_cases z:((Zk ts a).kind == 1 && Zg ts (a+1) [58])=true
  ·rw [if_pos z]
   exact oM pb tb cap d ts E A C a (by simpa using j) z w h
  ·rw [if_neg z]
   exact oO pb tb cap d ts E A C a (by simpa using j) (by simpa using z) w h
end
namespace Lx
theorem Za {p:Prop} (h:p):xQ p:=h
theorem Dy {x y:Bool} (h:x=y):Ending.returned (.bool x) = .returned (.bool y):=by rw [h]
theorem wO (b:UInt8) (w:wD):Calls prog 47 #[.int .u8 b.toNat] w fun e w'=>e = .returned (.bool (Tw b))/\w'=w:=by
 have z:(b.toNat<65)∨(65<=b.toNat/\b.toNat<=90)∨(90<b.toNat/\b.toNat<95)∨b.toNat=95∨b.toNat=96∨(97<=b.toNat/\b.toNat<=122)∨122<b.toNat:=by omega
 unfold Tw
 generalize b.toNat=n at z ⊢
 rcases z with h | ⟨j,A⟩ | ⟨j,A⟩ | rfl | rfl | ⟨j,A⟩ | h
 ·have e:((n:Int) == 95)=false:=by simp; omega
  go_enter func47,ntmps47;go_wp2;go_ret;exact⟨Dy (by first | rfl | (simp; done) | (simp; omega) | (rw [Bool.eq_iff_iff]; simp; omega)),rfl⟩
 ·go_enter func47,ntmps47
  go_wp2;go_ret;exact⟨Dy (by first | rfl | (simp; done) | (simp; omega) | (rw [Bool.eq_iff_iff]; simp; omega)),rfl⟩
 ·have e:((n:Int) == 95)=false:=by simp; omega
  go_enter func47,ntmps47;go_wp2;go_ret;exact⟨Dy (by first | rfl | (simp; done) | (simp; omega) | (rw [Bool.eq_iff_iff]; simp; omega)),rfl⟩
 ·go_enter func47,ntmps47
  go_wp2;go_ret;exact⟨rfl,rfl⟩
 ·go_enter func47,ntmps47
  go_wp2;go_ret;exact⟨rfl,rfl⟩
 ·go_enter func47,ntmps47
  go_wp2;go_ret;exact⟨Dy (by first | rfl | (simp; done) | (simp; omega) | (rw [Bool.eq_iff_iff]; simp; omega)),rfl⟩
 ·have e:((n:Int) == 95)=false:=by simp; omega
  go_enter func47,ntmps47;go_wp2;go_ret;exact⟨Dy (by first | rfl | (simp; done) | (simp; omega) | (rw [Bool.eq_iff_iff]; simp; omega)),rfl⟩
theorem uA (b:UInt8) (w:wD):Calls prog 63 #[.int .u8 b.toNat] w fun e w'=>e = .returned (.bool (Xh b))/\w'=w:=by
 have j:(b.toNat<48)∨(48<=b.toNat/\b.toNat<=57)∨57<b.toNat:=by omega
 unfold Xh
 generalize b.toNat=n at j ⊢
 rcases j with h | ⟨h1,h2⟩ | h
 all_goals
  go_enter func63,ntmps63;go_wp2;go_ret;exact⟨Dy (by first | rfl | (simp; done) | (simp; omega) | (rw [Bool.eq_iff_iff]; simp; omega)),rfl⟩
theorem zca (b:UInt8) (w:wD):Calls prog 49 #[.int .u8 b.toNat] w fun e w'=>e = .returned (.bool (Xm b))/\w'=w:=by
 have s:=wO b
 have d:=uA b
 unfold Xm
 cases h1:Tw b
 ·rw [h1] at s
  have S:=Za s;have D:=Za d;clear h1 s d;go_enter func49,ntmps49;go_wp2_with fail;refine(S.o _).mono ?_;rintro e w' ⟨rfl,rfl⟩;go_wp2_with fail;refine(D.o _).mono ?_;rintro e w' ⟨rfl,rfl⟩;go_wp2;go_ret;exact⟨rfl,rfl⟩
 ·rw [h1] at s
  have S:=Za s;clear h1 s d;go_enter func49,ntmps49;go_wp2_with fail;refine(S.o _).mono ?_;rintro e w' ⟨rfl,rfl⟩;go_wp2;go_ret;exact⟨rfl,rfl⟩
theorem zer (b:UInt8) (w:wD):Calls prog 99 #[.int .u8 b.toNat] w fun e w'=>e = .returned (.bool (Br b))/\w'=w:=by
 unfold Br
 generalize b.toNat=n
 by_cases h:n=10
 ·subst h
  go_enter func99,ntmps99;go_wp2;go_ret;exact⟨rfl,rfl⟩
 ·have e:((n:Int) == 10)=false:=by simp; omega
  go_enter func99,ntmps99;go_wp2;go_ret;exact⟨Dy (by simp [h]; omega),rfl⟩
end Lx
end Go.Proofs.YtoppemkjhhlegaaGreatDoor
