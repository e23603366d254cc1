/- Part. -/
import Derived.Test.YtoppemkjhhlegaaGreatDoorPart12
set_option maxRecDepth 100000
set_option maxHeartbeats 4000000
namespace Go.Proofs.YtoppemkjhhlegaaGreatDoor
open Go.Proofs.Tryz
open Go.RowKit
attribute [local go_sem ↓] Go.wp_at_zero Go.wp_at_succ
abbrev dO (nm:bA) (ex:Bool) (vs:vL) (pm:bA) (tys:vL) (x:NV) (li co:Nat):Obj :=
 .cells #[.string nm,.bool ex,vs,.string pm,tys,iP x.k,.string x.tx,iP x.N,iP x.li,iP x.co,.slice x.ta x.tl x.tc,.slice x.na x.nl x.nc,.slice x.ka x.kl x.kc,iP li,iP co] 66
abbrev zDec:Obj := .cells #[sP,.bool false,nP,sP,nP,iP 0,sP,iP 0,iP 0,iP 0,nP,nP,nP,iP 0,iP 0] 66
structure Bw (pb tb cap d:Nat) (ts:List Tok) (w0 w:wD) (b db:Nat) (cs:List vL):Prop where
 st:Zl pb w0 w
 ps:Ps w pb tb cap ts b d
 hp:pb<w0.heap.size
 lo:w0.heap.size+1<=db
 res:w.heap[w0.heap.size]?=some zDec
 box:w.heap[db]?=some (.cells cs.toArray 66)
section
variable {pb tb cap d b b' db : Nat} {ts : List Tok} {w0 w w' : wD} {cs : List vL}
theorem Bw.step (h:Bw pb tb cap d ts w0 w b db cs) (j:Zl pb w w') (z:Ps w' pb tb cap ts b' d):Bw pb tb cap d ts w0 w' b' db cs where
 st:=h.st.trans j
 ps:=z
 hp:=h.hp
 lo:=h.lo
 res:=(j.keep _ h.hp (xB h.res)).trans h.res
 box:=(j.keep _ (by have:=h.hp; have:=h.lo; omega) (xB h.box)).trans h.box
theorem Bw.alloc (h:Bw pb tb cap d ts w0 w b db cs) (o:Obj):Bw pb tb cap d ts w0 (w.alloc o) b db cs:=h.step (Zl.of h.ps.ltp (Zq _ _)) (h.ps.alloc _)
theorem Bw.drew (h:Bw pb tb cap d ts w0 w b db cs):Bw pb tb cap d ts w0 w.drew b db cs:=⟨h.st.drew,h.ps.drew,h.hp,h.lo,h.res,h.box⟩
theorem Bw.set (h:Bw pb tb cap d ts w0 w b db cs) (o:Nat) (u:vL):Bw pb tb cap d ts w0 (w.setCell (aP db o) u) b db (cs.set o u) where
 st:=h.st.own h.hp (by have:=h.lo; omega) o u
 ps:=h.ps.other (by have:=h.hp; have:=h.lo; omega) o u
 hp:=h.hp
 lo:=h.lo
 res:=(xH (by show w0.heap.size≠db; have:=h.lo; omega)).trans h.res
 box:=by
  have j:=Y1 (o:=o) (u:=u) h.box
  simpa using j
end
def Jn (lo:Nat) (w:wD) (c:List vL) (D:Ty):Prop:=∃ (s:bS) (ex:Bool) (vs:List (bS×Ty)) (va:oA) (vc:Nat) (pm:bS) (ta:oA) (tc:Nat) (tys:List Ty) (x:NV) (B:Ty) (li co m:Nat),
 c=[uP s,.bool ex,.slice va vs.length vc,uP pm,.slice ta 2 tc,iP x.k,.string x.tx,iP x.N,iP x.li,iP x.co,.slice x.ta x.tl x.tc,.slice x.na x.nl x.nc,.slice x.ka x.kl x.kc,iP li,iP co] /\
 D=Mm s ex vs pm tys B li co/\vs.length<=8193/\tys.length=2/\K4 lo w va vs/\Qk w lo m ta tys/\Y0 lo w x B
def DecE (lo:Nat) (w:wD) (v:vL) (D:Ty):Prop:=∃ c:List vL,v = .agg c.toArray/\Jn lo w c D
theorem fB {lo g:Nat} {w:wD} {N F M A z I C H:vL} {D1 D2:Ty} {V:TypeId} (j:Yk lo w (.agg #[N,F,M,A]) D1) (J:Yk lo w (.agg #[z,I,C,H]) D2) (h:w.heap[g]?=some (.cells #[N,F,M,A,z,I,C,H] V)) (Y:lo<=g):∃ m,Qk w lo m (some (aP g 0)) [D1,D2]:=by
 obtain⟨Z,j⟩:=j
 obtain⟨O,J⟩:=J
 refine⟨max Z O,.inr ⟨g,0,rfl,Y,⟨_,_,h⟩,fun i T=>?_⟩⟩
 match i,T with
 | 0,_=>exact⟨N,F,M,A,by rw [cell_of_row _ _ _ _ _ _ h]; rfl,by rw [cell_of_row _ _ _ _ _ _ h]; rfl,by rw [cell_of_row _ _ _ _ _ _ h]; rfl,by rw [cell_of_row _ _ _ _ _ _ h]; rfl,Rf j (Nat.le_max_left _ _)⟩
 | 1,_=>exact⟨z,I,C,H,by rw [cell_of_row _ _ _ _ _ _ h]; rfl,by rw [cell_of_row _ _ _ _ _ _ h]; rfl,by rw [cell_of_row _ _ _ _ _ _ h]; rfl,by rw [cell_of_row _ _ _ _ _ _ h]; rfl,Rf J (Nat.le_max_right _ _)⟩
abbrev pC (w:wD) (b:Nat) (x:NV):wD:=(((((((w.setCell (aP b 5) (iP x.k)).setCell (aP b 6) (.string x.tx)).setCell (aP b 7) (iP x.N)).setCell (aP b 8) (iP x.li)).setCell (aP b 9) (iP x.co)).setCell (aP b 10) (.slice x.ta x.tl x.tc)).setCell (aP b 11) (.slice x.na x.nl x.nc)).setCell (aP b 12) (.slice x.ka x.kl x.kc)
theorem I7 (w:wD) (b:Nat) (x:NV):w.heap.size<=(pC w b x).heap.size:=by simp only [Yg]; exact xR
theorem I6 (w:wD) {b i:Nat} (x:NV) (h:i≠b):(pC w b x).heap[i]?=w.heap[i]?:=by
 unfold pC
 rw [xH h,xH h,xH h,xH h,xH h,xH h,xH h,xH h]
theorem zko {pb tb cap d:Nat} {ts:List Tok} {K:Nat->Pr Ty} (j:Xs pb tb cap d ts Yk 106 K) (z:Ym ts):Xs pb tb cap d ts VarE 89 (My ts K) where
 calls:=fun a w h=>zkq pb tb cap d ts K j z a w h
 enters:=fun w=>K8 func89 (by kernel_rfl) (by kernel_rfl) _ w
 up:=fun a x b h=>by
  unfold My at h
  cases hn:Zu ts a with
  | inr e=>rw [hn] at h; cases h
  | inl p =>
   obtain⟨s,c⟩:=p;have:=Eb hn;rw [hn] at h;replace h:(if Zg ts c [60,58] then(K (c+1)).go fun t b => .inl ((s,t),b)else .inl ((s,Y7 0 [] [] []),c)) = .inl (x,b):=h
   split at h
   ·cases hk:K (c+1)with
    | inr e=>rw [hk] at h; cases h
    | inl q =>
     have h2:=j.up _ _ _ hk;rw [hk] at h;injection h with h;injection h with _ h;omega
   ·injection h with h
    injection h with _ h;omega
theorem decl_c (pb tb cap:Nat) (ts:List Tok) (ok:Ym ts) (a:Nat) (w:wD) (h:Ps w pb tb cap ts a 0) :
  Calls prog 69 #[qP pb] w (Ya pb tb cap ts 0 w DecE (Ng ts a)):=by
 have H:=Za h
 have OK:=Za ok
 have hp:=h.ltp
 have Pn:=Za (fF pb tb cap 0 ts ok (xZ _))
 have C0:=Za (U2 h zDec)
 obtain⟨R,hR⟩:∃ R:Pr Ty,R=(Ng ts a):=⟨_,rfl⟩
 rw [<- hR]
 rw [mR] at hR
 obtain⟨ex,hex⟩:=xE (Zg ts a [101,120,112,111,114,116])
 have M2:=Za (fun wx hx=>Ta pb tb cap a 0 ts [101,120,112,111,114,116] wx hx ok)
 rw [<- hex] at hR M2
 generalize (if ex=true then a+1 else a)=a1 at hR M2
 obtain⟨K,hK⟩:=xE (Wg ts ts.length 101 0)
 rw [<- hK] at hR Pn
 have HVr:=Za (zko Pn.o ok)
 clear hK hex
 have Yc:=Za hR
 clear h ok hR
 go_enter func69,ntmps69
 go_wp2_with fail
 refine(M2.o _ C0.o.ps).mono ?_
 rintro e w1 ⟨rfl,j,T⟩
 have C1:=Za (C0.o.step j T)
 clear j T
 go_wp2_with fail
 have X1:xQ (Bw pb tb cap 0 ts w (w1.alloc (dO ⟨#[]⟩ ex nP ⟨#[]⟩ nP Zj 0 0)) a1 w1.heap.size [sP,.bool ex,nP,sP,nP,iP 0,sP,iP 0,iP 0,iP 0,nP,nP,nP,iP 0,iP 0]) :=
  ⟨(C1.o.alloc _).st,(C1.o.alloc _).ps,hp,C1.o.sz,(C1.o.alloc _).b1,(C1.o.alloc _).b0⟩
 obtain⟨db,N3⟩:=xE w1.heap.size
 rw [<- N3] at X1 ⊢
 refine(Uy pb tb cap a1 0 ts [102,110] _ X1.o.ps OK.o).mono ?_
 intro e w2 A
 rcases Yr A with⟨er,li,co,z,rfl,j⟩ | ⟨u,b2,v,z,rfl,j,T,hv⟩
 ·have HE:xQ (R = .inr (er,li,co)):=by rw [Yc.o,z]; exact rfl
  have HF:=Za (X1.o.st.trans j);clear z j A;go_wp2_with fail;exact⟨rfl,HF.o,by rw [HE.o]⟩
 obtain⟨t,ht⟩:=xE (Zk ts a1)
 have Yl:xQ (R=(Zu ts b2).go fun s b=>(Mp ts K ts.length b).go fun vs b=>(Ji ts K b).go fun h b=>(V1 ts K [58] b).go fun y b=>(Ze ts b [61]).go fun _ b=>(Vo ts ts.length 101 false 0 b).go fun x b=>(Ze ts b [59]).go fun _ b => .inl (Mm s ex vs h.1 [h.2,y.1] x t.line t.col,b)):=by rw [Yc.o,z,ht]; exact rfl
 rw [<- ht] at hv
 subst hv
 have X2:=Za ((X1.o.step j T).alloc (Z3 t))
 have HTb:xQ ((w2.alloc (Z3 t)).heap[w2.heap.size]?=some (Z3 t)):=xL _ _
 have HDl:xQ (db<w2.heap.size):=xB (X1.o.step j T).box
 clear z j T A ht X1 M2 C0 C1 Yc N3
 obtain⟨⟨k0,k1,k2,k3⟩,_,Z8⟩:=Yh HTb.o
 obtain⟨⟨c0,c1,c2,c3,c4,c5,c6,c7,c8,c9,c10,c11,c12,c13,c14⟩,⟨z0,z1,z2,z3,z4,z5,z6,z7,z8,z9,z10,z11,z12,z13,z14⟩,Xl⟩:=Qw X2.o.box
 have Z1:¬ w2.heap.size=db:=by have:=HDl.o; omega
 go_wp2_with fail
 go_region
 have X3:xQ (Bw pb tb cap 0 ts w (((w2.alloc (Z3 t)).setCell (aP db 13) (iP t.line)).setCell (aP db 14) (iP t.col)).drew b2 db [sP,.bool ex,nP,sP,nP,iP 0,sP,iP 0,iP 0,iP 0,nP,nP,nP,iP t.line,iP t.col]):=((X2.o.set 13 _).set 14 _).drew
 clear k0 k1 k2 k3 Z8 c0 c1 c2 c3 c4 c5 c6 c7 c8 c9 c10 c11 c12 c13 c14 z0 z1 z2 z3 z4 z5 z6 z7 z8 z9 z10 z11 z12 z13 z14 Xl Z1 X2 HTb
 generalize (((w2.alloc (Z3 t)).setCell (aP db 13) (iP t.line)).setCell (aP db 14) (iP t.col)).drew=W3 at X3 ⊢
 generalize w2.heap.size=tb2 at HDl ⊢
 go_wp2_with fail
 refine(Dx pb tb cap b2 0 ts _ X3.o.ps OK.o).mono ?_
 intro e w3 A
 rcases Yr A with⟨er,li,co,z,rfl,j⟩ | ⟨s,b3,v,z,rfl,j,T,hv⟩
 ·have HE:xQ (R = .inr (er,li,co)):=by rw [Yl.o,z]; exact rfl
  have HF:=Za (X3.o.st.trans j);clear z j A;go_wp2_with fail;exact⟨rfl,HF.o,by rw [HE.o]⟩
 have Zy:xQ (R=(Mp ts K ts.length b3).go fun vs b=>(Ji ts K b).go fun h b=>(V1 ts K [58] b).go fun y b=>(Ze ts b [61]).go fun _ b=>(Vo ts ts.length 101 false 0 b).go fun x b=>(Ze ts b [59]).go fun _ b => .inl (Mm s ex vs h.1 [h.2,y.1] x t.line t.col,b)):=by rw [Yl.o,z]; exact rfl
 subst hv
 have X4:=Za (X3.o.step j T)
 clear z j T A X3
 obtain⟨⟨c0,c1,c2,c3,c4,c5,c6,c7,c8,c9,c10,c11,c12,c13,c14⟩,⟨z0,z1,z2,z3,z4,z5,z6,z7,z8,z9,z10,z11,z12,z13,z14⟩,Xl⟩:=Qw X4.o.box
 go_wp2_with fail
 have X5:xQ (Bw pb tb cap 0 ts w (w3.setCell (aP db 0) (uP s)) b3 db [uP s,.bool ex,nP,sP,nP,iP 0,sP,iP 0,iP 0,iP 0,nP,nP,nP,iP t.line,iP t.col]):=X4.o.set 0 _
 clear c0 c1 c2 c3 c4 c5 c6 c7 c8 c9 c10 c11 c12 c13 c14 z0 z1 z2 z3 z4 z5 z6 z7 z8 z9 z10 z11 z12 z13 z14 Xl X4
 generalize w3.setCell (aP db 0) (uP s)=W5 at X5 ⊢
 have HT:=Za (Ta pb tb cap b3 0 ts [91] _ X5.o.ps OK.o)
 obtain⟨f,hf⟩:∃ f,ts.length=f+1:=⟨ts.length - 1,by have:=OK.o.pos; omega⟩
 cases hs:Zg ts b3 [91] with
 | false =>
  rw [hs,if_neg (by simp)] at HT
  have Xn:xQ (R=(Ji ts K b3).go fun h b=>(V1 ts K [58] b).go fun y b=>(Ze ts b [61]).go fun _ b=>(Vo ts ts.length 101 false 0 b).go fun x b=>(Ze ts b [59]).go fun _ b => .inl (Mm s ex [] h.1 [h.2,y.1] x t.line t.col,b)):=by rw [Zy.o,Mp,if_neg (by simp [hs])]; exact rfl
  clear hs;refine(HT.o).mono ?_;rintro e w6 ⟨rfl,j,T⟩;have X8:=Za (X5.o.step j T);clear j T HT X5 Zy Yl;have HVf:xQ (K4 (db+1) w6 none []) := .inl rfl;have Nc:xQ (([]:List (bS×Ty)).length<=8193):=xZ _;go_wp2_with fail;refine(bD pb tb cap 0 ts K Pn.o OK.o b3 _ X8.o.ps).mono ?_;intro e w9 A;rcases Yr A with⟨er,li,co,z,rfl,j⟩ | ⟨h,b6,v,z,rfl,j,T,hv⟩
  ·have HE:xQ (R = .inr (er,li,co)):=by rw [Xn.o,z]; exact rfl
   have HF:=Za (X8.o.st.trans j);clear z j A;go_wp2_with fail;exact⟨rfl,HF.o,by rw [HE.o]⟩
  have Wn:xQ (R=(V1 ts K [58] b6).go fun y b=>(Ze ts b [61]).go fun _ b=>(Vo ts ts.length 101 false 0 b).go fun x b=>(Ze ts b [59]).go fun _ b => .inl (Mm s ex [] h.1 [h.2,y.1] x t.line t.col,b)):=by rw [Xn.o,z]; exact rfl
  obtain⟨u9,rfl,hv⟩:=hv;obtain⟨k1,Z,na1,nl1,nc1,ka1,kl1,kc1,rfl⟩:=hv.cells;have hd8:=xB X8.o.box;have hd9:=j.size;have HT9:=Za ((hv.lower (show db+1<=w6.heap.size by omega)).alloc (Z7 k1 Z na1 nl1 nc1 ka1 kl1 kc1))
  have HV9:xQ (K4 (db+1) (w9.alloc (Z7 k1 Z na1 nl1 nc1 ka1 kl1 kc1)) none []):=Mq (Mq HVf.o j.size fun i hi hl=>j.keep i (by have:=X8.o.lo; omega) hl) (by simp) fun i _ hl=>xA hl
  have X9:=Za ((X8.o.step j T).alloc (Z7 k1 Z na1 nl1 nc1 ka1 kl1 kc1));have Gs:xQ ((w9.alloc (Z7 k1 Z na1 nl1 nc1 ka1 kl1 kc1)).heap[w9.heap.size]?=some (Z7 k1 Z na1 nl1 nc1 ka1 kl1 kc1)):=xL _ _
  have hg9:db<w9.heap.size:=by omega
  clear z j T A hv X8 HVf Xn hd8 hd9;go_wp2_with fail;generalize w9.alloc (Z7 k1 Z na1 nl1 nc1 ka1 kl1 kc1)=W9 at HT9 HV9 X9 Gs ⊢;generalize w9.heap.size=tb9 at Gs hg9 ⊢;refine(yM pb tb cap 0 ts [58] K Pn.o OK.o b6 _ X9.o.ps).mono ?_;intro e w10 A;rcases Yr A with⟨er,li,co,z,rfl,j⟩ | ⟨y,b7,v,z,rfl,j,T,hv⟩
  ·have HE:xQ (R = .inr (er,li,co)):=by rw [Wn.o,z]; exact rfl
   have HF:=Za (X9.o.st.trans j);clear z j A;go_wp2_with fail;exact⟨rfl,HF.o,by rw [HE.o]⟩
  have Pa:xQ (R=(Ze ts b7 [61]).go fun _ b=>(Vo ts ts.length 101 false 0 b).go fun x b=>(Ze ts b [59]).go fun _ b => .inl (Mm s ex [] h.1 [h.2,y.1] x t.line t.col,b)):=by rw [Wn.o,z]; exact rfl
  obtain⟨u10,rfl,hv⟩:=hv;obtain⟨k2,J,M,V,O,F,C,Y,rfl⟩:=hv.cells;have hd9:=xB X9.o.box;have ht9:=xB Gs.o;have hd10:=j.size;have Ox:=Za ((hv.lower (show db+1<=W9.heap.size by omega)).alloc (Z7 k2 J M V O F C Y));have Ow:=Za ((HT9.o.stay j (by have:=X9.o.lo; omega)).alloc (Z7 k2 J M V O F C Y))
  have Oy:xQ (K4 (db+1) (w10.alloc (Z7 k2 J M V O F C Y)) none []):=Mq (Mq HV9.o j.size fun i hi hl=>j.keep i (by have:=X9.o.lo; omega) hl) (by simp) fun i _ hl=>xA hl
  have Ev:xQ ((w10.alloc (Z7 k2 J M V O F C Y)).heap[tb9]?=some (Z7 k1 Z na1 nl1 nc1 ka1 kl1 kc1)):=(xA (by omega)).trans ((j.keep tb9 (by have:=X9.o.lo; omega) ht9).trans Gs.o);have Ar:xQ ((w10.alloc (Z7 k2 J M V O F C Y)).heap[w10.heap.size]?=some (Z7 k2 J M V O F C Y)):=xL _ _;have X10:=Za ((X9.o.step j T).alloc (Z7 k2 J M V O F C Y))
  have hg10:db<w10.heap.size:=by omega
  clear z j T A hv X9 HV9 Wn hd9 hd10 HT9 Gs;obtain⟨⟨p0,p1,p2,p3⟩,_,Ys⟩:=Yh Ev.o;obtain⟨⟨q0,q1,q2,q3⟩,_,Py⟩:=Yh Ar.o;obtain⟨⟨c0,c1,c2,c3,c4,c5,c6,c7,c8,c9,c10,c11,c12,c13,c14⟩,⟨z0,z1,z2,z3,z4,z5,z6,z7,z8,z9,z10,z11,z12,z13,z14⟩,Xl⟩:=Qw X10.o.box
  have Rz:¬ tb9=db:=by omega
  have vW:¬ w10.heap.size=db:=by omega
  go_wp2_with fail;clear p0 p1 p2 p3 Ys q0 q1 q2 q3 Py c0 c1 c2 c3 c4 c5 c6 c7 c8 c9 c10 c11 c12 c13 c14 z0 z1 z2 z3 z4 z5 z6 z7 z8 z9 z10 z11 z12 z13 z14 Xl;generalize w10.alloc (Z7 k2 J M V O F C Y)=W10 at Ox Ow Oy Ev Ar X10 ⊢;generalize w10.heap.size=tb10 at Ar hg10 vW ⊢;obtain⟨⟨p0,p1,p2,p3⟩,_,Ys⟩:=Yh Ev.o;obtain⟨⟨q0,q1,q2,q3⟩,_,Py⟩:=Yh Ar.o;obtain⟨⟨c0,c1,c2,c3,c4,c5,c6,c7,c8,c9,c10,c11,c12,c13,c14⟩,⟨z0,z1,z2,z3,z4,z5,z6,z7,z8,z9,z10,z11,z12,z13,z14⟩,Xl⟩:=Qw X10.o.box
  go_region;have X11:xQ (Bw pb tb cap 0 ts w (((W10.setCell (aP db 3) (uP h.1)).setCell (aP db 4) (lP W10.heap.size 2 2)).alloc (.cells #[iP k1,.string Z,.slice na1 nl1 nc1,.slice ka1 kl1 kc1,iP k2,.string J,.slice M V O,.slice F C Y] 94)).drew b7 db [uP s,.bool ex,nP,uP h.1,lP W10.heap.size 2 2,iP 0,sP,iP 0,iP 0,iP 0,nP,nP,nP,iP t.line,iP t.col]):=(((X10.o.set 3 _).set 4 _).alloc _).drew
  have J3:∀ (o:Obj) i,db+1<=i->i<W10.heap.size->(((W10.setCell (aP db 3) (uP h.1)).setCell (aP db 4) (lP W10.heap.size 2 2)).alloc o).drew.heap[i]?=W10.heap[i]?:=fun o i hi hl=>by
   rw [Iq,xA (by rw [Yg,Yg]; exact hl),xH (by show i≠db; omega),xH (by show i≠db; omega)]
  have Gd:∀ (o:Obj),W10.heap.size<=(((W10.setCell (aP db 3) (uP h.1)).setCell (aP db 4) (lP W10.heap.size 2 2)).alloc o).drew.heap.size:=fun o=>by rw [Iq,xS,Yg,Yg]; omega
  have hkr:∀ (o:Obj),(((W10.setCell (aP db 3) (uP h.1)).setCell (aP db 4) (lP W10.heap.size 2 2)).alloc o).drew.heap[W10.heap.size]?=some o:=fun o=>by
   have:=xL ((W10.setCell (aP db 3) (uP h.1)).setCell (aP db 4) (lP W10.heap.size 2 2)) o;rw [Yg,Yg] at this;exact this
  have Oz:=Za (Mq Oy.o (Gd _) (J3 (.cells #[iP k1,.string Z,.slice na1 nl1 nc1,.slice ka1 kl1 kc1,iP k2,.string J,.slice M V O,.slice F C Y] 94)));have Ex:=Za (fB (Ow.o.keep (Gd _) (J3 _)) (Ox.o.keep (Gd _) (J3 _)) (hkr (.cells #[iP k1,.string Z,.slice na1 nl1 nc1,.slice ka1 kl1 kc1,iP k2,.string J,.slice M V O,.slice F C Y] 94)) (show db+1<=W10.heap.size from Xl))
  clear J3 Gd hkr Oy Ow Ox Ev Ar X10 p0 p1 p2 p3 Ys q0 q1 q2 q3 Py c0 c1 c2 c3 c4 c5 c6 c7 c8 c9 c10 c11 c12 c13 c14 z0 z1 z2 z3 z4 z5 z6 z7 z8 z9 z10 z11 z12 z13 z14 Xl Rz vW hg10 hg9;generalize (((W10.setCell (aP db 3) (uP h.1)).setCell (aP db 4) (lP W10.heap.size 2 2)).alloc (.cells #[iP k1,.string Z,.slice na1 nl1 nc1,.slice ka1 kl1 kc1,iP k2,.string J,.slice M V O,.slice F C Y] 94)).drew=W11 at X11 Oz Ex ⊢
  generalize W10.heap.size=kb at X11 Ex ⊢;obtain⟨m,hki⟩:=Ex.o;have HKi:=Za hki;clear hki Ex;go_wp2_with fail;refine(Uy pb tb cap b7 0 ts [61] _ X11.o.ps OK.o).mono ?_;intro e w12 A;rcases Yr A with⟨er,li,co,z,rfl,j⟩ | ⟨u12,b8,v12,z,rfl,j,T,hv⟩
  ·have HE:xQ (R = .inr (er,li,co)):=by rw [Pa.o,z]; exact rfl
   have HF:=Za (X11.o.st.trans j);clear z j A;go_wp2_with fail;exact⟨rfl,HF.o,by rw [HE.o]⟩
  have Vz:xQ (R=(Vo ts ts.length 101 false 0 b8).go fun x b=>(Ze ts b [59]).go fun _ b => .inl (Mm s ex [] h.1 [h.2,y.1] x t.line t.col,b)):=by rw [Pa.o,z]; exact rfl
  have X12:=Za (X11.o.step j T);have HV12:=Za (Mq Oz.o j.size fun i hi hl=>j.keep i (by have:=X11.o.lo; omega) hl);have HK12:=Za (L4 HKi.o j.size fun i hi hl=>j.keep i (by have:=X11.o.lo; omega) hl);clear z j T A hv X11 Oz HKi Pa;go_wp2_with fail;refine(tW pb tb cap ts OK.o 101 0 rfl (by omega) b8 _ X12.o.ps).1.mono ?_;intro e w13 A;rcases Yr A with⟨er,li,co,z,rfl,j⟩ | ⟨B,b9,v13,z,rfl,j,T,x,rfl,hv⟩
  ·have HE:xQ (R = .inr (er,li,co)):=by rw [Vz.o,z]; exact rfl
   have HF:=Za (X12.o.st.trans j);clear z j A;go_wp2_with fail;exact⟨rfl,HF.o,by rw [HE.o]⟩
  have Se:xQ (R=(Ze ts b9 [59]).go fun _ b => .inl (Mm s ex [] h.1 [h.2,y.1] B t.line t.col,b)):=by rw [Vz.o,z]; exact rfl
  have X13:=Za (X12.o.step j T);have HV13:=Za (Mq HV12.o j.size fun i hi hl=>j.keep i (by have:=X12.o.lo; omega) hl);have HK13:=Za (L4 HK12.o j.size fun i hi hl=>j.keep i (by have:=X12.o.lo; omega) hl);have hd12:=xB X12.o.box;have HN13:=Za (hv.lower (show db+1<=w12.heap.size by omega));clear z j T A hv X12 HV12 HK12 Vz hd12;obtain⟨⟨c0,c1,c2,c3,c4,c5,c6,c7,c8,c9,c10,c11,c12,c13,c14⟩,⟨z0,z1,z2,z3,z4,z5,z6,z7,z8,z9,z10,z11,z12,z13,z14⟩,Xl⟩:=Qw X13.o.box
  go_wp2_with fail;have X14:xQ (Bw pb tb cap 0 ts w ((((((((w13.setCell (aP db 5) (iP x.k)).setCell (aP db 6) (.string x.tx)).setCell (aP db 7) (iP x.N)).setCell (aP db 8) (iP x.li)).setCell (aP db 9) (iP x.co)).setCell (aP db 10) (.slice x.ta x.tl x.tc)).setCell (aP db 11) (.slice x.na x.nl x.nc)).setCell (aP db 12) (.slice x.ka x.kl x.kc)) b9 db [uP s,.bool ex,nP,uP h.1,lP kb 2 2,iP x.k,.string x.tx,iP x.N,iP x.li,iP x.co,.slice x.ta x.tl x.tc,.slice x.na x.nl x.nc,.slice x.ka x.kl x.kc,iP t.line,iP t.col]):=(((((((X13.o.set 5 _).set 6 _).set 7 _).set 8 _).set 9 _).set 10 _).set 11 _).set 12 _
  have O0:xQ (K4 (db+1) ((((((((w13.setCell (aP db 5) (iP x.k)).setCell (aP db 6) (.string x.tx)).setCell (aP db 7) (iP x.N)).setCell (aP db 8) (iP x.li)).setCell (aP db 9) (iP x.co)).setCell (aP db 10) (.slice x.ta x.tl x.tc)).setCell (aP db 11) (.slice x.na x.nl x.nc)).setCell (aP db 12) (.slice x.ka x.kl x.kc)) none []):=Mq HV13.o (I7 w13 db x) fun i hi _=>I6 w13 x (show i≠db by omega)
  have Om:xQ (Qk ((((((((w13.setCell (aP db 5) (iP x.k)).setCell (aP db 6) (.string x.tx)).setCell (aP db 7) (iP x.N)).setCell (aP db 8) (iP x.li)).setCell (aP db 9) (iP x.co)).setCell (aP db 10) (.slice x.ta x.tl x.tc)).setCell (aP db 11) (.slice x.na x.nl x.nc)).setCell (aP db 12) (.slice x.ka x.kl x.kc)) (db+1) m (some (aP kb 0)) [h.2,y.1]):=L4 HK13.o (I7 w13 db x) fun i hi _=>I6 w13 x (show i≠db by omega)
  have Oo:xQ (Y0 (db+1) ((((((((w13.setCell (aP db 5) (iP x.k)).setCell (aP db 6) (.string x.tx)).setCell (aP db 7) (iP x.N)).setCell (aP db 8) (iP x.li)).setCell (aP db 9) (iP x.co)).setCell (aP db 10) (.slice x.ta x.tl x.tc)).setCell (aP db 11) (.slice x.na x.nl x.nc)).setCell (aP db 12) (.slice x.ka x.kl x.kc)) x B):=HN13.o.keep (I7 w13 db x) fun i hi _=>I6 w13 x (show i≠db by omega)
  clear c0 c1 c2 c3 c4 c5 c6 c7 c8 c9 c10 c11 c12 c13 c14 z0 z1 z2 z3 z4 z5 z6 z7 z8 z9 z10 z11 z12 z13 z14 Xl X13 HV13 HK13 HN13;generalize (((((((w13.setCell (aP db 5) (iP x.k)).setCell (aP db 6) (.string x.tx)).setCell (aP db 7) (iP x.N)).setCell (aP db 8) (iP x.li)).setCell (aP db 9) (iP x.co)).setCell (aP db 10) (.slice x.ta x.tl x.tc)).setCell (aP db 11) (.slice x.na x.nl x.nc)).setCell (aP db 12) (.slice x.ka x.kl x.kc)=W14 at X14 O0 Om Oo ⊢
  refine(Uy pb tb cap b9 0 ts [59] _ X14.o.ps OK.o).mono ?_;intro e w15 A;rcases Yr A with⟨er,li,co,z,rfl,j⟩ | ⟨u15,b10,v15,z,rfl,j,T,hv⟩
  ·have HE:xQ (R = .inr (er,li,co)):=by rw [Se.o,z]; exact rfl
   have HF:=Za (X14.o.st.trans j);clear z j A;go_wp2_with fail;exact⟨rfl,HF.o,by rw [HE.o]⟩
  have HR9:xQ (R = .inl (Mm s ex [] h.1 [h.2,y.1] B t.line t.col,b10)):=by rw [Se.o,z]; exact rfl
  have I:=Za (X14.o.step j T);have HV15:=Za (Mq O0.o j.size fun i hi hl=>j.keep i (by have:=X14.o.lo; omega) hl);have HK15:=Za (L4 Om.o j.size fun i hi hl=>j.keep i (by have:=X14.o.lo; omega) hl);have HN15:=Za (Oo.o.stay j (by have:=X14.o.lo; omega));clear z j T A hv X14 O0 Om Oo Se;obtain⟨⟨c0,c1,c2,c3,c4,c5,c6,c7,c8,c9,c10,c11,c12,c13,c14⟩,_,Xl⟩:=Qw I.o.box
  obtain⟨⟨r0,r1,r2,r3,r4,r5,r6,r7,r8,r9,r10,r11,r12,r13,r14⟩,⟨z0,z1,z2,z3,z4,z5,z6,z7,z8,z9,z10,z11,z12,z13,z14⟩,Xe⟩:=Qw I.o.res
  have Z1:¬ db=w.heap.size:=by have:=I.o.lo; omega
  go_wp2_with fail;rw [HR9.o];refine bodyPost_ret (results_cell_row rfl _ _ w.heap.size 66 _ (0,0) _ rfl (sL I.o.res _ _ _ _ _ _ _ _ _ _ _ _ _ _ _) underlying66 rfl (by kernel_rfl)) rfl ⟨rC I.o.st hp (xR) _ _ _ _ _ _ _ _ _ _ _ _ _ _ _,sK I.o.ps hp _ _ _ _ _ _ _ _ _ _ _ _ _ _ _,_,rfl,[_,_,_,_,_,_,_,_,_,_,_,_,_,_,_],rfl,s,ex,[],none,0,h.1,some (aP kb 0),2,[h.2,y.1],x,B,t.line,t.col,m,rfl,rfl,Nc.o,rfl,?_,?_,?_⟩
  ·exact tG (Mq HV15.o (Nat.le_of_eq (wG _ _ _ _ _ _ _ _ _ _ _ _ _ _ _).symm) fun i hi _=>wF (by have:=I.o.lo; omega) _ _ _ _ _ _ _ _ _ _ _ _ _ _ _) (by have:=I.o.lo; omega)
  ·exact zI (L4 HK15.o (Nat.le_of_eq (wG _ _ _ _ _ _ _ _ _ _ _ _ _ _ _).symm) fun i hi _=>wF (by have:=I.o.lo; omega) _ _ _ _ _ _ _ _ _ _ _ _ _ _ _) (by have:=I.o.lo; omega)
  ·exact(HN15.o.keep (Nat.le_of_eq (wG _ _ _ _ _ _ _ _ _ _ _ _ _ _ _).symm) fun i hi _=>wF (by have:=I.o.lo; omega) _ _ _ _ _ _ _ _ _ _ _ _ _ _ _).lower (by have:=I.o.lo; omega)
 | true =>
  rw [hs,if_pos rfl] at HT
  have Yz:xQ (R=(Z9 ts (My ts K) [44] (f+1) (b3+1)).go fun l b=>(Ze ts b [93]).go fun _ b=>(Ji ts K b).go fun h b=>(V1 ts K [58] b).go fun y b=>(Ze ts b [61]).go fun _ b=>(Vo ts ts.length 101 false 0 b).go fun x b=>(Ze ts b [59]).go fun _ b => .inl (Mm s ex l h.1 [h.2,y.1] x t.line t.col,b)):=by
   rw [Zy.o,Mp,if_pos hs,<- hf]
   cases Z9 ts (My ts K) [44] ts.length (b3+1)with
   | inr e=>rfl
   | inl p =>
    show Pr.go (Pr.go (Ze ts p.2 [93]) _) _=Pr.go (Ze ts p.2 [93]) _
    cases Ze ts p.2 [93] <;> rfl
  clear hs;refine(HT.o).mono ?_;rintro e w6 ⟨rfl,j,T⟩;have X6:=Za (X5.o.step j T);clear j T HT X5 Zy Yl;go_wp2_with fail;refine(zdk pb tb cap 0 ts [44] _ (My ts K) HVr.o f (b3+1) (by omega) _ X6.o.ps OK.o).mono ?_;intro e w7 A;rcases Yr A with⟨er,li,co,z,rfl,j⟩ | ⟨vs,b4,v,z,rfl,j,T,hv⟩
  ·have HE:xQ (R = .inr (er,li,co)):=by rw [Yz.o,z]; exact rfl
   have HF:=Za (X6.o.st.trans j);clear z j A;go_wp2_with fail;exact⟨rfl,HF.o,by rw [HE.o]⟩
  have HR35:xQ (R=(Ze ts b4 [93]).go fun _ b=>(Ji ts K b).go fun h b=>(V1 ts K [58] b).go fun y b=>(Ze ts b [61]).go fun _ b=>(Vo ts ts.length 101 false 0 b).go fun x b=>(Ze ts b [59]).go fun _ b => .inl (Mm s ex vs h.1 [h.2,y.1] x t.line t.col,b)):=by rw [Yz.o,z]; exact rfl
  have Nc:xQ (vs.length<=8193):=by have:=Cm _ z; have:=OK.o.len; show _<=_; omega
  obtain⟨va,vc,rfl,hvc,hvf⟩:=zkr hv;have hd6:=xB X6.o.box;have Sh:=Za (tG hvf (show db+1<=w6.heap.size by omega));have X7:=Za (X6.o.step j T);clear z j T A hv hvf X6 hd6 Yz;obtain⟨⟨c0,c1,c2,c3,c4,c5,c6,c7,c8,c9,c10,c11,c12,c13,c14⟩,⟨z0,z1,z2,z3,z4,z5,z6,z7,z8,z9,z10,z11,z12,z13,z14⟩,Xl⟩:=Qw X7.o.box;go_wp2_with fail;have X75:xQ (Bw pb tb cap 0 ts w (w7.setCell (aP db 2) (.slice va vs.length vc)) b4 db [uP s,.bool ex,.slice va vs.length vc,sP,nP,iP 0,sP,iP 0,iP 0,iP 0,nP,nP,nP,iP t.line,iP t.col]):=X7.o.set 2 _
  have HV75:xQ (K4 (db+1) (w7.setCell (aP db 2) (.slice va vs.length vc)) va vs):=Mq Sh.o (by rw [Yg]; exact xR) fun i hi _=>xH (by show i≠db; omega)
  clear c0 c1 c2 c3 c4 c5 c6 c7 c8 c9 c10 c11 c12 c13 c14 z0 z1 z2 z3 z4 z5 z6 z7 z8 z9 z10 z11 z12 z13 z14 Xl X7 Sh;generalize w7.setCell (aP db 2) (.slice va vs.length vc)=W75 at X75 HV75 ⊢;refine(Uy pb tb cap b4 0 ts [93] _ X75.o.ps OK.o).mono ?_;intro e w6 A;rcases Yr A with⟨er,li,co,z,rfl,j⟩ | ⟨u5,b5,v5,z,rfl,j,T,hv⟩
  ·have HE:xQ (R = .inr (er,li,co)):=by rw [HR35.o,z]; exact rfl
   have HF:=Za (X75.o.st.trans j);clear z j A;go_wp2_with fail;exact⟨rfl,HF.o,by rw [HE.o]⟩
  have Xn:xQ (R=(Ji ts K b5).go fun h b=>(V1 ts K [58] b).go fun y b=>(Ze ts b [61]).go fun _ b=>(Vo ts ts.length 101 false 0 b).go fun x b=>(Ze ts b [59]).go fun _ b => .inl (Mm s ex vs h.1 [h.2,y.1] x t.line t.col,b)):=by rw [HR35.o,z]; exact rfl
  have X8:=Za (X75.o.step j T)
  have HVf:xQ (K4 (db+1) w6 va vs):=Mq HV75.o j.size fun i hi hl=>j.keep i (by have:=X75.o.lo; omega) hl
  clear z j T A hv X75 HV75 HR35;go_wp2_with fail;refine(bD pb tb cap 0 ts K Pn.o OK.o b5 _ X8.o.ps).mono ?_;intro e w9 A;rcases Yr A with⟨er,li,co,z,rfl,j⟩ | ⟨h,b6,v,z,rfl,j,T,hv⟩
  ·have HE:xQ (R = .inr (er,li,co)):=by rw [Xn.o,z]; exact rfl
   have HF:=Za (X8.o.st.trans j);clear z j A;go_wp2_with fail;exact⟨rfl,HF.o,by rw [HE.o]⟩
  have Wn:xQ (R=(V1 ts K [58] b6).go fun y b=>(Ze ts b [61]).go fun _ b=>(Vo ts ts.length 101 false 0 b).go fun x b=>(Ze ts b [59]).go fun _ b => .inl (Mm s ex vs h.1 [h.2,y.1] x t.line t.col,b)):=by rw [Xn.o,z]; exact rfl
  obtain⟨u9,rfl,hv⟩:=hv;obtain⟨k1,Z,na1,nl1,nc1,ka1,kl1,kc1,rfl⟩:=hv.cells;have hd8:=xB X8.o.box;have hd9:=j.size;have HT9:=Za ((hv.lower (show db+1<=w6.heap.size by omega)).alloc (Z7 k1 Z na1 nl1 nc1 ka1 kl1 kc1))
  have HV9:xQ (K4 (db+1) (w9.alloc (Z7 k1 Z na1 nl1 nc1 ka1 kl1 kc1)) va vs):=Mq (Mq HVf.o j.size fun i hi hl=>j.keep i (by have:=X8.o.lo; omega) hl) (by simp) fun i _ hl=>xA hl
  have X9:=Za ((X8.o.step j T).alloc (Z7 k1 Z na1 nl1 nc1 ka1 kl1 kc1));have Gs:xQ ((w9.alloc (Z7 k1 Z na1 nl1 nc1 ka1 kl1 kc1)).heap[w9.heap.size]?=some (Z7 k1 Z na1 nl1 nc1 ka1 kl1 kc1)):=xL _ _
  have hg9:db<w9.heap.size:=by omega
  clear z j T A hv X8 HVf Xn hd8 hd9;go_wp2_with fail;generalize w9.alloc (Z7 k1 Z na1 nl1 nc1 ka1 kl1 kc1)=W9 at HT9 HV9 X9 Gs ⊢;generalize w9.heap.size=tb9 at Gs hg9 ⊢;refine(yM pb tb cap 0 ts [58] K Pn.o OK.o b6 _ X9.o.ps).mono ?_;intro e w10 A;rcases Yr A with⟨er,li,co,z,rfl,j⟩ | ⟨y,b7,v,z,rfl,j,T,hv⟩
  ·have HE:xQ (R = .inr (er,li,co)):=by rw [Wn.o,z]; exact rfl
   have HF:=Za (X9.o.st.trans j);clear z j A;go_wp2_with fail;exact⟨rfl,HF.o,by rw [HE.o]⟩
  have Pa:xQ (R=(Ze ts b7 [61]).go fun _ b=>(Vo ts ts.length 101 false 0 b).go fun x b=>(Ze ts b [59]).go fun _ b => .inl (Mm s ex vs h.1 [h.2,y.1] x t.line t.col,b)):=by rw [Wn.o,z]; exact rfl
  obtain⟨u10,rfl,hv⟩:=hv;obtain⟨k2,J,M,V,O,F,C,Y,rfl⟩:=hv.cells;have hd9:=xB X9.o.box;have ht9:=xB Gs.o;have hd10:=j.size;have Ox:=Za ((hv.lower (show db+1<=W9.heap.size by omega)).alloc (Z7 k2 J M V O F C Y));have Ow:=Za ((HT9.o.stay j (by have:=X9.o.lo; omega)).alloc (Z7 k2 J M V O F C Y))
  have Oy:xQ (K4 (db+1) (w10.alloc (Z7 k2 J M V O F C Y)) va vs):=Mq (Mq HV9.o j.size fun i hi hl=>j.keep i (by have:=X9.o.lo; omega) hl) (by simp) fun i _ hl=>xA hl
  have Ev:xQ ((w10.alloc (Z7 k2 J M V O F C Y)).heap[tb9]?=some (Z7 k1 Z na1 nl1 nc1 ka1 kl1 kc1)):=(xA (by omega)).trans ((j.keep tb9 (by have:=X9.o.lo; omega) ht9).trans Gs.o);have Ar:xQ ((w10.alloc (Z7 k2 J M V O F C Y)).heap[w10.heap.size]?=some (Z7 k2 J M V O F C Y)):=xL _ _;have X10:=Za ((X9.o.step j T).alloc (Z7 k2 J M V O F C Y))
  have hg10:db<w10.heap.size:=by omega
  clear z j T A hv X9 HV9 Wn hd9 hd10 HT9 Gs;obtain⟨⟨p0,p1,p2,p3⟩,_,Ys⟩:=Yh Ev.o;obtain⟨⟨q0,q1,q2,q3⟩,_,Py⟩:=Yh Ar.o;obtain⟨⟨c0,c1,c2,c3,c4,c5,c6,c7,c8,c9,c10,c11,c12,c13,c14⟩,⟨z0,z1,z2,z3,z4,z5,z6,z7,z8,z9,z10,z11,z12,z13,z14⟩,Xl⟩:=Qw X10.o.box
  have Rz:¬ tb9=db:=by omega
  have vW:¬ w10.heap.size=db:=by omega
  go_wp2_with fail;clear p0 p1 p2 p3 Ys q0 q1 q2 q3 Py c0 c1 c2 c3 c4 c5 c6 c7 c8 c9 c10 c11 c12 c13 c14 z0 z1 z2 z3 z4 z5 z6 z7 z8 z9 z10 z11 z12 z13 z14 Xl;generalize w10.alloc (Z7 k2 J M V O F C Y)=W10 at Ox Ow Oy Ev Ar X10 ⊢;generalize w10.heap.size=tb10 at Ar hg10 vW ⊢;obtain⟨⟨p0,p1,p2,p3⟩,_,Ys⟩:=Yh Ev.o;obtain⟨⟨q0,q1,q2,q3⟩,_,Py⟩:=Yh Ar.o;obtain⟨⟨c0,c1,c2,c3,c4,c5,c6,c7,c8,c9,c10,c11,c12,c13,c14⟩,⟨z0,z1,z2,z3,z4,z5,z6,z7,z8,z9,z10,z11,z12,z13,z14⟩,Xl⟩:=Qw X10.o.box
  go_region;have X11:xQ (Bw pb tb cap 0 ts w (((W10.setCell (aP db 3) (uP h.1)).setCell (aP db 4) (lP W10.heap.size 2 2)).alloc (.cells #[iP k1,.string Z,.slice na1 nl1 nc1,.slice ka1 kl1 kc1,iP k2,.string J,.slice M V O,.slice F C Y] 94)).drew b7 db [uP s,.bool ex,.slice va vs.length vc,uP h.1,lP W10.heap.size 2 2,iP 0,sP,iP 0,iP 0,iP 0,nP,nP,nP,iP t.line,iP t.col]):=(((X10.o.set 3 _).set 4 _).alloc _).drew
  have J3:∀ (o:Obj) i,db+1<=i->i<W10.heap.size->(((W10.setCell (aP db 3) (uP h.1)).setCell (aP db 4) (lP W10.heap.size 2 2)).alloc o).drew.heap[i]?=W10.heap[i]?:=fun o i hi hl=>by
   rw [Iq,xA (by rw [Yg,Yg]; exact hl),xH (by show i≠db; omega),xH (by show i≠db; omega)]
  have Gd:∀ (o:Obj),W10.heap.size<=(((W10.setCell (aP db 3) (uP h.1)).setCell (aP db 4) (lP W10.heap.size 2 2)).alloc o).drew.heap.size:=fun o=>by rw [Iq,xS,Yg,Yg]; omega
  have hkr:∀ (o:Obj),(((W10.setCell (aP db 3) (uP h.1)).setCell (aP db 4) (lP W10.heap.size 2 2)).alloc o).drew.heap[W10.heap.size]?=some o:=fun o=>by
   have:=xL ((W10.setCell (aP db 3) (uP h.1)).setCell (aP db 4) (lP W10.heap.size 2 2)) o;rw [Yg,Yg] at this;exact this
  have Oz:=Za (Mq Oy.o (Gd _) (J3 (.cells #[iP k1,.string Z,.slice na1 nl1 nc1,.slice ka1 kl1 kc1,iP k2,.string J,.slice M V O,.slice F C Y] 94)));have Ex:=Za (fB (Ow.o.keep (Gd _) (J3 _)) (Ox.o.keep (Gd _) (J3 _)) (hkr (.cells #[iP k1,.string Z,.slice na1 nl1 nc1,.slice ka1 kl1 kc1,iP k2,.string J,.slice M V O,.slice F C Y] 94)) (show db+1<=W10.heap.size from Xl))
  clear J3 Gd hkr Oy Ow Ox Ev Ar X10 p0 p1 p2 p3 Ys q0 q1 q2 q3 Py c0 c1 c2 c3 c4 c5 c6 c7 c8 c9 c10 c11 c12 c13 c14 z0 z1 z2 z3 z4 z5 z6 z7 z8 z9 z10 z11 z12 z13 z14 Xl Rz vW hg10 hg9;generalize (((W10.setCell (aP db 3) (uP h.1)).setCell (aP db 4) (lP W10.heap.size 2 2)).alloc (.cells #[iP k1,.string Z,.slice na1 nl1 nc1,.slice ka1 kl1 kc1,iP k2,.string J,.slice M V O,.slice F C Y] 94)).drew=W11 at X11 Oz Ex ⊢
  generalize W10.heap.size=kb at X11 Ex ⊢;obtain⟨m,hki⟩:=Ex.o;have HKi:=Za hki;clear hki Ex;go_wp2_with fail;refine(Uy pb tb cap b7 0 ts [61] _ X11.o.ps OK.o).mono ?_;intro e w12 A;rcases Yr A with⟨er,li,co,z,rfl,j⟩ | ⟨u12,b8,v12,z,rfl,j,T,hv⟩
  ·have HE:xQ (R = .inr (er,li,co)):=by rw [Pa.o,z]; exact rfl
   have HF:=Za (X11.o.st.trans j);clear z j A;go_wp2_with fail;exact⟨rfl,HF.o,by rw [HE.o]⟩
  have Vz:xQ (R=(Vo ts ts.length 101 false 0 b8).go fun x b=>(Ze ts b [59]).go fun _ b => .inl (Mm s ex vs h.1 [h.2,y.1] x t.line t.col,b)):=by rw [Pa.o,z]; exact rfl
  have X12:=Za (X11.o.step j T);have HV12:=Za (Mq Oz.o j.size fun i hi hl=>j.keep i (by have:=X11.o.lo; omega) hl);have HK12:=Za (L4 HKi.o j.size fun i hi hl=>j.keep i (by have:=X11.o.lo; omega) hl);clear z j T A hv X11 Oz HKi Pa;go_wp2_with fail;refine(tW pb tb cap ts OK.o 101 0 rfl (by omega) b8 _ X12.o.ps).1.mono ?_;intro e w13 A;rcases Yr A with⟨er,li,co,z,rfl,j⟩ | ⟨B,b9,v13,z,rfl,j,T,x,rfl,hv⟩
  ·have HE:xQ (R = .inr (er,li,co)):=by rw [Vz.o,z]; exact rfl
   have HF:=Za (X12.o.st.trans j);clear z j A;go_wp2_with fail;exact⟨rfl,HF.o,by rw [HE.o]⟩
  have Se:xQ (R=(Ze ts b9 [59]).go fun _ b => .inl (Mm s ex vs h.1 [h.2,y.1] B t.line t.col,b)):=by rw [Vz.o,z]; exact rfl
  have X13:=Za (X12.o.step j T);have HV13:=Za (Mq HV12.o j.size fun i hi hl=>j.keep i (by have:=X12.o.lo; omega) hl);have HK13:=Za (L4 HK12.o j.size fun i hi hl=>j.keep i (by have:=X12.o.lo; omega) hl);have hd12:=xB X12.o.box;have HN13:=Za (hv.lower (show db+1<=w12.heap.size by omega));clear z j T A hv X12 HV12 HK12 Vz hd12;obtain⟨⟨c0,c1,c2,c3,c4,c5,c6,c7,c8,c9,c10,c11,c12,c13,c14⟩,⟨z0,z1,z2,z3,z4,z5,z6,z7,z8,z9,z10,z11,z12,z13,z14⟩,Xl⟩:=Qw X13.o.box
  go_wp2_with fail;have X14:xQ (Bw pb tb cap 0 ts w ((((((((w13.setCell (aP db 5) (iP x.k)).setCell (aP db 6) (.string x.tx)).setCell (aP db 7) (iP x.N)).setCell (aP db 8) (iP x.li)).setCell (aP db 9) (iP x.co)).setCell (aP db 10) (.slice x.ta x.tl x.tc)).setCell (aP db 11) (.slice x.na x.nl x.nc)).setCell (aP db 12) (.slice x.ka x.kl x.kc)) b9 db [uP s,.bool ex,.slice va vs.length vc,uP h.1,lP kb 2 2,iP x.k,.string x.tx,iP x.N,iP x.li,iP x.co,.slice x.ta x.tl x.tc,.slice x.na x.nl x.nc,.slice x.ka x.kl x.kc,iP t.line,iP t.col]):=(((((((X13.o.set 5 _).set 6 _).set 7 _).set 8 _).set 9 _).set 10 _).set 11 _).set 12 _
  have O0:xQ (K4 (db+1) ((((((((w13.setCell (aP db 5) (iP x.k)).setCell (aP db 6) (.string x.tx)).setCell (aP db 7) (iP x.N)).setCell (aP db 8) (iP x.li)).setCell (aP db 9) (iP x.co)).setCell (aP db 10) (.slice x.ta x.tl x.tc)).setCell (aP db 11) (.slice x.na x.nl x.nc)).setCell (aP db 12) (.slice x.ka x.kl x.kc)) va vs):=Mq HV13.o (I7 w13 db x) fun i hi _=>I6 w13 x (show i≠db by omega)
  have Om:xQ (Qk ((((((((w13.setCell (aP db 5) (iP x.k)).setCell (aP db 6) (.string x.tx)).setCell (aP db 7) (iP x.N)).setCell (aP db 8) (iP x.li)).setCell (aP db 9) (iP x.co)).setCell (aP db 10) (.slice x.ta x.tl x.tc)).setCell (aP db 11) (.slice x.na x.nl x.nc)).setCell (aP db 12) (.slice x.ka x.kl x.kc)) (db+1) m (some (aP kb 0)) [h.2,y.1]):=L4 HK13.o (I7 w13 db x) fun i hi _=>I6 w13 x (show i≠db by omega)
  have Oo:xQ (Y0 (db+1) ((((((((w13.setCell (aP db 5) (iP x.k)).setCell (aP db 6) (.string x.tx)).setCell (aP db 7) (iP x.N)).setCell (aP db 8) (iP x.li)).setCell (aP db 9) (iP x.co)).setCell (aP db 10) (.slice x.ta x.tl x.tc)).setCell (aP db 11) (.slice x.na x.nl x.nc)).setCell (aP db 12) (.slice x.ka x.kl x.kc)) x B):=HN13.o.keep (I7 w13 db x) fun i hi _=>I6 w13 x (show i≠db by omega)
  clear c0 c1 c2 c3 c4 c5 c6 c7 c8 c9 c10 c11 c12 c13 c14 z0 z1 z2 z3 z4 z5 z6 z7 z8 z9 z10 z11 z12 z13 z14 Xl X13 HV13 HK13 HN13;generalize (((((((w13.setCell (aP db 5) (iP x.k)).setCell (aP db 6) (.string x.tx)).setCell (aP db 7) (iP x.N)).setCell (aP db 8) (iP x.li)).setCell (aP db 9) (iP x.co)).setCell (aP db 10) (.slice x.ta x.tl x.tc)).setCell (aP db 11) (.slice x.na x.nl x.nc)).setCell (aP db 12) (.slice x.ka x.kl x.kc)=W14 at X14 O0 Om Oo ⊢
  refine(Uy pb tb cap b9 0 ts [59] _ X14.o.ps OK.o).mono ?_;intro e w15 A;rcases Yr A with⟨er,li,co,z,rfl,j⟩ | ⟨u15,b10,v15,z,rfl,j,T,hv⟩
  ·have HE:xQ (R = .inr (er,li,co)):=by rw [Se.o,z]; exact rfl
   have HF:=Za (X14.o.st.trans j);clear z j A;go_wp2_with fail;exact⟨rfl,HF.o,by rw [HE.o]⟩
  have HR9:xQ (R = .inl (Mm s ex vs h.1 [h.2,y.1] B t.line t.col,b10)):=by rw [Se.o,z]; exact rfl
  have I:=Za (X14.o.step j T);have HV15:=Za (Mq O0.o j.size fun i hi hl=>j.keep i (by have:=X14.o.lo; omega) hl);have HK15:=Za (L4 Om.o j.size fun i hi hl=>j.keep i (by have:=X14.o.lo; omega) hl);have HN15:=Za (Oo.o.stay j (by have:=X14.o.lo; omega));clear z j T A hv X14 O0 Om Oo Se;obtain⟨⟨c0,c1,c2,c3,c4,c5,c6,c7,c8,c9,c10,c11,c12,c13,c14⟩,_,Xl⟩:=Qw I.o.box
  obtain⟨⟨r0,r1,r2,r3,r4,r5,r6,r7,r8,r9,r10,r11,r12,r13,r14⟩,⟨z0,z1,z2,z3,z4,z5,z6,z7,z8,z9,z10,z11,z12,z13,z14⟩,Xe⟩:=Qw I.o.res
  have Z1:¬ db=w.heap.size:=by have:=I.o.lo; omega
  go_wp2_with fail;rw [HR9.o];refine bodyPost_ret (results_cell_row rfl _ _ w.heap.size 66 _ (0,0) _ rfl (sL I.o.res _ _ _ _ _ _ _ _ _ _ _ _ _ _ _) underlying66 rfl (by kernel_rfl)) rfl ⟨rC I.o.st hp (xR) _ _ _ _ _ _ _ _ _ _ _ _ _ _ _,sK I.o.ps hp _ _ _ _ _ _ _ _ _ _ _ _ _ _ _,_,rfl,[_,_,_,_,_,_,_,_,_,_,_,_,_,_,_],rfl,s,ex,vs,va,vc,h.1,some (aP kb 0),2,[h.2,y.1],x,B,t.line,t.col,m,rfl,rfl,Nc.o,rfl,?_,?_,?_⟩
  ·exact tG (Mq HV15.o (Nat.le_of_eq (wG _ _ _ _ _ _ _ _ _ _ _ _ _ _ _).symm) fun i hi _=>wF (by have:=I.o.lo; omega) _ _ _ _ _ _ _ _ _ _ _ _ _ _ _) (by have:=I.o.lo; omega)
  ·exact zI (L4 HK15.o (Nat.le_of_eq (wG _ _ _ _ _ _ _ _ _ _ _ _ _ _ _).symm) fun i hi _=>wF (by have:=I.o.lo; omega) _ _ _ _ _ _ _ _ _ _ _ _ _ _ _) (by have:=I.o.lo; omega)
  ·exact(HN15.o.keep (Nat.le_of_eq (wG _ _ _ _ _ _ _ _ _ _ _ _ _ _ _).symm) fun i hi _=>wF (by have:=I.o.lo; omega) _ _ _ _ _ _ _ _ _ _ _ _ _ _ _).lower (by have:=I.o.lo; omega)
def K5 (ts:List Tok):Nat->Nat->Pr (List Ty)
 | 0,a=>Vj ts 7 a
 | f+1,a=>if Zg ts a [101,120,112,111,114,116] || Zg ts a [102,110] then(Ng ts a).go fun d b=>(K5 ts f b).go fun r b => .inl (d :: r,b)else .inl ([],a)
def I5 (ts:List Tok):Pr (List Ty×List Ty):=(L3 ts ts.length 0).go fun i a=>(K5 ts (ts.length+1) a).go fun d a => .inl ((i,d),a)
theorem aW {ts:List Tok} {a:Nat} {s:bS} (h:((Zk ts a).kind == 0)=true):Zg ts a s=false:=by
 have j:(Zk ts a).kind=0:=by simpa using h
 unfold Zg
 rw [j]
 rfl
theorem kO (ts:List Tok):∀ f a,K5 ts f a=Bc ts f a∨∃ l b,K5 ts f a = .inl (l,b)/\((Zk ts b).kind == 0)=false/\Bc ts f a=Vj ts 7 b
 | 0,a => .inl rfl
 | f+1,a=>by
  unfold K5 Bc
  cases hk:((Zk ts a).kind == 0)with
  | true =>
   rw [aW hk,aW hk];exact .inl rfl
  | false =>
   cases hs:(Zg ts a [101,120,112,111,114,116] || Zg ts a [102,110])with
   | false =>
    obtain⟨j,z⟩:=Bool.or_eq_false_iff.1 hs;refine .inr ⟨[],a,rfl,hk,?_⟩;rw [if_neg (by simp),mR,j,if_neg (by simp),Ze,z];rfl
   | true =>
    rw [if_pos rfl,if_neg (by simp)]
    cases hd:Ng ts a with
    | inr e=>exact .inl rfl
    | inl p =>
     obtain⟨d,b⟩:=p;show Pr.go (K5 ts f b) _=Pr.go (Bc ts f b) _∨∃ l c,Pr.go (K5 ts f b) _=_/\_/\Pr.go (Bc ts f b) _=_;rcases kO ts f b with h | ⟨l,c,j,z,A⟩
     ·exact .inl (by rw [h])
     ·exact .inr ⟨d :: l,c,by rw [j]; rfl,z,by rw [A]; rfl⟩
theorem dB (ts:List Tok):K7 ts (I5 ts)=K7 ts (Du ts):=by
 unfold I5 Du
 cases L3 ts ts.length 0 with
 | inr e=>rfl
 | inl p =>
  obtain⟨i,a⟩:=p;show K7 ts (Pr.go (K5 ts (ts.length+1) a) _)=K7 ts (Pr.go (Bc ts (ts.length+1) a) _);rcases kO ts (ts.length+1) a with h | ⟨l,b,z,A,j⟩
  ·rw [h]
  ·rw [z,j]
   show(if ((Zk ts b).kind == 0)=true then _ else _)=_;rw [A];rfl
theorem vZ {ts:List Tok} {f a:Nat} (h:Zg ts a [105,109,112,111,114,116]=true):L3 ts (f+1) a=(Bq ts a).go fun d b=>(L3 ts f b).go fun r b => .inl (d :: r,b):=by
 rw [L3,if_pos h,Bq,Ze,if_pos h]
 show Pr.go (Zu ts (a+1)) _=Pr.go (Pr.go (Zu ts (a+1)) _) _
 cases Zu ts (a+1)with
 | inr e=>rfl
 | inl p =>
  show Pr.go (Ze ts p.2 [58]) _=Pr.go (Pr.go (Ze ts p.2 [58]) _) _
  cases Ze ts p.2 [58] with
  | inr e=>rfl
  | inl q =>
   show Pr.go (Z9 ts (Zu ts) [44] ts.length q.2) _=Pr.go (Pr.go (Z9 ts (Zu ts) [44] ts.length q.2) _) _
   cases Z9 ts (Zu ts) [44] ts.length q.2 with
   | inr e=>rfl
   | inl r =>
    show Pr.go (Ze ts r.2 [59]) _=Pr.go (Pr.go (Ze ts r.2 [59]) _) _
    cases Ze ts r.2 [59] <;> rfl
def Eu (ts:List Tok) (R:Pr (List Ty×List Ty)) (acc:List Ty) (m b:Nat):Prop:=R=(L3 ts m b).go fun r c=>(K5 ts (ts.length+1) c).go fun d c => .inl ((acc ++ r,d),c)
def Et (ts:List Tok) (R:Pr (List Ty×List Ty)) (is acc:List Ty) (m b:Nat):Prop:=R=(K5 ts m b).go fun r c => .inl ((is,acc ++ r),c)
theorem iN (ts:List Tok):Eu ts (I5 ts) [] ts.length 0:=rfl
theorem iM {ts:List Tok} {R:Pr (List Ty×List Ty)} {acc:List Ty} {m b c:Nat} {D:Ty} (h:Eu ts R acc (m+1) b) (z:Zg ts b [105,109,112,111,114,116]=true) (j:Bq ts b = .inl (D,c)):Eu ts R (acc ++ [D]) m c:=by
 unfold Eu at h ⊢
 rw [h,vZ z,j]
 show Pr.go (Pr.go (L3 ts m c) _) _=_
 cases L3 ts m c with
 | inr e=>rfl
 | inl p =>
  show Pr.go (K5 ts (ts.length+1) p.2) _=Pr.go (K5 ts (ts.length+1) p.2) _;simp
theorem iL {ts:List Tok} {R:Pr (List Ty×List Ty)} {acc:List Ty} {m b:Nat} {e:Int×Nat×Nat} (h:Eu ts R acc (m+1) b) (z:Zg ts b [105,109,112,111,114,116]=true) (j:Bq ts b = .inr e):R = .inr e:=by
 rw [h,vZ z,j]
 rfl
theorem iK {ts:List Tok} {R:Pr (List Ty×List Ty)} {acc:List Ty} {m b:Nat} (h:Eu ts R acc (m+1) b) (j:Zg ts b [105,109,112,111,114,116]=false):Et ts R acc [] (ts.length+1) b:=by
 unfold Et
 rw [h,L3,if_neg (by simp [j])]
 simp [Pr.go]
theorem iJ {ts:List Tok} {R:Pr (List Ty×List Ty)} {is acc:List Ty} {m b c:Nat} {D:Ty} (h:Et ts R is acc (m+1) b) (z:(Zg ts b [101,120,112,111,114,116] || Zg ts b [102,110])=true) (j:Ng ts b = .inl (D,c)):Et ts R is (acc ++ [D]) m c:=by
 unfold Et at h ⊢
 rw [h,K5,if_pos z,j]
 show Pr.go (Pr.go (K5 ts m c) _) _=_
 cases K5 ts m c with
 | inr e=>rfl
 | inl p=>simp [Pr.go]
theorem iI {ts:List Tok} {R:Pr (List Ty×List Ty)} {is acc:List Ty} {m b:Nat} {e:Int×Nat×Nat} (h:Et ts R is acc (m+1) b) (z:(Zg ts b [101,120,112,111,114,116] || Zg ts b [102,110])=true) (j:Ng ts b = .inr e):R = .inr e:=by
 rw [h,K5,if_pos z,j]
 rfl
theorem iH {ts:List Tok} {R:Pr (List Ty×List Ty)} {is acc:List Ty} {m b:Nat} (h:Et ts R is acc (m+1) b) (j:(Zg ts b [101,120,112,111,114,116] || Zg ts b [102,110])=false):R = .inl ((is,acc),b):=by
 rw [h,K5,if_neg (by simp [j])]
 simp [Pr.go]
theorem m9 {ts:List Tok} {a:Nat}:Qn (a+1) (Bq ts a):=by
 unfold Bq
 exact Yv (Vv (Xy (xR) _) (Cw _ _)) fun _ _ h=>Yv (Am h) fun _ _ h=>Yv (Q9 h _) fun _ _ h=>Yv (zY (fun a x b h=>by rw [Eb h]; omega) _ h) fun _ _ h=>Yv (Q9 h _) fun _ _ h=>Xy h _
theorem eP {ts:List Tok} {K:Nat->Pr Ty} (j:∀ a x b,K a = .inl (x,b)->a<=b) {a c:Nat} (h:a<=c) (s:bS):Qn a (V1 ts K s c):=Vv (Yv (Q8 j (by omega)) fun _ _ h=>Xy h _) (Xy h _)
theorem kM {ts:List Tok} {a:Nat}:Qn (a+1) (Ng ts a):=by
 have j:∀ a x b,Wg ts ts.length 101 0 a = .inl (x,b)->a<=b:=fun a x b h=>zJ h
 rw [mR]
 refine Yv (Vv (Xy (by split <;> omega) _) (Cw _ _)) fun _ _ h=>Yv (Am h) fun _ _ h=>Yv (?_:Qn _ (Mp ts _ _ _)) fun _ _ h=>Yv (?_:Qn _ (Ji ts _ _)) fun _ _ h=>Yv (eP j h _) fun _ _ h=>Yv (Q9 h _) fun _ _ h=>Yv (Q8 (fun a x b h=>zB ts _ _ _ _ a x b h) h) fun _ _ h=>Yv (Q9 h _) fun _ _ h=>Xy h _
 ·refine Vv (Yv (zY (fun a x b h=>?_) _ (by omega)) fun _ _ h=>Yv (Q9 h _) fun _ _ h=>Xy h _) (Xy h _)
  exact(Yv (Am (xR)) fun _ _ h=>Vv (Yv (Q8 j (by omega)) fun _ _ h=>Xy h _) (Xy h _):Qn a (My ts _ a)) x b h
 ·exact Yv (Q9 h _) fun _ _ h=>Yv (Am h) fun _ _ h=>Yv (eP j h _) fun _ _ h=>Yv (Q9 h _) fun _ _ h=>Xy h _
theorem Cj:B5 Ky where
 keep:=fun h F I=>by
  obtain⟨s,l,na,nc,li,co,A,C,j,z⟩:=h;exact⟨s,l,na,nc,li,co,A,C,j,Ec z F I⟩
 lower:=fun h H=>by
  obtain⟨s,l,na,nc,li,co,A,C,j,z⟩:=h;exact⟨s,l,na,nc,li,co,A,C,j,xV z H⟩
theorem Ax:B5 Jn where
 keep:=fun h N Z=>by
  obtain⟨s,Y,vs,F,V,H,ta,M,tys,x,B,li,co,m,O,A,J,z,I,j,C⟩:=h;exact⟨s,Y,vs,F,V,H,ta,M,tys,x,B,li,co,m,O,A,J,z,Mq I N Z,L4 j N Z,C.keep N Z⟩
 lower:=fun h T=>by
  obtain⟨s,Y,vs,F,V,H,ta,M,tys,x,B,li,co,m,O,A,J,z,I,j,C⟩:=h;exact⟨s,Y,vs,F,V,H,ta,M,tys,x,B,li,co,m,O,A,J,z,tG I T,zI j T,C.lower T⟩
theorem gV:(prog.info? 68).map (fun i=>(i.zero,i.size,i.bytes))=some (some (.agg #[sP,nP,iP 0,iP 0]),4,56):=by kernel_rfl
theorem gT:(prog.info? 66).map (fun i=>(i.zero,i.size,i.bytes))=some (some (.agg #[sP,.bool false,nP,sP,nP,iP 0,sP,iP 0,iP 0,iP 0,nP,nP,nP,iP 0,iP 0]),15,224):=by kernel_rfl
def Tf {α:Type} (rep:Nat->wD->List vL->α->Prop) (k lo:Nat) (w:wD) (a:oA) (xs:List α):Prop:=xs=[]∨∃ g,a=some (aP g 0)/\lo<=g/\Hg w g /\
  ∀ i (hi:i<xs.length),∃ c:List vL,c.length=k/\(∀ j,j<k->w.cell? (aP g (i*k+j))=c[j]?)/\rep lo w c xs[i]
section
variable {α : Type} {rep : Nat -> wD -> List vL -> α -> Prop} {k lo lo' : Nat} {w w' : wD} {a : oA} {xs : List α}
theorem Ej (J:B5 rep) (h:Tf rep k lo w a xs) (j:lo'<=lo):Tf rep k lo' w a xs:=by
 rcases h with h | ⟨g,e,I,C,F⟩
 ·exact .inl h
 ·refine .inr ⟨g,e,Nat.le_trans j I,C,fun i z=>?_⟩
  obtain⟨c,H,M,A⟩:=F i z;exact⟨c,H,M,J.lower A j⟩
theorem L8 (M:B5 rep) (h:Tf rep k lo w a xs) (O:w.heap.size<=w'.heap.size) (A:∀ b,lo<=b->b<w.heap.size->w'.heap[b]?=w.heap[b]?):Tf rep k lo w' a xs:=by
 rcases h with h | ⟨g,e,F,J,I⟩
 ·exact .inl h
 ·obtain⟨cs,V,z⟩:=J
  have C:=A g F (xB z);refine .inr ⟨g,e,F,⟨cs,V,C.trans z⟩,fun i T=>?_⟩;obtain⟨c,H,Y,N⟩:=I i T;refine⟨c,H,fun j Z=>?_,M.keep N O A⟩;have:=Y j Z;unfold World.cell? at this ⊢;simp only at this ⊢;rw [C];exact this
end
def tO (lo:Nat) (w:wD) (v:vL) (x:List Ty×List Ty):Prop:=∃ ia ic da dc,v = .agg #[.slice ia x.1.length ic,.slice da x.2.length dc]/\x.1.length<=8193/\x.2.length<=8193/\Tf Ky 4 lo w ia x.1/\Tf Jn 15 lo w da x.2
theorem El {P:Program} {ops:Array Oper} {o:Oper} {a:Act} {w:wD} {K:Act->wD->Prop} {Q:Exit->Act->wD->Prop} {E:Prop}
  (hg:o.guard=none) (s x:Operand) (t:TypeId) (J:o.op=Op.call { callee:=Callee.builtin Builtin.append,args:=#[s,x],argTypes:=#[t,t] })
  (C:Nat) (e:TypeId) (i:TypeInfo) (z:vL) (size A:Nat) (ht:P.underlying t=some (.slice e)) (hi:P.info? e=some i) (hz:i.zero=some z)
  (H:i.size=size) (N:i.bytes=A) (O:z.cells.size=size) (T:0<size)
  (v:vL) (n:Nat) (xs:List vL) (hs:a.eval s=v) (Z:w.ownsRow C e size v n xs)
  (ad:Addr) (m c:Nat) (h:List vL) (hx:a.eval x = .slice (some ad) m c) (hl:h.length=m*size) (I:∀ j u,h[j]?=some u->w.cell? (ad.add j)=some u) (V:∀ u ∈ h,u.oneCell'=true)
  (M:n+m<=maxLen) (m8:(n+m)*A<=140737488355328) (F:C<=w.heap.size)
  (Y:∀ v' w',w'.ownsRow C e size v' (n+m) (xs ++ h)->w.grownBy w' v.ownBlock->(v'.ownBlock=v.ownBlock∨v'.ownBlock=some w.heap.size)->K (a.put o.dst v') w') :
  if Region.wanted o (yielded ops a.tmps)=true then Oper.wp P o a w K Q else E:=by
 have hw:Region.wanted o (yielded ops a.tmps)=true:=by simp [Region.wanted,hg]
 rw [if_pos hw]
 obtain⟨v',w',hr,h2,h3,_,h5⟩:=run_append_own_at (P:=P) w C t o.type e i z size A ht hi hz H N O T v n xs Z ad m c h hl I V M m8 F
 unfold Oper.wp
 simp [execOp,J,resolve,invoke,builtin,hs,hx,hr,Result.andThen]
 exact Y v' w' h2 h3 h5
abbrev modO (vi vd:vL):Obj := .cells #[vi,vd] 40
abbrev zMod:Obj:=modO nP nP
structure Ql (pb tb cap:Nat) (ts:List Tok) (w0 w:wD) (b:Nat) (vi vd:vL):Prop where
 st:Zl pb w0 w
 ps:Ps w pb tb cap ts b 0
 hp:pb<w0.heap.size
 res:w.heap[w0.heap.size]?=some zMod
 box:w.heap[w0.heap.size+1]?=some (modO vi vd)
section
variable {pb tb cap b b' : Nat} {ts : List Tok} {w0 w w' w4 : wD} {vi vd : vL} {g : Option Nat}
theorem Ql.lt (h:Ql pb tb cap ts w0 w b vi vd):w0.heap.size+2<=w.heap.size:=xB h.box
theorem Ql.step (h:Ql pb tb cap ts w0 w b vi vd) (j:Zl pb w w') (z:Ps w' pb tb cap ts b' 0):Ql pb tb cap ts w0 w' b' vi vd where
 st:=h.st.trans j
 ps:=z
 hp:=h.hp
 res:=(j.keep _ h.hp (xB h.res)).trans h.res
 box:=(j.keep _ (by have:=h.hp; omega) (xB h.box)).trans h.box
theorem Ql.below (h:Ql pb tb cap ts w0 w b vi vd) (j:Below w.heap.size w w'):Ql pb tb cap ts w0 w' b vi vd:=h.step (Zl.of h.ps.ltp j) (h.ps.below j)
theorem Ql.alloc (h:Ql pb tb cap ts w0 w b vi vd) (o:Obj):Ql pb tb cap ts w0 (w.alloc o) b vi vd:=h.below (Zq _ _)
theorem Ql.drew (h:Ql pb tb cap ts w0 w b vi vd):Ql pb tb cap ts w0 w.drew b vi vd:=⟨h.st.drew,h.ps.drew,h.hp,h.res,h.box⟩
theorem Ql.grown (h:Ql pb tb cap ts w0 w b vi vd) (z:w.grownBy w4 g) (j:∀ k,g=some k->w0.heap.size+2<=k):Ql pb tb cap ts w0 w4 b vi vd where
 st:=h.st.grown z h.hp fun k A=>by have:=j k A; omega
 ps:=h.ps.grown z fun k A=>by have:=j k A; have:=h.hp; omega
 hp:=h.hp
 res:=(z.block _ (xB h.res) (fun e=>by have:=j _ e.symm; omega)).trans h.res
 box:=(z.block _ (xB h.box) (fun e=>by have:=j _ e.symm; omega)).trans h.box
theorem Ql.set0 (h:Ql pb tb cap ts w0 w b vi vd) (u:vL):Ql pb tb cap ts w0 (w.setCell (aP (w0.heap.size+1) 0) u) b u vd where
 st:=h.st.own h.hp (by omega) 0 u
 ps:=h.ps.other (by have:=h.hp; omega) 0 u
 hp:=h.hp
 res:=(xH (by show w0.heap.size≠w0.heap.size+1; omega)).trans h.res
 box:=by
  have j:=Y1 (o:=0) (u:=u) h.box
  simpa using j
theorem Ql.set1 (h:Ql pb tb cap ts w0 w b vi vd) (u:vL):Ql pb tb cap ts w0 (w.setCell (aP (w0.heap.size+1) 1) u) b vi u where
 st:=h.st.own h.hp (by omega) 1 u
 ps:=h.ps.other (by have:=h.hp; omega) 1 u
 hp:=h.hp
 res:=(xH (by show w0.heap.size≠w0.heap.size+1; omega)).trans h.res
 box:=by
  have j:=Y1 (o:=1) (u:=u) h.box
  simpa using j
end
theorem Nd {W:wD} {b:Nat} {j z:vL} {t:TypeId} (h:W.heap[b]?=some (.cells #[j,z] t)):(W.cell? (aP b 0)=some j/\W.cell? (aP b 1)=some z)/\(W.frozen? (aP b 0)=false/\W.frozen? (aP b 1)=false)/\b<W.heap.size:=by
 refine⟨⟨?_,?_⟩,⟨?_,?_⟩,xB h⟩
 all_goals first | (rw [cell_of_row _ _ _ _ _ _ h]; rfl) | simp [World.frozen?,h]
theorem Mx {α:Type} {rep:Nat->wD->List vL->α->Prop} {B et k:Nat} {wx:wD} {v:vL} {cs:List (List vL)} {xs:List α} {q:Nat} {C:Option Nat} (h:Yq rep B et k C wx v cs xs) (hq:q<B) (o:Nat) (u:vL):Yq rep B et k C (wx.setCell (aP q o) u) v cs xs:=by
 have H:∀ b,B<=b->(wx.setCell (aP q o) u).heap[b]?=wx.heap[b]?:=fun b F=>xH (by show b≠q; omega)
 refine⟨h.len,h.each,?_,h.apart,fun r M=>?_,fun i J h2=>?_⟩
 ·obtain⟨O,j⟩:=h.ow
  refine⟨O,?_⟩;rcases j with j | ⟨g,cap,z,e,A,I,r⟩
  ·exact .inl j
  ·exact .inr ⟨g,cap,z,e,A,(H g A).trans I,r⟩
 ·rw [Yg]; exact h.olt r M
 ·obtain⟨Y,lo,m1,N,T,Z,V⟩:=h.made i J h2
  exact⟨Y,lo,m1,N,by rw [Yg]; exact T,fun b F hl=>(H b (by omega)).trans (Z b F hl),V⟩
theorem sM {w:wD} {b:Nat} {y0 y1:vL} {t:TypeId} (h:w.heap[b]?=some (.cells #[y0,y1] t)) (j z:vL):((w.setCell (aP b 0) j).setCell (aP b 1) z).heap[b]?=some (.cells #[j,z] t):=by
 have C:=Y1 (o:=0) (u:=j) h
 have A:=Y1 (o:=1) (u:=z) C
 simpa using A
end Go.Proofs.YtoppemkjhhlegaaGreatDoor
