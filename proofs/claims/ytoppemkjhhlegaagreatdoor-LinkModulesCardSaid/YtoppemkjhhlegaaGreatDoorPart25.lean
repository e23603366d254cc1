/- Part. -/
import Derived.Test.YtoppemkjhhlegaaGreatDoorPart24
set_option maxRecDepth 100000
set_option maxHeartbeats 4000000
namespace Go.Proofs.YtoppemkjhhlegaaGreatDoor
open Go.Proofs.Tryz
open Go.RowKit
namespace Lx
def wY (R:Lx) (rest:bS) (p:Nat×Nat) (acc:List Tok):Prop:=∃ r q,Vf false rest p.1 p.2=(r,q)/\Sl R r q.1 q.2 acc
theorem zcx {l:bS} (h:l.length<=65536):wY (Pz l) l (1,1) [] :=
 ⟨(Vf false l 1 1).1,(Vf false l 1 1).2,rfl,fN h rfl⟩
theorem zcw {R:Lx} {j:bS} {p:Nat×Nat} {acc:List Tok} {n:Nat} (h:wY R j p acc) (C:tJ j n):Sl R (j.drop n) (Fm (j.take n) p).1 (Fm (j.take n) p).2 acc:=by
 obtain⟨r,q,z,A⟩:=h
 rw [C.2 p] at z
 injection z with h1 h2
 rw [h1,h2]
 exact A
theorem zcy {R:Lx} {j t z:bS} {li co:Nat} {acc:List Tok} {k:Int} (h:Sl R j li co acc) (C:j≠[]) (A:U1 j = .tok k t z) (F:acc.length≠8192):wY R z (li,co+(j.length - z.length)) (acc ++ [⟨k,t,li,co⟩]) :=
 ⟨_,_,rfl,fO h C A F rfl⟩
theorem qC (S:bA) (k:Nat):(S.extract k S.size).data.toList=S.data.toList.drop k:=by
 rw [Il]
 exact List.take_of_length_le (by rw [List.length_drop,Wz]; omega)
theorem qD (S:bA) (k:Nat):(S.extract k S.size).size=S.size - k:=by
 rw [<- Wz,qC,List.length_drop,Wz]
theorem zfm {S:bA} {k m:Nat} (hm:k+m<S.size) (p:Nat×Nat):Fm ((S.data.toList.drop k).take (m+1)) p=wP (Fm ((S.data.toList.drop k).take m) p) S[k+m]:=by
 have h:m<(S.data.toList.drop k).length:=by rw [List.length_drop,Wz]; omega
 rw [List.take_succ_eq_append_getElem h,sG]
 have e:(S.data.toList.drop k)[m]=S[k+m]:=by
  rw [List.getElem_drop];rfl
 rw [e]
 rfl
structure Ia (w wr:wD) (v:vL) (acc:List Tok):Prop where
 dg:Jo wr w.heap.size 0 0 0
 bl:Below w.heap.size w wr
 ow:wr.ownsRow (w.heap.size+1) 121 4 v acc.length (tokCells acc)
 sz:w.heap.size<wr.heap.size
section
variable {w wr wr' : wD} {v : vL} {acc : List Tok}
theorem Ia.next (h:Ia w wr v acc) (j:Below wr.heap.size wr wr'):Ia w wr' v acc where
 dg:=by
  unfold Jo;rw [j.block _ h.sz];exact h.dg
 bl:=h.bl.trans (j.mono h.bl.size)
 ow:=by
  obtain⟨F,A⟩:=h.ow;refine⟨F,?_⟩;rcases A with A | ⟨g,cap,z,rfl,H,C,r⟩
  ·exact .inl A
  ·refine .inr ⟨g,cap,z,rfl,H,?_,r⟩
   rw [j.block g (xB C)];exact C
 sz:=xT h.sz j.size
theorem Ia.app (h:Ia w wr v acc) {F:Obj} {v':vL} {w1:wD} {t:Tok} (C:w1.ownsRow (w.heap.size+1) 121 4 v' (acc.length+1) (tokCells acc ++ Tok.cells t)) (z:(wr.alloc F).grownBy w1 v.ownBlock):Ia w w1 v' (acc ++ [t]):=by
 have A:=h.sz
 refine⟨?_,?_,?_,?_⟩
 ·unfold Jo
  rw [z.block _ (by simp; omega) (fun e=>by have:=(Ef h.ow _ e.symm).1; omega),xA A];exact h.dg
 ·refine(h.bl.alloc h.bl.size _).grown z (by have:=h.bl.size; simp; omega) fun j H=>?_
  have:=(Ef h.ow _ H).1;omega
 ·rw [List.length_append,eA]
  exact C
 ·have:=z.size
  simp at this;omega
end
theorem zjo (W:wD) (t:Tok) (h:TypeId) {n:Nat} (z:W.heap.size=n):∀ j u,(Tok.cells t)[j]?=some u->(W.alloc (.cells #[iP t.kind,uP t.text,iP t.line,iP t.col] h)).cell? ((aP n 0).add j)=some u:=by
 subst z
 exact pY W t h
theorem zda (S:bA) (hS:65536<S.size) (Df:S.size<=140737488351232) (w:wD) :
  Calls prog 54 #[.string S] w (LexPost w (.bad 2 1 1)):=by
 go_enter func54,ntmps54
 go_wp2
 refine bodyPost_ret (results_tmp_cell rfl _ rfl (xL w _) underlying47 Ik) rfl ?_
 exact⟨(Below.refl _ w).alloc (xR) _,rfl⟩
theorem zdb (S:bA) (hS:S.size<=65536) (w:wD) :
  Calls prog 54 #[.string S] w (LexPost w (Pz S.data.toList)):=by
 obtain⟨R,hR⟩:=xE (Pz S.data.toList)
 rw [<- hR]
 have Zb:xQ (wY R (S.data.toList.drop 0) (1,1) []):=by
  rw [hR,List.drop_zero];exact zcx (by rw [Wz]; exact hS)
 clear hR
 obtain⟨i0,hi,Xr,Xg,Xw⟩:=info_parts gY
 have vU:xQ (Ia w (w.alloc (.cells #[iP 0,iP 0,iP 0,iP 0] 47)) nP []) :=
  ⟨xL w _,Zq w _,World.ownsRow_nil _ _ _ _,by simp⟩
 go_enter func54,ntmps54
 go_wp2
 go_loopw [4,5,6,7] (fun v a b c wr=>∃ (k li co:Nat) (acc:List Tok),xQ (Ia w wr v acc)/\k<=S.size/\li<=k+1/\co<=k+1/\acc.length<=8192/\a=iP li/\b=iP co/\c=iP k/\xQ (wY R (S.data.toList.drop k) (li,co) acc)) (fun _ _ _ c _=>S.size - (intOf c).toNat)
 case atStart=>exact⟨0,1,1,[],vU,xZ _,by omega,by omega,by simp,rfl,rfl,rfl,Zb⟩
 case round =>
  clear vU Zb;obtain⟨k,li,co,acc,O,hk,Ge,hcol,Bf,rfl,rfl,rfl,V⟩:=hrel;obtain⟨a,cap,rfl⟩:=bB O.o.ow;have Dh:=oJ (S.extract k S.size) (by rw [qD]; omega);rw [qC] at Dh;have HBC:=Za Dh
  have kI:(k:Int)<=(S.size:Int):=by omega
  clear Dh;go_wp2_with fail;refine(HBC.o _).mono ?_;rintro e w' ⟨⟨n,rfl,F⟩,rfl⟩;have Yb:=F.1;rw [List.length_drop,Wz] at Yb;have D4:=Za (zcw V.o F);rw [List.drop_drop] at D4;clear F V HBC;go_wp2
  go_loop [5,6,9] (fun a b c=>∃ (m j c2:Nat),m<=n/\j<=k+m+1/\c2<=k+m+1/\c=iP ((k+m:Nat):Int)/\a=iP j/\b=iP c2/\xQ (Fm ((S.data.toList.drop k).take m) (li,co)=(j,c2))) (fun _ _ c=>k+n - (intOf c).toNat)
  case atStart=>exact⟨0,li,co,xZ _,by omega,by omega,rfl,rfl,rfl,rfl⟩
  case round =>
   obtain⟨m,j,c2,hm,Uo,Qd,rfl,rfl,rfl,T⟩:=hrel;by_cases hmn:m<n
   ·have hkm:k+m<S.size:=by omega
    have hI:(k:Int)+(m:Int)<(S.size:Int):=by omega
    have hJ:(k:Int)+(m:Int)<(k:Int)+(n:Int):=by omega
    have C:=zfm hkm (li,co);rw [T.o] at C;unfold wP at C;simp only at C;by_cases H:S[k+m].toNat=10
    ·have A:S[k+m]=10:=UInt8.toNat_inj.1 H
     rw [if_pos A] at C
     have p10:((S[k+m].toNat:Int) == 10)=true:=by simp; omega
     have Zx:=Za C;clear C A H;go_wp2;refine⟨⟨m+1,j+1,1,by omega,by omega,by omega,by go_num,by go_num,by go_num,Zx.o⟩,by simp [intOf]; omega⟩
    ·have A:¬ S[k+m]=10:=fun e=>H (by rw [e]; rfl)
     rw [if_neg A] at C
     have p10:((S[k+m].toNat:Int) == 10)=false:=by simp; omega
     have Zx:=Za C;clear C A H;go_wp2;refine⟨⟨m+1,j,c2+1,by omega,by omega,by omega,by go_num,by go_num,by go_num,Zx.o⟩,by simp [intOf]; omega⟩
   ·have hmn2:m=n:=by omega
    subst hmn2;rw [T.o] at D4;have I:xQ (Sl R (S.data.toList.drop (k+m)) j c2 acc):=D4.o
    have hJ:¬ (k:Int)+(m:Int)<(k:Int)+(m:Int):=by omega
    clear T D4;by_cases Zt:k+m<S.size
    ·have hI:¬ (S.size:Int)<=(k:Int)+(m:Int):=by omega
     have hI2:(k:Int)+(m:Int)<=(S.size:Int):=by omega
     have N:=zjp (S.extract (k+m) S.size) (by rw [qD]; omega) (by rw [qD]; omega);rw [qC] at N;have HTC:=Za N
     have Z:xQ (S.data.toList.drop (k+m)≠[]):=by
      rw [Ue S (k+m) Zt];exact List.cons_ne_nil _ _
     clear N;go_wp2_with fail;refine(HTC.o _).mono ?_;intro e w2 J;have HP:=Za J;clear J HTC
     cases Xv:U1 (S.data.toList.drop (k+m))with
     | inl x =>
      have J:=HP.o;rw [Xv] at J;obtain⟨Z5,hx,rfl⟩:=J;have Ru:=fK I.o Z.o Xv;have h:=O.o.next (Zz Z5 (Zq w2 (.cells #[iP 0,.string { data:=#[] },iP 0,iP 0] 121)));have Tk:=Za h.dg;have F:=Za h.bl;have g0:=h.dg.c 0 (by omega);have g1:=h.dg.c 1 (by omega);have g2:=h.dg.c 2 (by omega);have g3:=h.dg.c 3 (by omega);simp only [List.getD_cons_zero,List.getD_cons_succ] at g0 g1 g2 g3
      have z0:=h.dg.fz 0;have z1:=h.dg.fz 1;have z2:=h.dg.fz 2;have z3:=h.dg.fz 3
      have x0:(x == 0)=false:=by simpa using hx
      have x1:(x != 0)=true:=by simpa using hx
      subst Ru;clear Xv HP Z5 h I Z hx;go_wp2;refine bodyPost_ret (results_tmp_cell rfl _ rfl (Tk.o.set _ _ _) underlying47 Ik) rfl ?_;exact⟨Rp F.o _ _ _ _,rfl⟩
     | inr q =>
      obtain⟨Y,t,rest⟩:=q;have J:=HP.o;rw [Xv] at J;obtain⟨Z5,n2,hn0,Kl,A5,rfl⟩:=J;rw [qD] at Kl;rw [qC,List.drop_drop] at A5;have Ot:=Za A5;have Qu:=Za Xv;have Xa:=Za Z5;clear A5 Xv Z5 HP;by_cases zH:acc.length=8192
      ·have Kk:((acc.length:Int) == 8192)=true:=by simp; omega
       have Ru:=fM I.o Z.o Qu.o zH;have h:=O.o.next (Zz Xa.o (Zq w2 (.cells #[iP Y,uP t,iP 0,iP 0] 121)));have Tk:=Za h.dg;have F:=Za h.bl;have g0:=h.dg.c 0 (by omega);have g1:=h.dg.c 1 (by omega);have g2:=h.dg.c 2 (by omega);have g3:=h.dg.c 3 (by omega);simp only [List.getD_cons_zero,List.getD_cons_succ] at g0 g1 g2 g3;have z0:=h.dg.fz 0;have z1:=h.dg.fz 1;have z2:=h.dg.fz 2
       have z3:=h.dg.fz 3;subst Ru;clear h I Z Qu Ot zH;go_wp2;refine bodyPost_ret (results_tmp_cell rfl _ rfl (Tk.o.set _ _ _) underlying47 Ik) rfl ?_;exact⟨Rp F.o _ _ _ _,rfl⟩
      ·have Kk:((acc.length:Int) == 8192)=false:=by simp; omega
       have h:=Za (O.o.next (Zz Xa.o (Zq w2 (.cells #[iP Y,uP t,iP j,iP c2] 121))))
       go_wp2_with(at_builtin; refine wpList_append_own _ rfl (.tmp 76) (.tmp 78) 115 rfl (w.heap.size+1) 121 i0 _ 4 40 underlying115 hi Xr Xg Xw rfl (by decide) _ _ _ rfl (h.o.ow.alloc _) (aP _ 0) 1 1 (Tok.cells ⟨Y,t,j,c2⟩) rfl rfl (zjo _ ⟨Y,t,j,c2⟩ 121 (xS _ _)) (pZ _) (by unfold maxLen; omega) (by omega) (by have h1:=h.o.sz; rw [xS] at h1; rw [xS,xS]; omega) ?_)
       intro v' w3 Zr Zo _
       have hal2:acc.length+1<=8192:=by omega
       have HCO3:=Za (h.o.app (t:=⟨Y,t,j,c2⟩) Zr Zo);have V:=zcy I.o Z.o Qu.o zH;rw [Ot.o,List.length_drop,List.length_drop,Wz,show S.size - (k+m) - (S.size - (k+m+n2))=n2 from by omega] at V;have HHD:=Za V;clear Zr Zo V h I Z Qu Ot zH;go_wp2;refine⟨⟨k+m+n2,j,c2+n2,acc ++ [⟨Y,t,j,c2⟩],HCO3,by omega,by omega,by omega,by simp; omega,rfl,by go_num,by go_num,HHD⟩,by simp [intOf]; omega⟩
    ·have M:S.data.toList.drop (k+m)=[]:=List.drop_eq_nil_of_le (by rw [Wz]; omega)
     have Ly:=I.o;rw [M] at Ly;have HEND:=Za (fL Ly)
     have hI:(S.size:Int)<=(k:Int)+(m:Int):=by omega
     clear M Ly I
     go_wp2_with(at_builtin; refine wpList_append_own _ rfl (.tmp 44) (.tmp 48) 115 rfl (w.heap.size+1) 121 i0 _ 4 40 underlying115 hi Xr Xg Xw rfl (by decide) _ _ _ rfl (O.o.ow.alloc _) (aP _ 0) 1 1 (Tok.cells ⟨0,[],j,c2⟩) rfl rfl (pY _ ⟨0,[],j,c2⟩ 121) (pZ _) (by unfold maxLen; omega) (by omega) (by have:=O.o.sz; simp; omega) ?_)
     intro v' w3 Zr Zo _;have z:=O.o.app (t:=⟨0,[],j,c2⟩) Zr Zo;have Tk:=Za z.dg;have F:=Za z.bl
     obtain⟨g,cap',rfl⟩:∃ g cap',v'=lP g (acc.length+1) cap':=by
      rcases Zr.2 with⟨_,h0⟩ | ⟨g,cap',cur,h1,_⟩
      ·omega
      ·exact⟨g,cap',h1⟩
     have hgb:=(Ef Zr g rfl).1;have how:=Za z.ow;have g0:=z.dg.c 0 (by omega);have g1:=z.dg.c 1 (by omega);have g2:=z.dg.c 2 (by omega);have g3:=z.dg.c 3 (by omega);simp only [List.getD_cons_zero,List.getD_cons_succ] at g0 g1 g2 g3;have z0:=z.dg.fz 0;have z1:=z.dg.fz 1;have z2:=z.dg.fz 2;have z3:=z.dg.fz 3;clear Zr Zo z;go_wp2;refine bodyPost_ret (results_tmp_cell rfl _ rfl (Tk.o.set _ _ _) underlying47 Ik) rfl ?_
     rw [HEND.o];refine⟨Rp F.o _ _ _ _,g,cap',?_,?_⟩
     ·simp [diagA]
     ·have ho:=dZ how.o (show w.heap.size<=w.heap.size+1 by omega)
      rw [List.length_append] at ho ⊢
      have Z1:∀ o,(lP g (acc.length+1) cap').ownBlock≠some (aP w.heap.size o).block:=fun o e=>by
       simp [Value.ownBlock] at e;omega
      exact ownsRow_setCell_other (ownsRow_setCell_other (ownsRow_setCell_other (ownsRow_setCell_other ho (Z1 0) _) (Z1 1) _) (Z1 2) _) (Z1 3) _
theorem lexR_c (S:bA) (j:S.size<=140737488351232) (w:wD):Calls prog 54 #[.string S] w (LexPost w (Pz S.data.toList)):=by
 by_cases h:S.size<=65536
 ·exact zdb S h w
 ·rw [Pz,if_pos (by rw [Wz]; omega)]
  exact zda S (by omega) j w
end Lx
section
attribute [local go_sem ↓] Go.wp_at_zero Go.wp_at_succ
section
variable (ts : List Tok) (K E : Nat -> Pr Ty) (f a : Nat)
def Ii:Pr Ty:=(Zu ts a).go fun s b=>if Zg ts b [91] then(Z9 ts K [44] f (b+1)).go fun l b=>(Ze ts b [93]).go fun _ b => .inl (Zp 19 s 0 (Yj ts a) (Yi ts a) l [] [],b)else .inl (Zp 4 s 0 (Yj ts a) (Yi ts a) [] [] [],b)
def at7:Pr Ty:=if Zg ts a [123] then Aj ts E f a else Ii ts K f a
def at6:Pr Ty:=if Zg ts a [40] then(E (a+1)).go fun x b=>(Ze ts b [41]).go fun _ b => .inl (x,b)else at7 ts K E f a
def at5:Pr Ty:=if Zg ts a [112,114,105,110,116] then(Ze ts (a+1) [40]).go fun _ b=>(E b).go fun x b=>(Ze ts b [41]).go fun _ b => .inl (Zp 17 [] 0 (Yj ts a) (Yi ts a) [] [] [x],b)else at6 ts K E f a
def at4:Pr Ty:=if Zg ts a [114,101,97,100] then(Ze ts (a+1) [40]).go fun _ b=>(Ze ts b [41]).go fun _ b => .inl (Zp 18 [] 0 (Yj ts a) (Yi ts a) [] [] [],b)else at5 ts K E f a
def at3:Pr Ty:=if Zg ts a [110,117,108,108] then .inl (Zp 3 [] 0 (Yj ts a) (Yi ts a) [] [] [],a+1)else at4 ts K E f a
def at2:Pr Ty:=if Zg ts a [102,97,108,115,101] then .inl (Zp 2 [] 0 (Yj ts a) (Yi ts a) [] [] [],a+1)else at3 ts K E f a
def at1:Pr Ty:=if Zg ts a [116,114,117,101] then .inl (Zp 2 [] 1 (Yj ts a) (Yi ts a) [] [] [],a+1)else at2 ts K E f a
end
theorem RX.toNext {pb tb cap d a:Nat} {ts:List Tok} {w0 w:wD} {bx:List (Nat×Obj)} (h:RX pb tb cap ts w0 w d (.inl a) bx) (A:a+1<ts.length):RX pb tb cap ts w0 (w.setCell (aP pb 1) (iP ((a:Int)+1))) d (.inl (a+1)) bx:=by
 obtain⟨C,z⟩:=h.at_
 obtain rfl:a=C:=z.live a rfl
 refine⟨h.st.set 1 _,⟨a+1,z.setAt (b:=a+1) A⟩,h.hp,fun p j=>⟨(xH (by show p.1≠pb; have:=(h.has p j).2; have:=h.hp; omega)).trans (h.has p j).1,(h.has p j).2⟩⟩
theorem zgh (pb tb cap d:Nat) (ts:List Tok) (ok:Ym ts) (K E:Nat->Pr Ty) (f:Nat) (hf:ts.length<=f+1) (huK:∀ a x b,K a = .inl (x,b)->a<=b)
  (hK:∀ S w,Z2 w pb tb cap ts d S->Calls prog 73 #[qP pb] w (N0 pb tb cap ts d w (Zi K S)))
  (hE:∀ S w,Z2 w pb tb cap ts d S->Calls prog 61 #[qP pb] w (V0 pb tb cap ts d w (Zi E S)))
  (a:Nat)
  (hRec:∀ li co w,li=Yj ts a->co=Yi ts a->Z2 w pb tb cap ts d (.inl (a+1))->Calls prog 132 #[qP pb,(Yf 2 li co).val] w (V0 pb tb cap ts d w (Aj ts E (f+1) a)))
  (w:wD) (h:Z2 w pb tb cap ts d (.inl a)) :
  Calls prog 126 #[qP pb] w (V0 pb tb cap ts d w (Pt ts K E (f+1) a)):=by
 have T:=Za ok
 have HK:=Za hK
 have HE:=Za hE
 have HRec:=Za hRec
 have X0:=Za (Hb h Zj.obj)
 have hp:=h.ltp
 obtain⟨R,hR⟩:=xE (Pt ts K E (f+1) a)
 rw [<- hR]
 have HR:=Za hR
 clear h hR hRec hE
 go_enter func126,ntmps126
 go_wp2_with fail
 refine(zR pb tb cap d ts (.inl a) 2 _ X0.o.at_).mono ?_
 rintro e w1 ⟨li,co,rfl,Bl,C,F⟩
 have X1:=Za ((X0.o.step C F).alloc (Yf 2 li co).obj)
 obtain⟨hl,hc⟩:=Bl a rfl
 have V:=Za (And.intro hl hc)
 have Xq:=C.size
 rw [xS] at Xq
 clear C F Bl X0 hl hc
 obtain⟨nb,Vc⟩:=xE w1.heap.size
 rw [<- Vc] at X1 Xq
 obtain⟨a',ha⟩:=X1.o.at_
 obtain rfl:a=a':=ha.live a rfl
 have Bf:(a:Int)<(ts.length:Int):=by have:=ha.lt; omega
 have haL:=ha.lt
 obtain⟨t,ht⟩:=xE (Zk ts a)
 have HT:=Za ht
 have Ys:=ha.ltp
 have Ug:=Nat.lt_trans ha.tlt ha.ltp
 have HS:xQ (∀ W,Below (w1.alloc (Yf 2 li co).obj).heap.size (w1.alloc (Yf 2 li co).obj) W->W.cell? (aP pb 0)=some (lP tb ts.length cap)/\W.cell? (aP pb 1)=some (iP a)/\d4 W tb (a*4) (iP t.kind) (uP t.text) (iP t.line) (iP t.col)):=fun W hW=>by
  have I:=ha.below hW;rw [ht];obtain⟨q0,q1,q2,q3⟩:=I.toks a I.lt;exact⟨I.cells.1.1,I.cells.1.2.1,q0,q1,q2,q3⟩
 have Mf:=HS.o (w1.alloc (Yf 2 li co).obj).drew (Below.refl _ _).drew
 have Y5:xQ (∀ o,_):=fun o=>HS.o (((w1.alloc (Yf 2 li co).obj).alloc o).drew) (Zq _ o).drew
 have Ba:=Za Vc
 clear ha ht Vc Ys Ug
 go_wp2_with fail
 go_region_held (fun W=>W.cell? (aP pb 0)=some (lP tb ts.length cap)/\W.cell? (aP pb 1)=some (iP a)/\d4 W tb (a*4) (iP t.kind) (uP t.text) (iP t.line) (iP t.col)) (first | with_reducible assumption | with_reducible exact Y5.o _) (fail)
 obtain⟨W2,Qo⟩:=xE (((w1.alloc (.cells #[iP 2,sP,iP 0,iP li,iP co,nP,nP,nP] 64)).alloc (.cells #[iP t.kind,uP t.text,iP t.line,iP t.col] 121)).drew)
 rw [<- Qo]
 have X2:xQ (RX pb tb cap ts w W2 d (.inl a) [(nb+1,Z3 t),(nb,(Yf 2 li co).obj),(w.heap.size,Zj.obj)]):=by
  have I:=(X1.o.alloc (Z3 t)).drew;rw [xS,<- Ba.o] at I;rw [Qo];exact I
 rw [<- Ba.o]
 have hwn:w.heap.size<nb:=Xq
 clear Qo HS Y5 Mf X1 Ba
 obtain⟨⟨t0,t1,t2,t3⟩,_,Iw⟩:=Yh (X2.o.box (p:=(nb+1,Z3 t)) (by simp))
 have e0:W2.cell? (aP pb 3)=some (iP 0)/\W2.cell? (aP pb 1)=some (iP a)/\W2.frozen? (aP pb 1)=false:=by
  obtain⟨a2,Y⟩:=X2.o.at_;obtain rfl:a=a2:=Y.live a rfl;exact⟨Y.cells.1.2.2.2.1,Y.cells.1.2.1,Y.cells.2.1⟩
 obtain⟨e0,e1,e2⟩:=e0
 have hpl2:=X2.o.at_.ltp
 cases hk:(t.kind == 3)with
 | true =>
  have J:xQ (R = .inl (Zp 0 [] ((Ns t.text).getD 0) (Yj ts a) (Yi ts a) [] [] [],a+1)):=by
   rw [HR.o,HT.o];rw [HT.o] at hk;exact if_pos hk
  have Dn:a+1<ts.length:=T.o.ends a haL (by rw [<- HT.o]; intro h0; rw [h0] at hk; simp at hk)
  have ha9:a<8193:=by have:=T.o.len; omega
  have X3:=Za (X2.o.toNext Dn)
  have S3:(⟨t.text.toArray⟩:bA).size<=9223372036854775807:=by have:=T.o.txt a; rw [<- HT.o] at this; show t.text.toArray.size<=_; rw [List.size_toArray]; omega
  obtain⟨⟨n0,n1,n2,n3,n4,n5,n6,n7⟩,⟨g0,g1,Z,g3,g4,g5,g6,g7⟩,Yb⟩:=Zn (X2.o.box (p:=(nb,(Yf 2 li co).obj)) (by simp));obtain⟨⟨r0,r1,r2,r3,r4,r5,r6,r7⟩,⟨f0,f1,f2,f3,f4,f5,f6,f7⟩,Xe⟩:=Zn (X2.o.box (p:=(w.heap.size,Zj.obj)) (by simp))
  have Ub:¬ nb=w.heap.size:=by omega
  have Up:¬ w.heap.size=nb:=by omega
  obtain⟨v,hv⟩:=xE ((Ns t.text).getD 0);have HV:=Za hv
  have hpv:Cp (Ns (⟨t.text.toArray⟩:bA).data.toList) = .tuple #[iP v,.bool (Ns t.text).isSome]:=by rw [hv]; rfl
  have Sv:¬ pb=nb:=by omega
  have Cf:¬ nb=pb:=by omega
  have Ry:¬ pb=w.heap.size:=by omega
  have A4:¬ w.heap.size=pb:=by omega
  clear hv;go_wp2_with fail;refine(Lx.parseR_c ⟨t.text.toArray⟩ _ S3).mono ?_;rintro e w4 ⟨rfl,rfl⟩;rw [hpv];clear hpv;go_wp2_with fail;obtain⟨W3,Jb⟩:=xE (W2.setCell (aP pb 1) (iP ((a:Int)+1)));rw [<- Jb]
  have X3':xQ (RX pb tb cap ts w W3 d (.inl (a+1)) [(nb+1,Z3 t),(nb,(Yf 2 li co).obj),(w.heap.size,Zj.obj)]):=by rw [Jb]; exact X3.o
  clear Jb X2 X3;obtain⟨Wf,H⟩:=xE ((((((((((W3.setCell (aP nb 0) (iP 0)).setCell (aP nb 2) (iP v)).setCell (aP w.heap.size 0) (iP 0)).setCell (aP w.heap.size 1) sP).setCell (aP w.heap.size 2) (iP v)).setCell (aP w.heap.size 3) (iP li)).setCell (aP w.heap.size 4) (iP co)).setCell (aP w.heap.size 5) nP).setCell (aP w.heap.size 6) nP).setCell (aP w.heap.size 7) nP);rw [<- H]
  obtain⟨j,Xd,Tm⟩:Left pb tb cap ts w d (.inl (a+1)) w.heap.size nb W3 Wf ⟨0,⟨#[]⟩,v,li,co,none,0,0,none,0,0,none,0,0⟩ 0:=by rw [H]; exact qM (rb:=w.heap.size) X3'.o (by simp) (by omega) (by omega) 0 (iP 0) 2 (iP v) ⟨0,⟨#[]⟩,v,li,co,none,0,0,none,0,0,none,0,0⟩
  clear H;replace j:=Za j;refine Bt rfl rfl (j.o.box xM) rfl ⟨j.o.st,?_,⟨0,⟨#[]⟩,v,li,co,none,0,0,none,0,0,none,0,0⟩,rfl,fun D c e=>?_⟩
  ·rw [J.o]; exact j.o.at_
  ·rw [J.o] at e
   injection e with e;injection e with e _;rw [<- e,<- V.o.1,<- V.o.2]
   exact by rw [<- HV.o]; exact⟨1,[],[],[],rfl,⟨rfl,rfl,rfl⟩,⟨xZ _,xZ _,xZ _⟩,.inl rfl,.inl rfl,.inl rfl⟩
 | false =>
 cases Jc:(t.kind == 4)with
 | true =>
  have J:xQ (R = .inl (Zp 1 t.text 0 (Yj ts a) (Yi ts a) [] [] [],a+1)):=by
   rw [HR.o,HT.o];rw [HT.o] at hk Jc;unfold Pt;rw [if_neg (by rw [hk]; simp),if_pos Jc];exact rfl
  have Dn:a+1<ts.length:=T.o.ends a haL (by rw [<- HT.o]; intro h0; rw [h0] at Jc; simp at Jc)
  have ha9:a<8193:=by have:=T.o.len; omega
  have X3:=Za (X2.o.toNext Dn);obtain⟨⟨n0,n1,n2,n3,n4,n5,n6,n7⟩,⟨g0,g1,Z,g3,g4,g5,g6,g7⟩,Yb⟩:=Zn (X2.o.box (p:=(nb,(Yf 2 li co).obj)) (by simp));obtain⟨⟨r0,r1,r2,r3,r4,r5,r6,r7⟩,⟨f0,f1,f2,f3,f4,f5,f6,f7⟩,Xe⟩:=Zn (X2.o.box (p:=(w.heap.size,Zj.obj)) (by simp))
  have Ub:¬ nb=w.heap.size:=by omega
  have Up:¬ w.heap.size=nb:=by omega
  have Sv:¬ pb=nb:=by omega
  have Cf:¬ nb=pb:=by omega
  have Ry:¬ pb=w.heap.size:=by omega
  have A4:¬ w.heap.size=pb:=by omega
  have Ir:¬ nb+1=pb:=by omega
  have hne8:¬ nb+1=nb:=by omega
  go_wp2_with fail;obtain⟨W3,Jb⟩:=xE (W2.setCell (aP pb 1) (iP ((a:Int)+1)));rw [<- Jb]
  have X3':xQ (RX pb tb cap ts w W3 d (.inl (a+1)) [(nb+1,Z3 t),(nb,(Yf 2 li co).obj),(w.heap.size,Zj.obj)]):=by rw [Jb]; exact X3.o
  clear Jb X2 X3;obtain⟨Wf,H⟩:=xE ((((((((((W3.setCell (aP nb 0) (iP 1)).setCell (aP nb 1) (uP t.text)).setCell (aP w.heap.size 0) (iP 1)).setCell (aP w.heap.size 1) (uP t.text)).setCell (aP w.heap.size 2) (iP 0)).setCell (aP w.heap.size 3) (iP li)).setCell (aP w.heap.size 4) (iP co)).setCell (aP w.heap.size 5) nP).setCell (aP w.heap.size 6) nP).setCell (aP w.heap.size 7) nP);rw [<- H]
  obtain⟨j,Xd,Tm⟩:Left pb tb cap ts w d (.inl (a+1)) w.heap.size nb W3 Wf ⟨1,⟨t.text.toArray⟩,0,li,co,none,0,0,none,0,0,none,0,0⟩ 0:=by rw [H]; exact qM (rb:=w.heap.size) X3'.o (by simp) (by omega) (by omega) 0 (iP 1) 1 (uP t.text) ⟨1,⟨t.text.toArray⟩,0,li,co,none,0,0,none,0,0,none,0,0⟩
  clear H;replace j:=Za j;refine Bt rfl rfl (j.o.box xM) rfl ⟨j.o.st,?_,⟨1,⟨t.text.toArray⟩,0,li,co,none,0,0,none,0,0,none,0,0⟩,rfl,fun D c e=>?_⟩
  ·rw [J.o]; exact j.o.at_
  ·rw [J.o] at e
   injection e with e;injection e with e _;rw [<- e,<- V.o.1,<- V.o.2];exact⟨1,[],[],[],rfl,⟨rfl,rfl,rfl⟩,⟨xZ _,xZ _,xZ _⟩,.inl rfl,.inl rfl,.inl rfl⟩
 | false =>
 have Yl:xQ (R=at1 ts K E (f+1) a):=by
  rw [HR.o];rw [HT.o] at hk Jc;unfold Pt;rw [if_neg (by rw [hk]; simp),if_neg (by rw [Jc]; simp)];rfl
 have Bk:=hk
 go_wp2_with fail
 clear hk Bk Jc HR e0 t0 t1 t2 t3
 refine(Vi pb tb cap d ts (.inl a) [116,114,117,101] _ X2.o.at_ T.o).mono ?_
 rintro e M ⟨rfl,C,F⟩
 have X:=Za (X2.o.step C F)
 clear C F X2
 cases A:Y2 ts (.inl a) [116,114,117,101] with
 | true =>
  rw [A,if_pos rfl] at X
  have J:xQ (R = .inl (Zp 2 [] 1 (Yj ts a) (Yi ts a) [] [] [],a+1)):=by
   rw [Yl.o];exact if_pos A
  clear A Yl;replace X:xQ (RX pb tb cap ts w M d (.inl (a+1)) [(nb,(Yf 2 li co).obj),(w.heap.size,Zj.obj)]):=X.o.perm (by simp);obtain⟨⟨n0,n1,n2,n3,n4,n5,n6,n7⟩,⟨g0,g1,Z,g3,g4,g5,g6,g7⟩,Yb⟩:=Zn (X.o.box (p:=(nb,(Yf 2 li co).obj)) (by simp));obtain⟨⟨r0,r1,r2,r3,r4,r5,r6,r7⟩,⟨f0,f1,f2,f3,f4,f5,f6,f7⟩,Xe⟩:=Zn (X.o.box (p:=(w.heap.size,Zj.obj)) (by simp))
  have Ub:¬ nb=w.heap.size:=by omega
  have Up:¬ w.heap.size=nb:=by omega
  go_wp2_with fail;obtain⟨Wf,H⟩:=xE (((((((((M.setCell (aP nb 2) (iP 1)).setCell (aP w.heap.size 0) (iP 2)).setCell (aP w.heap.size 1) sP).setCell (aP w.heap.size 2) (iP 1)).setCell (aP w.heap.size 3) (iP li)).setCell (aP w.heap.size 4) (iP co)).setCell (aP w.heap.size 5) nP).setCell (aP w.heap.size 6) nP).setCell (aP w.heap.size 7) nP);rw [<- H]
  obtain⟨j,Xd,Tm⟩:Left pb tb cap ts w d (.inl (a+1)) w.heap.size nb M Wf ⟨2,⟨#[]⟩,1,li,co,none,0,0,none,0,0,none,0,0⟩ 0:=by rw [H]; exact J6 (rb:=w.heap.size) X.o (by simp) (by omega) (by omega) 2 (iP 1) ⟨2,⟨#[]⟩,1,li,co,none,0,0,none,0,0,none,0,0⟩
  clear H;replace j:=Za j;refine Bt rfl rfl (j.o.box xM) rfl ⟨j.o.st,?_,⟨2,⟨#[]⟩,1,li,co,none,0,0,none,0,0,none,0,0⟩,rfl,fun D c e=>?_⟩
  ·rw [J.o]; exact j.o.at_
  ·rw [J.o] at e
   injection e with e;injection e with e _;rw [<- e,<- V.o.1,<- V.o.2];exact⟨1,[],[],[],rfl,⟨rfl,rfl,rfl⟩,⟨xZ _,xZ _,xZ _⟩,.inl rfl,.inl rfl,.inl rfl⟩
 | false =>
 rw [A,if_neg (by simp)] at X
 have Zy:xQ (R=at2 ts K E (f+1) a):=by
  rw [Yl.o];exact if_neg (by rw [show Zg ts a [116,114,117,101]=false from A]; simp)
 clear A Yl
 obtain⟨W10,Io⟩:=xE M
 subst Io
 have X10:=X
 clear X
 go_wp2_with fail
 refine(Vi pb tb cap d ts (.inl a) [102,97,108,115,101] _ X10.o.at_ T.o).mono ?_
 rintro e M ⟨rfl,C,F⟩
 have X:=Za (X10.o.step C F)
 clear C F X10
 cases A:Y2 ts (.inl a) [102,97,108,115,101] with
 | true =>
  rw [A,if_pos rfl] at X
  have J:xQ (R = .inl (Zp 2 [] 0 (Yj ts a) (Yi ts a) [] [] [],a+1)):=by
   rw [Zy.o];exact if_pos A
  clear A Zy;replace X:xQ (RX pb tb cap ts w M d (.inl (a+1)) [(nb,(Yf 2 li co).obj),(w.heap.size,Zj.obj)]):=X.o.perm (by simp);obtain⟨⟨n0,n1,n2,n3,n4,n5,n6,n7⟩,⟨g0,g1,Z,g3,g4,g5,g6,g7⟩,Yb⟩:=Zn (X.o.box (p:=(nb,(Yf 2 li co).obj)) (by simp));obtain⟨⟨r0,r1,r2,r3,r4,r5,r6,r7⟩,⟨f0,f1,f2,f3,f4,f5,f6,f7⟩,Xe⟩:=Zn (X.o.box (p:=(w.heap.size,Zj.obj)) (by simp))
  have Ub:¬ nb=w.heap.size:=by omega
  have Up:¬ w.heap.size=nb:=by omega
  go_wp2_with fail;obtain⟨Wf,H⟩:=xE ((((((((M.setCell (aP w.heap.size 0) (iP 2)).setCell (aP w.heap.size 1) sP).setCell (aP w.heap.size 2) (iP 0)).setCell (aP w.heap.size 3) (iP li)).setCell (aP w.heap.size 4) (iP co)).setCell (aP w.heap.size 5) nP).setCell (aP w.heap.size 6) nP).setCell (aP w.heap.size 7) nP);rw [<- H]
  obtain⟨j,Xd,Tm⟩:Left pb tb cap ts w d (.inl (a+1)) w.heap.size nb M Wf ⟨2,⟨#[]⟩,0,li,co,none,0,0,none,0,0,none,0,0⟩ 0:=by rw [H]; exact I0 (rb:=w.heap.size) X.o (by simp) nb ⟨2,⟨#[]⟩,0,li,co,none,0,0,none,0,0,none,0,0⟩
  clear H;replace j:=Za j;refine Bt rfl rfl (j.o.box xM) rfl ⟨j.o.st,?_,⟨2,⟨#[]⟩,0,li,co,none,0,0,none,0,0,none,0,0⟩,rfl,fun D c e=>?_⟩
  ·rw [J.o]; exact j.o.at_
  ·rw [J.o] at e
   injection e with e;injection e with e _;rw [<- e,<- V.o.1,<- V.o.2];exact⟨1,[],[],[],rfl,⟨rfl,rfl,rfl⟩,⟨xZ _,xZ _,xZ _⟩,.inl rfl,.inl rfl,.inl rfl⟩
 | false =>
 rw [A,if_neg (by simp)] at X
 have Yz:xQ (R=at3 ts K E (f+1) a):=by
  rw [Zy.o];exact if_neg (by rw [show Zg ts a [102,97,108,115,101]=false from A]; simp)
 clear A Zy
 obtain⟨W11,hW11⟩:=xE M
 subst hW11
 have X11:=X
 clear X
 go_wp2_with fail
 refine(Vi pb tb cap d ts (.inl a) [110,117,108,108] _ X11.o.at_ T.o).mono ?_
 rintro e M ⟨rfl,C,F⟩
 have X:=Za (X11.o.step C F)
 clear C F X11
 cases A:Y2 ts (.inl a) [110,117,108,108] with
 | true =>
  rw [A,if_pos rfl] at X
  have J:xQ (R = .inl (Zp 3 [] 0 (Yj ts a) (Yi ts a) [] [] [],a+1)):=by
   rw [Yz.o];exact if_pos A
  clear A Yz;replace X:xQ (RX pb tb cap ts w M d (.inl (a+1)) [(nb,(Yf 2 li co).obj),(w.heap.size,Zj.obj)]):=X.o.perm (by simp);obtain⟨⟨n0,n1,n2,n3,n4,n5,n6,n7⟩,⟨g0,g1,Z,g3,g4,g5,g6,g7⟩,Yb⟩:=Zn (X.o.box (p:=(nb,(Yf 2 li co).obj)) (by simp));obtain⟨⟨r0,r1,r2,r3,r4,r5,r6,r7⟩,⟨f0,f1,f2,f3,f4,f5,f6,f7⟩,Xe⟩:=Zn (X.o.box (p:=(w.heap.size,Zj.obj)) (by simp))
  have Ub:¬ nb=w.heap.size:=by omega
  have Up:¬ w.heap.size=nb:=by omega
  go_wp2_with fail;obtain⟨Wf,H⟩:=xE (((((((((M.setCell (aP nb 0) (iP 3)).setCell (aP w.heap.size 0) (iP 3)).setCell (aP w.heap.size 1) sP).setCell (aP w.heap.size 2) (iP 0)).setCell (aP w.heap.size 3) (iP li)).setCell (aP w.heap.size 4) (iP co)).setCell (aP w.heap.size 5) nP).setCell (aP w.heap.size 6) nP).setCell (aP w.heap.size 7) nP);rw [<- H]
  obtain⟨j,Xd,Tm⟩:Left pb tb cap ts w d (.inl (a+1)) w.heap.size nb M Wf ⟨3,⟨#[]⟩,0,li,co,none,0,0,none,0,0,none,0,0⟩ 0:=by rw [H]; exact J6 (rb:=w.heap.size) X.o (by simp) (by omega) (by omega) 0 (iP 3) ⟨3,⟨#[]⟩,0,li,co,none,0,0,none,0,0,none,0,0⟩
  clear H;replace j:=Za j;refine Bt rfl rfl (j.o.box xM) rfl ⟨j.o.st,?_,⟨3,⟨#[]⟩,0,li,co,none,0,0,none,0,0,none,0,0⟩,rfl,fun D c e=>?_⟩
  ·rw [J.o]; exact j.o.at_
  ·rw [J.o] at e
   injection e with e;injection e with e _;rw [<- e,<- V.o.1,<- V.o.2];exact⟨1,[],[],[],rfl,⟨rfl,rfl,rfl⟩,⟨xZ _,xZ _,xZ _⟩,.inl rfl,.inl rfl,.inl rfl⟩
 | false =>
 rw [A,if_neg (by simp)] at X
 have Xn:xQ (R=at4 ts K E (f+1) a):=by
  rw [Yz.o];exact if_neg (by rw [show Zg ts a [110,117,108,108]=false from A]; simp)
 clear A Yz
 obtain⟨W12,hW12⟩:=xE M
 subst hW12
 have X12:=X
 clear X
 go_wp2_with fail
 refine(Vi pb tb cap d ts (.inl a) [114,101,97,100] _ X12.o.at_ T.o).mono ?_
 rintro e M ⟨rfl,C,F⟩
 have X:=Za (X12.o.step C F)
 clear C F X12
 cases A:Y2 ts (.inl a) [114,101,97,100] with
 | true =>
  rw [A,if_pos rfl] at X
  have J:xQ (R=(Ze ts (a+1) [40]).go fun _ b=>(Ze ts b [41]).go fun _ b => .inl (Zp 18 [] 0 (Yj ts a) (Yi ts a) [] [] [],b)):=by
   rw [Xn.o];exact if_pos A
  clear A Xn;replace X:xQ (RX pb tb cap ts w M d (.inl (a+1)) [(nb,(Yf 2 li co).obj),(w.heap.size,Zj.obj)]):=X.o.perm (by simp);go_wp2_with fail;refine(Td pb tb cap d ts (.inl (a+1)) [40] _ X.o.at_ T.o).mono ?_;rintro e wu ⟨rfl,C,F⟩;have X4:=Za (X.o.step C F);clear C F X;go_wp2_with fail;refine(Td pb tb cap d ts _ [41] _ X4.o.at_ T.o).mono ?_;rintro e wv ⟨rfl,C,F⟩;have O:=Za (X4.o.step C F)
  clear C F X4
  have Xc:xQ (Zf R=Zf (Zi (fun a=>Ze ts a [41]) (Zf (Zi (fun a=>Ze ts a [40]) (.inl (a+1)))))):=by
   show _=_;rw [J.o];show Zf ((Ze ts (a+1) [40]).go _)=Zf (Zi _ (Zf (Ze ts (a+1) [40])))
   cases Ze ts (a+1) [40] with
   | inr p=>rfl
   | inl q =>
    show Zf ((Ze ts q.2 [41]).go _)=Zf (Ze ts q.2 [41])
    cases Ze ts q.2 [41] with
    | inr p=>rfl
    | inl q=>rfl
  have Nc:xQ (∀ D c,R = .inl (D,c)->D=Zp 18 [] 0 (Yj ts a) (Yi ts a) [] [] []):=fun D c e=>by
   rw [J.o] at e
   cases I:Ze ts (a+1) [40] with
   | inr p=>rw [I] at e; cases e
   | inl q =>
    rw [I] at e;have e2:(Ze ts q.2 [41]).go (fun _ b=>(.inl (Zp 18 [] 0 (Yj ts a) (Yi ts a) [] [] [],b):Pr Ty)) = .inl (D,c):=e
    cases Y:Ze ts q.2 [41] with
    | inr p=>rw [Y] at e2; cases e2
    | inl q =>
     rw [Y] at e2;injection e2 with e2;injection e2 with e2 _;exact e2.symm
  obtain⟨S5,hS5⟩:=xE (Zf (Zi (fun a=>Ze ts a [41]) (Zf (Zi (fun a=>Ze ts a [40]) (.inl (a+1))))));rw [<- hS5] at O Xc;clear hS5;obtain⟨⟨n0,n1,n2,n3,n4,n5,n6,n7⟩,⟨g0,g1,Z,g3,g4,g5,g6,g7⟩,Yb⟩:=Zn (O.o.box (p:=(nb,(Yf 2 li co).obj)) (by simp));obtain⟨⟨r0,r1,r2,r3,r4,r5,r6,r7⟩,⟨f0,f1,f2,f3,f4,f5,f6,f7⟩,Xe⟩:=Zn (O.o.box (p:=(w.heap.size,Zj.obj)) (by simp))
  have Ub:¬ nb=w.heap.size:=by omega
  have Up:¬ w.heap.size=nb:=by omega
  go_wp2_with fail;obtain⟨Wf,H⟩:=xE (((((((((wv.setCell (aP nb 0) (iP 18)).setCell (aP w.heap.size 0) (iP 18)).setCell (aP w.heap.size 1) sP).setCell (aP w.heap.size 2) (iP 0)).setCell (aP w.heap.size 3) (iP li)).setCell (aP w.heap.size 4) (iP co)).setCell (aP w.heap.size 5) nP).setCell (aP w.heap.size 6) nP).setCell (aP w.heap.size 7) nP);rw [<- H]
  obtain⟨j,Xd,Tm⟩:Left pb tb cap ts w d S5 w.heap.size nb wv Wf ⟨18,⟨#[]⟩,0,li,co,none,0,0,none,0,0,none,0,0⟩ 0:=by rw [H]; exact J6 (rb:=w.heap.size) O.o (by simp) (by omega) (by omega) 0 (iP 18) ⟨18,⟨#[]⟩,0,li,co,none,0,0,none,0,0,none,0,0⟩
  clear H;replace j:=Za j;refine Bt rfl rfl (j.o.box xM) rfl ⟨j.o.st,?_,⟨18,⟨#[]⟩,0,li,co,none,0,0,none,0,0,none,0,0⟩,rfl,fun D c e=>?_⟩
  ·rw [Xc.o]; exact j.o.at_
  ·rw [Nc.o D c e,<- V.o.1,<- V.o.2]
   exact⟨1,[],[],[],rfl,⟨rfl,rfl,rfl⟩,⟨xZ _,xZ _,xZ _⟩,.inl rfl,.inl rfl,.inl rfl⟩
 | false =>
 rw [A,if_neg (by simp)] at X
 have Wn:xQ (R=at5 ts K E (f+1) a):=by
  rw [Xn.o];exact if_neg (by rw [show Zg ts a [114,101,97,100]=false from A]; simp)
 clear A Xn
 obtain⟨W13,hW13⟩:=xE M
 subst hW13
 have X13:=X
 clear X
 go_wp2_with fail
 refine(Vi pb tb cap d ts (.inl a) [112,114,105,110,116] _ X13.o.at_ T.o).mono ?_
 rintro e M ⟨rfl,C,F⟩
 have X:=Za (X13.o.step C F)
 clear C F X13
 cases A:Y2 ts (.inl a) [112,114,105,110,116] with
 | true =>
  rw [A,if_pos rfl] at X
  have J:xQ (R=(Ze ts (a+1) [40]).go fun _ b=>(E b).go fun x b=>(Ze ts b [41]).go fun _ b => .inl (Zp 17 [] 0 (Yj ts a) (Yi ts a) [] [] [x],b)):=by
   rw [Wn.o];exact if_pos A
  clear A Wn;replace X:xQ (RX pb tb cap ts w M d (.inl (a+1)) [(nb,(Yf 2 li co).obj),(w.heap.size,Zj.obj)]):=X.o.perm (by simp);go_wp2_with fail;refine(Td pb tb cap d ts (.inl (a+1)) [40] _ X.o.at_ T.o).mono ?_;rintro e wu ⟨rfl,C,F⟩;have X4:=Za (X.o.step C F);clear C F X;obtain⟨S4,Nl⟩:=xE (Zf (Zi (fun a=>Ze ts a [40]) (.inl (a+1))));rw [<- Nl] at X4;have Wm:=Za Nl
  clear Nl;go_wp2_with fail;refine(HE.o _ _ X4.o.at_).mono ?_;rintro e wv ⟨C,F,z,rfl,hv⟩;have O:=Za ((X4.o.step C F).alloc z.obj);have Vk:=xB (X4.o.box (p:=(nb,(Yf 2 li co).obj)) (by simp));have HZ:xQ (Wl (nb+1) (wv.alloc z.obj) z (Zi E S4)):=(hv.lower Vk).below (Zq _ _);have Do:=C.size;clear C F hv X4;obtain⟨R4,hR4⟩:=xE (Zi E S4);rw [<- hR4] at O HZ;have Xn:=Za hR4
  clear hR4;go_wp2_with fail;obtain⟨kb,Vt⟩:=xE wv.heap.size;rw [<- Vt] at O Do ⊢;clear Vt;generalize wv.alloc (.cells #[iP z.k,.string z.tx,iP z.N,iP z.li,iP z.co,.slice z.ta z.tl z.tc,.slice z.na z.nl z.nc,.slice z.ka z.kl z.kc] 64)=W5 at O HZ ⊢
  have hnk:nb<kb:=by omega
  refine(Td pb tb cap d ts (Zf R4) [41] _ O.o.at_ T.o).mono ?_;rintro e wy ⟨rfl,C,F⟩;have X6:=Za (O.o.step C F);have HZ6:=Za (HZ.o.stay C (by omega));clear C F O HZ
  have Xc:xQ (Zf R=Zf (Zi (fun a=>Ze ts a [41]) (Zf R4))):=by
   show _=_;rw [J.o,Xn.o,Wm.o];show Zf ((Ze ts (a+1) [40]).go _)=Zf (Zi _ (Zf (Zi E (Zf (Ze ts (a+1) [40])))))
   cases Ze ts (a+1) [40] with
   | inr p=>rfl
   | inl q =>
    show Zf ((E q.2).go _)=Zf (Zi _ (Zf (E q.2)))
    cases E q.2 with
    | inr p=>rfl
    | inl q =>
     show Zf ((Ze ts q.2 [41]).go _)=Zf (Ze ts q.2 [41])
     cases Ze ts q.2 [41] with
     | inr p=>rfl
     | inl q=>rfl
  have Nc:xQ (∀ D c,R = .inl (D,c)->∃ x b,R4 = .inl (x,b)/\D=Zp 17 [] 0 (Yj ts a) (Yi ts a) [] [] [x]):=fun D c e=>by
   rw [J.o] at e;rw [Xn.o,Wm.o];show ∃ x b,Zi E (Zf (Ze ts (a+1) [40]))=_/\_
   cases I:Ze ts (a+1) [40] with
   | inr p=>rw [I] at e; cases e
   | inl q =>
    rw [I] at e;have e2:(E q.2).go (fun x b=>(Ze ts b [41]).go fun _ b=>(.inl (Zp 17 [] 0 (Yj ts a) (Yi ts a) [] [] [x],b):Pr Ty)) = .inl (D,c):=e;show ∃ x b,E q.2=_/\_
    cases Y:E q.2 with
    | inr p=>rw [Y] at e2; cases e2
    | inl r =>
     rw [Y] at e2;have e3:(Ze ts r.2 [41]).go (fun _ b=>(.inl (Zp 17 [] 0 (Yj ts a) (Yi ts a) [] [] [r.1],b):Pr Ty)) = .inl (D,c):=e2
     cases h3:Ze ts r.2 [41] with
     | inr p=>rw [h3] at e3; cases e3
     | inl q =>
      rw [h3] at e3;injection e3 with e3;injection e3 with e3 _;exact⟨r.1,r.2,rfl,e3.symm⟩
  obtain⟨S5,hS5⟩:=xE (Zf (Zi (fun a=>Ze ts a [41]) (Zf R4)));rw [<- hS5] at X6 Xc;clear hS5;obtain⟨⟨z0,z1,z2,z3,z4,z5,z6,z7⟩,_,Z8⟩:=Zn (X6.o.box (p:=(kb,z.obj)) (by simp))
  have Rz:¬ kb=nb:=by omega
  obtain⟨⟨n0,n1,n2,n3,n4,n5,n6,n7⟩,⟨g0,g1,Z,g3,g4,g5,g6,g7⟩,Yb⟩:=Zn (X6.o.box (p:=(nb,(Yf 2 li co).obj)) (by simp));obtain⟨⟨r0,r1,r2,r3,r4,r5,r6,r7⟩,⟨f0,f1,f2,f3,f4,f5,f6,f7⟩,Xe⟩:=Zn (X6.o.box (p:=(w.heap.size,Zj.obj)) (by simp))
  have Ub:¬ nb=w.heap.size:=by omega
  have Up:¬ w.heap.size=nb:=by omega
  go_wp2_with fail;obtain⟨Wf,H⟩:=xE (((((((((((wy.setCell (aP nb 0) (iP 17)).setCell (aP nb 7) (lP wy.heap.size 1 1)).setCell (aP w.heap.size 0) (iP 17)).setCell (aP w.heap.size 1) sP).setCell (aP w.heap.size 2) (iP 0)).setCell (aP w.heap.size 3) (iP li)).setCell (aP w.heap.size 4) (iP co)).setCell (aP w.heap.size 5) nP).setCell (aP w.heap.size 6) nP).setCell (aP w.heap.size 7) (lP wy.heap.size 1 1)).alloc (.cells #[iP z.k,.string z.tx,iP z.N,iP z.li,iP z.co,.slice z.ta z.tl z.tc,.slice z.na z.nl z.nc,.slice z.ka z.kl z.kc] 64))
  rw [<- H]
  obtain⟨j,Xd,Tm⟩:Left pb tb cap ts w d S5 w.heap.size nb wy Wf ⟨17,⟨#[]⟩,0,li,co,none,0,0,none,0,0,(some (aP wy.heap.size 0)),1,1⟩ 1:=by rw [H]; exact Dt (qM (rb:=w.heap.size) X6.o (by simp) (by omega) (by omega) 0 (iP 17) 7 (lP wy.heap.size 1 1) ⟨17,⟨#[]⟩,0,li,co,none,0,0,none,0,0,(some (aP wy.heap.size 0)),1,1⟩) (z.obj)
  have Yu:Wf.heap[wy.heap.size]?=some (z.obj):=by rw [H]; exact zL (qM (rb:=w.heap.size) X6.o (by simp) (by omega) (by omega) 0 (iP 17) 7 (lP wy.heap.size 1 1) ⟨17,⟨#[]⟩,0,li,co,none,0,0,none,0,0,(some (aP wy.heap.size 0)),1,1⟩) (z.obj) rfl
  clear H;replace j:=Za j;refine Bt rfl rfl (j.o.box xM) rfl ⟨j.o.st,?_,⟨17,⟨#[]⟩,0,li,co,none,0,0,none,0,0,(some (aP wy.heap.size 0)),1,1⟩,rfl,fun D c e=>?_⟩
  ·rw [Xc.o]; exact j.o.at_
  ·obtain⟨x,b,I,Y⟩:=Nc.o D c e
   have hz:Y0 (w.heap.size+1) Wf z x:=((HZ6.o x b I).keep (by omega) fun c h6 h7=>Xd c (by omega) (by omega) h7).lower (by omega);have:=(Ko (kb:=wy.heap.size) hz Yu (by omega) ⟨17,⟨#[]⟩,0,li,co,none,0,0,none,0,0,(some (aP wy.heap.size 0)),1,1⟩ [] [] ⟨rfl,rfl⟩ ⟨rfl,xZ _,0,.inl rfl⟩ ⟨rfl,xZ _,.inl rfl⟩).lower (Nat.le_succ _);rw [Y,<- V.o.1,<- V.o.2];exact this
 | false =>
 rw [A,if_neg (by simp)] at X
 have Pa:xQ (R=at6 ts K E (f+1) a):=by
  rw [Wn.o];exact if_neg (by rw [show Zg ts a [112,114,105,110,116]=false from A]; simp)
 clear A Wn
 obtain⟨W14,hW14⟩:=xE M
 subst hW14
 have X14:=X
 clear X
 go_wp2_with fail
 refine(Vi pb tb cap d ts (.inl a) [40] _ X14.o.at_ T.o).mono ?_
 rintro e M ⟨rfl,C,F⟩
 have X:=Za (X14.o.step C F)
 clear C F X14
 cases A:Y2 ts (.inl a) [40] with
 | true =>
  rw [A,if_pos rfl] at X
  have J:xQ (R=(E (a+1)).go fun x b=>(Ze ts b [41]).go fun _ b => .inl (x,b)):=by
   rw [Pa.o];exact if_pos A
  clear A Pa;replace X:xQ (RX pb tb cap ts w M d (.inl (a+1)) [(nb,(Yf 2 li co).obj),(w.heap.size,Zj.obj)]):=X.o.perm (by simp);go_wp2_with fail;refine(HE.o _ _ X.o.at_).mono ?_;rintro e wv ⟨C,F,z,rfl,hv⟩;have O:=Za ((X.o.step C F).alloc z.obj);have Vk:=xB (X.o.box (p:=(nb,(Yf 2 li co).obj)) (by simp));have HZ:xQ (Wl (nb+1) (wv.alloc z.obj) z (E (a+1))):=(Wl.lower hv Vk).below (Zq _ _)
  have Do:=C.size;clear C F hv X;have e9:Zi E (.inl (a+1))=E (a+1):=rfl;rw [e9] at O;clear e9;go_wp2_with fail;obtain⟨kb,Vt⟩:=xE wv.heap.size;rw [<- Vt] at O Do ⊢;clear Vt;generalize wv.alloc (.cells #[iP z.k,.string z.tx,iP z.N,iP z.li,iP z.co,.slice z.ta z.tl z.tc,.slice z.na z.nl z.nc,.slice z.ka z.kl z.kc] 64)=W5 at O HZ ⊢
  have hnk:nb<kb:=by omega
  refine(Td pb tb cap d ts (Zf (E (a+1))) [41] _ O.o.at_ T.o).mono ?_;rintro e wy ⟨rfl,C,F⟩;have X6:=Za (O.o.step C F);have HZ6:=Za (HZ.o.stay C (by omega));clear C F O HZ
  have Xc:xQ (Zf R=Zf (Zi (fun a=>Ze ts a [41]) (Zf (E (a+1))))):=by
   show _=_;rw [J.o]
   cases E (a+1)with
   | inr p=>rfl
   | inl q =>
    show Zf ((Ze ts q.2 [41]).go _)=Zf (Ze ts q.2 [41])
    cases Ze ts q.2 [41] with
    | inr p=>rfl
    | inl q=>rfl
  have Nc:xQ (∀ D c,R = .inl (D,c)->∃ b,E (a+1) = .inl (D,b)):=fun D c e=>by
   rw [J.o] at e
   cases Y:E (a+1)with
   | inr p=>rw [Y] at e; cases e
   | inl r =>
    rw [Y] at e;have e3:(Ze ts r.2 [41]).go (fun _ b=>(.inl (r.1,b):Pr Ty)) = .inl (D,c):=e
    cases h3:Ze ts r.2 [41] with
    | inr p=>rw [h3] at e3; cases e3
    | inl q =>
     rw [h3] at e3;injection e3 with e3;injection e3 with e3 _;exact⟨r.2,by rw [<- e3]⟩
  obtain⟨S5,hS5⟩:=xE (Zf (Zi (fun a=>Ze ts a [41]) (Zf (E (a+1)))));rw [<- hS5] at X6 Xc;clear hS5;obtain⟨⟨z0,z1,z2,z3,z4,z5,z6,z7⟩,_,Z8⟩:=Zn (X6.o.box (p:=(kb,z.obj)) (by simp))
  have Rz:¬ kb=w.heap.size:=by omega
  obtain⟨⟨n0,n1,n2,n3,n4,n5,n6,n7⟩,⟨g0,g1,Z,g3,g4,g5,g6,g7⟩,Yb⟩:=Zn (X6.o.box (p:=(nb,(Yf 2 li co).obj)) (by simp));obtain⟨⟨r0,r1,r2,r3,r4,r5,r6,r7⟩,⟨f0,f1,f2,f3,f4,f5,f6,f7⟩,Xe⟩:=Zn (X6.o.box (p:=(w.heap.size,Zj.obj)) (by simp))
  have Ub:¬ nb=w.heap.size:=by omega
  have Up:¬ w.heap.size=nb:=by omega
  go_wp2_with fail;obtain⟨Wf,H⟩:=xE ((((((((wy.setCell (aP w.heap.size 0) (iP z.k)).setCell (aP w.heap.size 1) (.string z.tx)).setCell (aP w.heap.size 2) (iP z.N)).setCell (aP w.heap.size 3) (iP z.li)).setCell (aP w.heap.size 4) (iP z.co)).setCell (aP w.heap.size 5) (.slice z.ta z.tl z.tc)).setCell (aP w.heap.size 6) (.slice z.na z.nl z.nc)).setCell (aP w.heap.size 7) (.slice z.ka z.kl z.kc))
  rw [<- H]
  obtain⟨j,Xd,Tm⟩:Left pb tb cap ts w d S5 w.heap.size nb wy Wf z 0:=by rw [H]; exact I0 (rb:=w.heap.size) X6.o (by simp) nb z
  clear H;replace j:=Za j;refine Bt rfl rfl (j.o.box xM) rfl ⟨j.o.st,?_,z,rfl,fun D c e=>?_⟩
  ·rw [Xc.o]; exact j.o.at_
  ·obtain⟨b,I⟩:=Nc.o D c e
   exact((HZ6.o D b I).keep (by omega) fun c h6 h7=>Xd c (by omega) (by omega) h7).lower (by omega)
 | false =>
 rw [A,if_neg (by simp)] at X
 have Vz:xQ (R=at7 ts K E (f+1) a):=by
  rw [Pa.o];exact if_neg (by rw [show Zg ts a [40]=false from A]; simp)
 clear A Pa
 obtain⟨W15,hW15⟩:=xE M
 subst hW15
 have X15:=X
 clear X
 go_wp2_with fail
 refine(Vi pb tb cap d ts (.inl a) [123] _ X15.o.at_ T.o).mono ?_
 rintro e M ⟨rfl,C,F⟩
 have X:=Za (X15.o.step C F)
 clear C F X15
 cases A:Y2 ts (.inl a) [123] with
 | true =>
  rw [A,if_pos rfl] at X
  have J:xQ (R=Aj ts E (f+1) a):=by
   rw [Vz.o];exact if_pos A
  clear A Vz;replace X:xQ (RX pb tb cap ts w M d (.inl (a+1)) [(nb,(Yf 2 li co).obj),(w.heap.size,Zj.obj)]):=X.o.perm (by simp);obtain⟨⟨n0,n1,n2,n3,n4,n5,n6,n7⟩,⟨g0,g1,Z,g3,g4,g5,g6,g7⟩,Yb⟩:=Zn (X.o.box (p:=(nb,(Yf 2 li co).obj)) (by simp))
  have Ub:¬ nb=w.heap.size:=by omega
  have Up:¬ w.heap.size=nb:=by omega
  have HC:=Za (HRec.o li co M V.o.1 V.o.2 X.o.at_);rw [<- J.o] at HC;go_wp2_with fail;refine HC.o.mono ?_;rintro e wv ⟨C,F,z,rfl,hv⟩;have O:=Za (X.o.step C F);have HZ5:=Za (hv.lower (xB (X.o.box (p:=(nb,(Yf 2 li co).obj)) (by simp))));clear C F hv X n0 n1 n2 n3 n4 n5 n6 n7 g0 g1 Z g3 g4 g5 g6 g7 Yb HC;obtain⟨⟨n0,n1,n2,n3,n4,n5,n6,n7⟩,⟨g0,g1,Z,g3,g4,g5,g6,g7⟩,Yb⟩:=Zn (O.o.box (p:=(nb,(Yf 2 li co).obj)) (by simp))
  obtain⟨⟨r0,r1,r2,r3,r4,r5,r6,r7⟩,⟨f0,f1,f2,f3,f4,f5,f6,f7⟩,Xe⟩:=Zn (O.o.box (p:=(w.heap.size,Zj.obj)) (by simp))
  have yW:¬ nb=w.heap.size:=by omega
  have yX:¬ w.heap.size=nb:=by omega
  go_wp2_with fail;obtain⟨Wf,H⟩:=xE ((((((((wv.setCell (aP w.heap.size 0) (iP z.k)).setCell (aP w.heap.size 1) (.string z.tx)).setCell (aP w.heap.size 2) (iP z.N)).setCell (aP w.heap.size 3) (iP z.li)).setCell (aP w.heap.size 4) (iP z.co)).setCell (aP w.heap.size 5) (.slice z.ta z.tl z.tc)).setCell (aP w.heap.size 6) (.slice z.na z.nl z.nc)).setCell (aP w.heap.size 7) (.slice z.ka z.kl z.kc))
  rw [<- H]
  obtain⟨j,Xd,Tm⟩:Left pb tb cap ts w d (Zf R) w.heap.size nb wv Wf z 0:=by rw [H]; exact I0 (rb:=w.heap.size) O.o (by simp) nb z
  clear H;replace j:=Za j;refine Bt rfl rfl (j.o.box xM) rfl ⟨j.o.st,?_,z,rfl,fun D c e=>?_⟩
  ·exact j.o.at_
  ·exact((HZ5.o D c e).keep (by omega) fun c h6 h7=>Xd c (by omega) (by omega) h7).lower (by omega)
 | false =>
 rw [A,if_neg (by simp)] at X
 have Se:xQ (R=Ii ts K (f+1) a):=by
  rw [Vz.o];exact if_neg (by rw [show Zg ts a [123]=false from A]; simp)
 clear A Vz
 obtain⟨W16,hW16⟩:=xE M
 subst hW16
 have X16:=X
 clear X
 obtain⟨⟨n0,n1,n2,n3,n4,n5,n6,n7⟩,⟨g0,g1,Z,g3,g4,g5,g6,g7⟩,Yb⟩:=Zn (X16.o.box (p:=(nb,(Yf 2 li co).obj)) (by simp))
 have Ub:¬ nb=w.heap.size:=by omega
 have Up:¬ w.heap.size=nb:=by omega
 have X17:xQ (RX pb tb cap ts w (W16.setCell (aP nb 0) (iP 4)) d (.inl a) [(nb,(Yf 4 li co).obj),(w.heap.size,Zj.obj)]):=RX.setB (X16.o.perm (bx':=[(nb,(Yf 2 li co).obj),(w.heap.size,Zj.obj)]) (by simp)) (by simp; omega) 0 (iP 4)
 go_wp2_with fail
 refine(Gm pb tb cap d ts (.inl a) _ X17.o.at_ T.o).mono ?_
 rintro e wn ⟨rfl,C,F⟩
 have X18:=Za (X17.o.step C F)
 clear C F X17 X16 n0 n1 n2 n3 n4 n5 n6 n7 g0 g1 Z g3 g4 g5 g6 g7 Yb
 obtain⟨RN,hRN⟩:=xE (Zu ts a)
 have e9:Zi (Zu ts) (.inl a)=RN:=hRN.symm
 rw [e9] at X18 ⊢
 have HRN:=Za hRN
 obtain⟨s,A⟩:=xE (Vd RN)
 rw [<- A]
 have Kd:=Za A
 clear A e9 hRN
 obtain⟨⟨n0,n1,n2,n3,n4,n5,n6,n7⟩,⟨g0,g1,Z,g3,g4,g5,g6,g7⟩,Yb⟩:=Zn (X18.o.box (p:=(nb,(Yf 4 li co).obj)) (by simp))
 have X19:xQ (RX pb tb cap ts w (wn.setCell (aP nb 1) (uP s)) d (Zf RN) [(nb,NV.obj ⟨4,⟨s.toArray⟩,0,li,co,none,0,0,none,0,0,none,0,0⟩),(w.heap.size,Zj.obj)]):=X18.o.setB (by simp; omega) 1 (uP s)
 go_wp2_with fail
 refine(Vi pb tb cap d ts (Zf RN) [91] _ X19.o.at_ T.o).mono ?_
 rintro e M ⟨rfl,C,F⟩
 have X:=Za (X19.o.step C F)
 clear C F X18 X19 n0 n1 n2 n3 n4 n5 n6 n7 g0 g1 Z g3 g4 g5 g6 g7 Yb
 cases A:Y2 ts (Zf RN) [91] with
 | false =>
  rw [A,if_neg (by simp)] at X
  have J:xQ (R=RN.go fun s b => .inl (Zp 4 s 0 (Yj ts a) (Yi ts a) [] [] [],b)):=by
   rw [Se.o,HRN.o];rw [HRN.o] at A;unfold Ii
   cases I:Zu ts a with
   | inr p=>rfl
   | inl q =>
    rw [I] at A;have Y:Zg ts q.2 [91]=false:=A;show(if Zg ts q.2 [91] then _ else _)=_;rw [Y];rfl
  clear A Se;obtain⟨⟨n0,n1,n2,n3,n4,n5,n6,n7⟩,⟨g0,g1,Z,g3,g4,g5,g6,g7⟩,Yb⟩:=Zn (X.o.box (p:=(nb,NV.obj ⟨4,⟨s.toArray⟩,0,li,co,none,0,0,none,0,0,none,0,0⟩)) (by simp));obtain⟨⟨r0,r1,r2,r3,r4,r5,r6,r7⟩,⟨f0,f1,f2,f3,f4,f5,f6,f7⟩,Xe⟩:=Zn (X.o.box (p:=(w.heap.size,Zj.obj)) (by simp))
  have yW:¬ nb=w.heap.size:=by omega
  have yX:¬ w.heap.size=nb:=by omega
  go_wp2_with fail;obtain⟨Wf,H⟩:=xE ((((((((M.setCell (aP w.heap.size 0) (iP 4)).setCell (aP w.heap.size 1) (uP s)).setCell (aP w.heap.size 2) (iP 0)).setCell (aP w.heap.size 3) (iP li)).setCell (aP w.heap.size 4) (iP co)).setCell (aP w.heap.size 5) nP).setCell (aP w.heap.size 6) nP).setCell (aP w.heap.size 7) nP);rw [<- H]
  obtain⟨j,Xd,Tm⟩:Left pb tb cap ts w d (Zf RN) w.heap.size nb M Wf ⟨4,⟨s.toArray⟩,0,li,co,none,0,0,none,0,0,none,0,0⟩ 0:=by rw [H]; exact I0 (rb:=w.heap.size) X.o (by simp) nb ⟨4,⟨s.toArray⟩,0,li,co,none,0,0,none,0,0,none,0,0⟩
  clear H;replace j:=Za j;refine Bt rfl rfl (j.o.box xM) rfl ⟨j.o.st,?_,⟨4,⟨s.toArray⟩,0,li,co,none,0,0,none,0,0,none,0,0⟩,rfl,fun D c e=>?_⟩
  ·have:=j.o.at_
   rw [J.o]
   cases I:RN with
   | inr p=>rw [I] at this; exact this
   | inl q=>rw [I] at this; exact this
  ·rw [J.o] at e
   cases I:RN with
   | inr p=>rw [I] at e; cases e
   | inl q =>
    rw [I] at e;injection e with e;injection e with e _
    have hq:s=q.1:=by rw [Kd.o,I]; rfl
    rw [<- e,<- hq,<- V.o.1,<- V.o.2];exact⟨1,[],[],[],rfl,⟨rfl,rfl,rfl⟩,⟨xZ _,xZ _,xZ _⟩,.inl rfl,.inl rfl,.inl rfl⟩
 | true =>
  rw [A,if_pos rfl] at X
  obtain⟨s',b,H9⟩:∃ s' b,RN = .inl (s',b):=by
   cases RN with
   | inr p=>cases A
   | inl q=>exact⟨q.1,q.2,rfl⟩
  have hsn:s=s':=by rw [Kd.o,H9]; rfl
  obtain⟨RT,hRT⟩:=xE ((Z9 ts K [44] (f+1) (b+1)).go fun l b=>(Ze ts b [93]).go fun _ b => .inl (l,b))
  have J:xQ (R=RT.go fun l c => .inl (Zp 19 s 0 (Yj ts a) (Yi ts a) l [] [],c)):=by
   rw [Se.o,hRT];rw [H9] at A;unfold Ii;rw [<- HRN.o,H9,hsn];have Y:Zg ts b [91]=true:=A;show(if Zg ts b [91] then _ else _)=_;rw [if_pos Y]
   cases Z9 ts K [44] (f+1) (b+1)with
   | inr p=>rfl
   | inl q =>
    show(Ze ts q.2 [93]).go _=((Ze ts q.2 [93]).go _).go _
    cases Ze ts q.2 [93] with
    | inr p=>rfl
    | inl r=>rfl
  have e9:Nr (Zf RN) = .inl (b+1):=by rw [H9]; rfl
  rw [e9] at X
  have HTc:xQ (∀ w,Z2 w pb tb cap ts d (.inl (b+1))->Calls prog 133 #[qP pb] w fun e w'=>Zl pb w w'/\Z2 w' pb tb cap ts d (Zf RT)/\TysP w.heap.size w' RT e):=fun w h=>by
   rw [hRT];exact zhv pb tb cap d ts T.o K huK f hf HK.o (.inl (b+1)) w h
  clear A Se e9 hRT hsn H9;obtain⟨⟨n0,n1,n2,n3,n4,n5,n6,n7⟩,⟨g0,g1,Z,g3,g4,g5,g6,g7⟩,Yb⟩:=Zn (X.o.box (p:=(nb,NV.obj ⟨4,⟨s.toArray⟩,0,li,co,none,0,0,none,0,0,none,0,0⟩)) (by simp))
  have yW:¬ nb=w.heap.size:=by omega
  have yX:¬ w.heap.size=nb:=by omega
  have X20:xQ (RX pb tb cap ts w (M.setCell (aP nb 0) (iP 19)) d (.inl (b+1)) [(nb,NV.obj ⟨19,⟨s.toArray⟩,0,li,co,none,0,0,none,0,0,none,0,0⟩),(w.heap.size,Zj.obj)]):=X.o.setB (by simp; omega) 0 (iP 19);go_wp2_with fail;refine(HTc.o _ X20.o.at_).mono ?_;rintro e wy ⟨C,F,av,cv,cs,acc,rfl,Ch,hal2,N6⟩;have X21:=Za (X20.o.step C F);have hnw:=xB (X20.o.box (p:=(nb,NV.obj ⟨19,⟨s.toArray⟩,0,li,co,none,0,0,none,0,0,none,0,0⟩)) (by simp))
  have V7:=Za (Ch.lowerB (B':=nb+1) hnw);have Au:=Za N6;clear C F X X20 Ch N6 n0 n1 n2 n3 n4 n5 n6 n7 g0 g1 Z g3 g4 g5 g6 g7 Yb;obtain⟨⟨n0,n1,n2,n3,n4,n5,n6,n7⟩,⟨g0,g1,Z,g3,g4,g5,g6,g7⟩,Yb⟩:=Zn (X21.o.box (p:=(nb,NV.obj ⟨19,⟨s.toArray⟩,0,li,co,none,0,0,none,0,0,none,0,0⟩)) (by simp));obtain⟨⟨r0,r1,r2,r3,r4,r5,r6,r7⟩,⟨f0,f1,f2,f3,f4,f5,f6,f7⟩,Xe⟩:=Zn (X21.o.box (p:=(w.heap.size,Zj.obj)) (by simp))
  have hne1c:¬ nb=w.heap.size:=by omega
  have hne2c:¬ w.heap.size=nb:=by omega
  go_wp2_with fail;obtain⟨Wf,H⟩:=xE (((((((((wy.setCell (aP nb 5) (.slice av acc.length cv)).setCell (aP w.heap.size 0) (iP 19)).setCell (aP w.heap.size 1) (uP s)).setCell (aP w.heap.size 2) (iP 0)).setCell (aP w.heap.size 3) (iP li)).setCell (aP w.heap.size 4) (iP co)).setCell (aP w.heap.size 5) (.slice av acc.length cv)).setCell (aP w.heap.size 6) nP).setCell (aP w.heap.size 7) nP);rw [<- H]
  obtain⟨j,Xd,Tm⟩:Left pb tb cap ts w d (Zf RT) w.heap.size nb wy Wf ⟨19,⟨s.toArray⟩,0,li,co,av,acc.length,cv,none,0,0,none,0,0⟩ 0:=by rw [H]; exact J6 (rb:=w.heap.size) X21.o (by simp) (by omega) (by omega) 5 (.slice av acc.length cv) ⟨19,⟨s.toArray⟩,0,li,co,av,acc.length,cv,none,0,0,none,0,0⟩
  clear H;replace j:=Za j;refine Bt rfl rfl (j.o.box xM) rfl ⟨j.o.st,?_,⟨19,⟨s.toArray⟩,0,li,co,av,acc.length,cv,none,0,0,none,0,0⟩,rfl,fun D c e=>?_⟩
  ·have:=j.o.at_
   rw [J.o]
   cases I:RT with
   | inr p=>rw [I] at this; exact this
   | inl q=>rw [I] at this; exact this
  ·rw [J.o] at e
   cases I:RT with
   | inr p=>rw [I] at e; cases e
   | inl q =>
    obtain⟨l,b2⟩:=q;rw [I] at e;injection e with e;injection e with e _;have A0:=Au.o l b2 I;have hr:=V7.o;rw [A0] at hr;obtain⟨a2,cap2,m,ea,Xl,hk⟩:=Ek (wJ hr);rw [List.length_map] at ea;injection ea with ea _ _;subst ea
    have hll:acc.length=l.length:=by rw [A0,List.length_map]
    have Tt:Qk Wf (w.heap.size+1) m av l:=zI (L4 hk (by omega) fun c h6 h7=>Xd c (by omega) (by omega) h7) (by omega);rw [<- e,<- V.o.1,<- V.o.2];exact Y0.lower ⟨m+1,l,[],[],rfl,⟨hll,rfl,rfl⟩,⟨by omega,xZ _,xZ _⟩,Tt,.inl rfl,.inl rfl⟩ (Nat.le_succ _)
end
end Go.Proofs.YtoppemkjhhlegaaGreatDoor
