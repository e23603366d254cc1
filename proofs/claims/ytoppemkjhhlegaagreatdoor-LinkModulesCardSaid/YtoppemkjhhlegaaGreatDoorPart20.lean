/- Part. -/
import Derived.Test.YtoppemkjhhlegaaGreatDoorPart19
set_option maxRecDepth 100000
set_option maxHeartbeats 4000000
namespace Go.Proofs.YtoppemkjhhlegaaGreatDoor
open Go.Proofs.Tryz
section
open Go.RowKit Go.Maps
theorem k9 (num:Wo) (j:Nat):∀ (l:List Vx) (r:List Bool),(Hy num l r).getD j false=true->r.getD j false=true∨∃ i ∈ l,Fl num i.fr=j
 | [],_,h => .inl h
 | i :: l,r,h=>by
  rcases k9 num j l _ h with h | ⟨x,z,e⟩
  ·by_cases e:j=Fl num i.fr
   ·exact .inr ⟨i,by simp,e.symm⟩
   ·refine .inl ?_
    rw [List.getD_eq_getElem?_getD,List.getElem?_set,if_neg (fun h=>e h.symm),<- List.getD_eq_getElem?_getD] at h;exact h
  ·exact .inr ⟨x,by simp [z],e⟩
theorem zaj {lo kb nb:Nat} {w:wD} {L:L1} {r:Rw} (h:Vw lo kb nb w L r) (i j:Nat) (C:i<L.mods.length) (z:vT L.num L.mods i j=true):j<L.mods.length:=by
 unfold vT at z
 rw [jA L.num L.mods C] at z
 rcases k9 _ _ _ _ z with A | ⟨x,_,e⟩
 ·rw [pE] at A
  cases A
 ·rw [<- e]
  exact h.numOf_lt (by omega) x.fr
def Ah (dir:List (List Bool)) (k i j:Nat):Bool:=if i<k then(Ka dir 17 i Vh).getD j false else false
def reG (dir:List (List Bool)) (i j:Nat):Bool:=((Ai dir).getD i Vh).getD j false
theorem zgl (h:List (List Bool)) (k i j:Nat):Fq (Ah h k) k Vh i j=Ah h k i j:=by
 unfold Fq Ah
 by_cases e:i=k
 ·rw [if_pos e,pE,if_neg (by omega)]
 ·rw [if_neg e]
theorem zgk (z:List (List Bool)) (k i j:Nat):Fq (Ah z k) k (Ka z 17 k Vh) i j=Ah z (k+1) i j:=by
 unfold Fq Ah
 by_cases e:i=k
 ·rw [if_pos e,e,if_pos (by omega)]
 ·rw [if_neg e]
  by_cases h:i<k
  ·rw [if_pos h,if_pos (by omega)]
  ·rw [if_neg h,if_neg (by omega)]
theorem zgj (h:List (List Bool)) (n i j:Nat) (hn:h.length=n) (z:i<n):Ah h n i j=reG h i j:=by
 unfold Ah reG Ai
 rw [if_pos z,List.getD_eq_getElem?_getD (l:=List.map _ _),List.getElem?_map,List.getElem?_range (by omega)]
 rfl
theorem zgn (lo kb nb:Nat) (L:L1) (r:Rw) (w:wD) (c2 c3 c4 c5 c8:vL) (Z:Vw lo kb nb w L r) (hb:w.heap[kb]?=some (Hf nb L r c2 c3 c4 c5 c8)) :
  Calls prog 27 #[qP kb] w fun e w'=>∃ rb,e = .returned (lP rb L.mods.length L.mods.length)/\w.heap.size<=rb/\Uz w' rb L.mods.length (reG (Pu L.num L.mods))/\Below w.heap.size w w':=by
 have Uu:=Z.ml
 have HV:=Za Z
 have I:=Za (zak lo kb nb L r w c2 c3 c4 c5 c8 Z hb)
 have hmf:∀ (fn:Fn) (first cap:Array vL) (w:wD),(Instr.makeFunc fn first cap).run prog w = .ok (.func fn first cap) w:=fun _ _ _ _=>rfl
 have hsf:∀ (W:wD) (a:Addr) (f:Fn) (x y:Array vL) (m:Mode),(store a (.func f x y) m).run prog W=stored prog W a (.func f x y) m:=fun W a f x y m=>run_store prog W a (.func f x y) m rfl
 have Ws:(Pu L.num L.mods).length=L.mods.length:=by unfold Pu; rw [List.length_map]
 have V:=Za (fun i j hi (_:j<16) hx=>zaj Z i j hi hx)
 obtain⟨n,hn⟩:=xE L.mods.length
 obtain⟨D,hD⟩:=xE (vT L.num L.mods)
 obtain⟨z,C⟩:=xE (Pu L.num L.mods)
 have HD:xQ (∀ i j,i<n->j<16->D i j=(z.getD i Vh).getD j false):=fun i j _ _=>by rw [hD,C]; rfl
 rw [<- hn] at Uu I Ws V ⊢
 rw [<- hD] at I V
 rw [<- C] at Ws ⊢
 have hmk:=aO n (by omega)
 have hzn:((n:Int)<=9223372036854775807):=by omega
 clear Z hb hn hD C
 go_enter func27,ntmps27
 go_wp2_with fail
 refine I.o.mono ?_
 rintro e w1 ⟨rfl,h1,h2⟩
 have Ye:=Za h1
 have Mz:=Za h2
 have Xq:w.heap.size<w1.heap.size:=h1.lt
 clear h1 h2 I
 go_wp2_with fail
 obtain⟨W,J⟩:=xE (((w1.alloc (.cells #[lP w.heap.size n n] 79)).alloc (vO n)).alloc (.cells #[lP (w1.heap.size+1) n n] 79))
 rw [<- J]
 have H:(w1.alloc (.cells #[lP w.heap.size n n] 79)).heap.size=w1.heap.size+1:=xS _ _
 have N:((w1.alloc (.cells #[lP w.heap.size n n] 79)).alloc (vO n)).heap.size=w1.heap.size+2:=by rw [xS,H]
 have HBd:xQ (Uz W w.heap.size n D):=by rw [J]; exact Ye.o.block ((xA (by rw [N]; omega)).trans ((xA (by rw [H]; omega)).trans (xA Xq)))
 have Bx:xQ (Uz W (w1.heap.size+1) n (fun _ _=>false)):=by
  rw [J];have:=l4 (w1.alloc (.cells #[lP w.heap.size n n] 79)) n;rw [H] at this;exact this.block (xA (by rw [N]; omega))
 have O:xQ (W.heap[w1.heap.size]?=some (.cells #[lP w.heap.size n n] 79)):=by rw [J]; exact(xA (by rw [N]; omega)).trans ((xA (by rw [H]; omega)).trans (xL _ _))
 have T:xQ (W.heap[w1.heap.size+2]?=some (.cells #[lP (w1.heap.size+1) n n] 79)):=by rw [J,<- N]; exact xL _ _
 have HWs:xQ (W.heap.size=w1.heap.size+3):=by rw [J]; show _=_; rw [xS,N]
 have HWb:xQ (Below w.heap.size w W):=by rw [J]; exact((Mz.o.alloc (by omega) _).alloc (by rw [H]; omega) _).alloc (by rw [N]; omega) _
 clear J H N Ye Mz hmk
 obtain⟨h,hx1⟩:=xE w1.heap.size
 rw [<- hx1] at Bx O T HWs Xq ⊢
 clear hx1
 have Wu:W.cell? (aP h 0)=some (lP w.heap.size n n):=by have:=O.o; simp [World.cell?,this]
 go_wp2_with fail
 clear Wu
 go_loopw [14] (fun i wr=>∃ k:Nat,k<=n/\i=iP k/\xQ (Uz wr (h+1) n (Ah z k))/\xQ (Z0 (h+1) (fun b=>b=h+1) W wr)) (fun i _=>n - (intOf i).toNat)
 case atStart =>
  refine⟨0,by omega,rfl,Bx.o.congr fun i j _ _=>?_,Z0.refl _ _ _⟩;unfold Ah;rw [if_neg (by omega)]
 case round =>
  obtain⟨k,hk,rfl,HA,Y⟩:=hrel;by_cases Z8:k<n
  ·have Un:(k:Int)<(n:Int):=by omega
   have hws:h+3<=wr.heap.size:=by have:=Y.o.size; rw [HWs.o] at this; exact this
   obtain⟨M,F⟩:=xE ((wr.alloc (.cells #[iP k] 3)).alloc (.cells #[lE (h+1+1) wr.heap.size h (wr.heap.size+1)] 102));have H:(wr.alloc (.cells #[iP k] 3)).heap.size=wr.heap.size+1:=xS _ _
   have A:Below wr.heap.size wr M:=by rw [F]; exact Zz (Zq wr _) (Zq _ _)
   have HBw:=Za A
   have Uk:xQ (vJ M (h+1+1) wr.heap.size h (wr.heap.size+1) (h+1) w.heap.size n k D):=by
    have o1:=(A.block (h+1+1) (by omega)).trans (Y.o.obj T.o (by omega));have o3:=(A.block h (by omega)).trans (Y.o.obj O.o (by omega))
    have o2:M.heap[wr.heap.size]?=some (.cells #[iP k] 3):=by rw [F]; exact(xA (by rw [H]; omega)).trans (xL _ _)
    have o4:M.heap[wr.heap.size+1]?=some (.cells #[lE (h+1+1) wr.heap.size h (wr.heap.size+1)] 102):=by rw [F,<- H]; exact xL _ _
    refine⟨by simp [World.cell?,o1],by simp [World.cell?,o2],by simp [World.cell?,o3],by simp [World.cell?,o4],?_,by omega,by omega,by omega,by omega,by omega⟩;exact HBd.o.block ((A.block w.heap.size (by omega)).trans (Y.o.keep _ HBd.o.lt (by omega)))
   have Vq:xQ (Uz M (h+1) n (Fq (Ah z k) k Vh)):=(HA.o.block (A.block (h+1) (by omega))).congr fun i j _ _=>(zgl z k i j).symm
   clear A H;go_wp2_with fail;rw [<- F];clear F;refine(cB (h+1+1) wr.heap.size h (wr.heap.size+1) (h+1) w.heap.size n k D z (Ah z k) Z8 Uu HD.o V.o 17 k Vh M Z8 rfl (by decide) Uk.o Vq.o).mono ?_;rintro e w3 ⟨rfl,h2,h3⟩;have H2:=Za h2;have H3:=Za h3;clear h2 h3;go_wp2_with fail
   go_roundw
   case rel =>
    refine⟨k+1,by omega,by go_num,H2.o.congr fun i j _ _=>zgk z k i j,?_⟩
    have hcw:Z0 (h+1) (fun b=>b=h+1) W M:=Y.o.trans (Z0.of (S:=fun b=>b=h+1) HBw.o (by omega)) fun _ _ e=>e
    exact hcw.trans H3.o fun _ _ e=>e
   case measure=>simp [intOf]; omega
  ·have Un:¬ (k:Int)<(n:Int):=by omega
   have e:k=n:=by omega
   subst e;have hro:=Y.o.obj T.o (by omega)
   have Wu:wr.cell? (aP (h+2) 0)=some (lP (h+1) k k):=by simp [World.cell?,hro]
   clear hro;go_wp2_with fail;go_ret;exact⟨h+1,rfl,by omega,HA.o.congr fun i j hi _=>zgj z k i j Ws hi,HWb.o.trans (Y.o.below.mono (by omega))⟩
abbrev I4 (ia:oA) (il ic:Nat) (da:oA) (dl dc:Nat):Obj := .cells #[.slice ia il ic,.slice da dl dc] 40
abbrev pO (mb:Nat):Obj := .cells #[nP,.map (some mb)] 76
theorem zia (lo kb nb:Nat) (L:L1) (r:Rw) (w:wD) (hV:Vw lo kb nb w L r) (hb:w.heap[kb]?=some (Hf nb L r nP sP (iP 0) (iP 0) nP)) :
  Calls prog 13 #[qP kb] w fun e w'=>e = .returned (.tuple #[])/\∃ vS vD vs,Q3 kb nb L r w w' vS vD vs (Pk L.num L.mods 0 L.mods [] []).1 (Pk L.num L.mods 0 L.mods [] []).2:=by
 have hmm:=@run_makeMap prog
 have HV:=Za hV
 have HQ0:xQ (Q3 kb nb L r w w nP nP [] [] []):=⟨Zl.refl _ _,hb,World.ownsRow_nil _ _ _ _,World.ownsRow_nil _ _ _ _,(fun _ h=>nomatch h),xB hb,fun _=>rfl⟩
 obtain⟨⟨_,p1,_⟩,_,Z8⟩:=Mc hb
 have Uu:=hV.ml
 have Gf:=hV.lt2
 have hzm:((L.mods.length:Int)<=9223372036854775807):=by omega
 obtain⟨aM,Az⟩:=xE r.aM
 rw [<- Az] at p1
 have HaM:=Za Az
 clear Az hV hb
 obtain⟨i0,hi0,Ur,ha1,Us⟩:=info_parts gU
 go_enter func13,ntmps13
 go_wp2_with fail
 clear p1
 go_loopw [15] (fun i wr=>∃ (k:Nat) (vS vD:vL) (vs:List vL),k<=L.mods.length/\i=iP k/\xQ (Q3 kb nb L r w wr vS vD vs (Pk L.num L.mods 0 (L.mods.take k) [] []).1 (Pk L.num L.mods 0 (L.mods.take k) [] []).2)/\xQ ((Pk L.num L.mods 0 (L.mods.take k) [] []).1.length=k/\(Pk L.num L.mods 0 (L.mods.take k) [] []).2.length<=k*80000000)) (fun i _=>L.mods.length - (intOf i).toNat)
 case atStart=>exact⟨0,_,_,_,by omega,rfl,HQ0.o,⟨rfl,xR⟩⟩
 case round =>
  obtain⟨k,vS,vD,vs,hk,rfl,V,Ui⟩:=hrel;by_cases Z8:k<L.mods.length
  ·have Un:(k:Int)<(L.mods.length:Int):=by omega
   obtain⟨gM,x,G9,hgM1,A2,Fc,J0,Sq⟩:=HV.o.mod Z8;have Ip:aM=some (aP gM 0):=HaM.o.trans G9;subst Ip;obtain⟨ia,il,ic,da,dl,dc⟩:=x;obtain⟨Um,Ws,Zs,Z5,Fi,Xv,_⟩:=Sq;simp only at Um Ws Fi Xv Fc J0;have HGd:=Za (HV.o.good _ (List.getElem_mem Z8));have Zb:=aT L.num L.mods L.mods[k] (L.mods.take k) 0 [] [];rw [List.take_append_getElem Z8,List.length_take,Nat.min_eq_left (by omega),Nat.zero_add] at Zb
   have q0:wr.cell? (aP gM (k*2))=some (.slice ia il ic):=(Qh V.o.st (by omega) A2).trans Fc;have q1:wr.cell? (aP gM (k*2+1))=some (.slice da dl dc):=(Qh V.o.st (by omega) A2).trans J0;obtain⟨o,ho⟩:=xE (L.mods[k]);rw [<- ho] at Um Ws Zs Z5 Fi Xv HGd Zb;subst Um Ws;have Xc:=Za Zb;have Kv:=Za Fi;have HRd:=Za Xv;obtain⟨ess,hess⟩:=xE ((Pk L.num L.mods 0 (L.mods.take k) [] []).1)
   obtain⟨ds,Mi⟩:=xE ((Pk L.num L.mods 0 (L.mods.take k) [] []).2);rw [<- hess,<- Mi] at V Ui Xc;have HO:=Za (V.o.open (I4 ia o.is.length ic da o.ds.length dc))
   have Ab:wr.heap.size<(((wr.alloc (I4 ia o.is.length ic da o.ds.length dc)).alloc (.map #[] 0)).alloc (pO (wr.heap.size+1))).heap.size:=by rw [xS,xS,xS]; omega
   have HBA:xQ (Below wr.heap.size wr (((wr.alloc (I4 ia o.is.length ic da o.ds.length dc)).alloc (.map #[] 0)).alloc (pO (wr.heap.size+1)))):=Zz (Zz (Zq wr _) (Zq _ _)) (Zq _ _);have HY:xQ ((((wr.alloc (I4 ia o.is.length ic da o.ds.length dc)).alloc (.map #[] 0)).alloc (pO (wr.heap.size+1))).heap[wr.heap.size]?=some (I4 ia o.is.length ic da o.ds.length dc)):=(xA (by rw [xS,xS]; omega)).trans ((xA (by rw [xS]; omega)).trans (xL _ _))
   have HNY:xQ (¬ S2 kb (wr.heap.size+2) (wr.heap.size+1) vD nP wr.heap.size):=fun e=>by
    have h1:=xB V.o.box;rcases e with e | e | e | e | e
    ·omega
    ·have:=(V.o.rD.lt _ e).2
     omega
    ·omega
    ·omega
    ·cases e
   have hzi:((o.is.length:Int)<=9223372036854775807):=by omega
   have hzd:((o.ds.length:Int)<=9223372036854775807):=by omega
   clear Zb hess Mi Fi Xv Fc J0 ho;obtain⟨⟨y0,y1⟩,_,_⟩:=Nd HY.o;go_wp2_with fail;clear q0 q1 y0 y1;obtain⟨WA,hWA⟩:=xE ((((wr.alloc (I4 ia o.is.length ic da o.ds.length dc)).alloc (.map #[] 0)).alloc (pO (wr.heap.size+1))));rw [<- hWA] at HO Ab HBA HY ⊢;clear hWA
   have HOv:xQ (∀ w1 vD' vE' s,Q2 kb nb L r vS (wr.heap.size+2) (wr.heap.size+1) (wr.heap.size+3) w w1 vD' vE' s->R2 kb (wr.heap.size+2) (wr.heap.size+1) WA vD nP w1 vD' vE'->Q3 kb nb L r w w1 vS vD' vs ess s.2):=fun w1 vD' vE' s h1 T=>V.o.over HBA.o (by omega) (by omega) h1 T
   have hyw:w.heap.size<=wr.heap.size:=V.o.st.size;obtain⟨H,hyb⟩:=xE wr.heap.size;rw [<- hyb] at HO Ab HY HNY HOv hyw ⊢;clear hyb HBA V
   go_loopw [26] (fun i w2=>∃ (C:Nat) (vD' vE':vL),C<=o.is.length/\i=iP C/\xQ (Q2 kb nb L r vS (H+2) (H+1) (H+3) w w2 vD' vE' (Ae L.num L.mods k (o.is.take C) ([],ds)))/\xQ (R2 kb (H+2) (H+1) WA vD nP w2 vD' vE')/\xQ ((Ae L.num L.mods k (o.is.take C) ([],ds)).1.length<=C*8193/\(Ae L.num L.mods k (o.is.take C) ([],ds)).2.length<=ds.length+C*8193)) (fun i _=>o.is.length - (intOf i).toNat)
   case atStart=>exact⟨0,_,_,by omega,rfl,HO.o,R2.refl _ _ _ _ _ _,⟨xR,xR⟩⟩
   case round =>
    obtain⟨C,vD',vE',Tt,rfl,Lm,V8,Mr⟩:=hrel;by_cases A3:C<o.is.length
    ·have vV:(C:Int)<(o.is.length:Int):=by omega
     obtain⟨gi,hia,hgi1,Fe,c,_,Pf,na,nc,rfl,Yb,hnf⟩:=Re Kv.o A3;subst hia;have HIG:=Za (HGd.o.1 _ (List.getElem_mem A3));have Km:=gR L.num L.mods k o.is[C] (o.is.take C) ([],ds);rw [List.take_append_getElem A3] at Km;obtain⟨I,hI⟩:=xE (o.is[C]);rw [<- hI] at Pf Yb hnf HIG Km;have t0:wr.cell? (aP gi (C*4))=some (uP I.fr):=(Qh Lm.o.st (by omega) Fe).trans (Pf 0 (by omega))
     have t1:wr.cell? (aP gi (C*4+1))=some (.slice na I.ns.length nc):=(Qh Lm.o.st (by omega) Fe).trans (Pf 1 (by omega));have t2:wr.cell? (aP gi (C*4+2))=some (iP I.li):=(Qh Lm.o.st (by omega) Fe).trans (Pf 2 (by omega));have t3:wr.cell? (aP gi (C*4+3))=some (iP I.co):=(Qh Lm.o.st (by omega) Fe).trans (Pf 3 (by omega));have HNf:=Za hnf;have Gy:=Za Km;obtain⟨s',U7⟩:=xE (Ae L.num L.mods k (o.is.take C) ([],ds))
     rw [<- U7] at Lm Mr Gy;have HIl:=Za (zbt L.num L.mods k I s' Yb);clear Pf hnf Km hI U7;go_wp2_with fail;refine(zib lo kb nb k L r vS _ _ _ w _ vD' vE' s' I na nc lo HV.o (Lm.o.alloc _) HIG.o Yb HNf.o Gf (by have:=Mr.o.1; omega) (by have:=Mr.o.2; have:=Ui.o.2; omega)).mono ?_;rintro e w3 ⟨rfl,vD2,vE2,T,h3⟩;have H2:=Za T;have H3:=Za h3;clear T h3;go_wp2_with fail
     go_roundw
     case rel =>
      refine⟨C+1,vD2,vE2,by omega,by go_num,?_,?_,?_⟩
      ·show Q2 _ _ _ _ _ _ _ _ _ _ _ _ _
       rw [Gy.o];exact H2.o
      ·exact(V8.o.trans (R2.below (by have:=(Ob Lm.o).2; omega) (Zq _ _))).trans H3.o
      ·show _/\_
       rw [Gy.o];have h1:=HIl.o;have T:=Mr.o;omega
     case measure=>simp [intOf]; omega
    ·have vV:¬ (C:Int)<(o.is.length:Int):=by omega
     have e:o.is.take C=o.is:=List.take_of_length_le (by omega);rw [e] at Lm Mr
     have hk2e:C<=8193:=by omega
     obtain⟨s1,Xq⟩:=xE (Ae L.num L.mods k o.is ([],ds));rw [<- Xq] at Lm Mr;have Y5:=Za Xq;have hyk:=V8.o.chg.obj HY.o HNY.o;obtain⟨⟨y0,y1⟩,_,_⟩:=Nd hyk;clear Xq e hyk;go_wp2_with fail;clear y0 y1
     go_loopw [39] (fun i w3=>∃ (j:Nat) (vD2 vE2:vL),j<=o.ds.length/\i=iP j/\xQ (Q2 kb nb L r vS (H+2) (H+1) (H+3) w w3 vD2 vE2 (Qx k 0 (o.ds.take j) s1))/\xQ (R2 kb (H+2) (H+1) WA vD nP w3 vD2 vE2)/\xQ ((Qx k 0 (o.ds.take j) s1).1.length<=s1.1.length+j/\(Qx k 0 (o.ds.take j) s1).2.length<=s1.2.length+j)) (fun i _=>o.ds.length - (intOf i).toNat)
     case atStart=>exact⟨0,vD',vE',by omega,rfl,Lm.o,V8.o,⟨xR,xR⟩⟩
     case round =>
      obtain⟨j,vD2,vE2,Bk,rfl,A,HRe,F⟩:=hrel;by_cases Y:j<o.ds.length
      ·have hk3l':(j:Int)<(o.ds.length:Int):=by omega
       obtain⟨N,hda,hgd1,M,c,_,J,x,hxd,_⟩:=Re HRd.o Y;subst hda hxd;have HCG:=Za (HGd.o.2 _ (List.getElem_mem Y));have hsd:=kQ k o.ds[j] (o.ds.take j) 0 s1;rw [List.take_append_getElem Y,List.length_take,Nat.min_eq_left (by omega),Nat.zero_add] at hsd;obtain⟨d,hd⟩:=xE (o.ds[j]);rw [<- hd] at J HCG hsd;have t0:wr.cell? (aP N (j*15))=some (uP d.nm):=(Qh A.o.st (by omega) M).trans (J 0 (by omega))
       have t1:wr.cell? (aP N (j*15+1))=some (.bool d.ex):=(Qh A.o.st (by omega) M).trans (J 1 (by omega));have t2:wr.cell? (aP N (j*15+2))=some (.slice x.va d.vs x.vc):=(Qh A.o.st (by omega) M).trans (J 2 (by omega));have t3:wr.cell? (aP N (j*15+3))=some (.string x.pm):=(Qh A.o.st (by omega) M).trans (J 3 (by omega));have t4:wr.cell? (aP N (j*15+4))=some (.slice x.ta 2 x.tc):=(Qh A.o.st (by omega) M).trans (J 4 (by omega))
       have t5:wr.cell? (aP N (j*15+5))=some (iP x.k):=(Qh A.o.st (by omega) M).trans (J 5 (by omega));have t6:wr.cell? (aP N (j*15+6))=some (.string x.tx):=(Qh A.o.st (by omega) M).trans (J 6 (by omega));have t7:wr.cell? (aP N (j*15+7))=some (iP x.n):=(Qh A.o.st (by omega) M).trans (J 7 (by omega));have t8:wr.cell? (aP N (j*15+8))=some (iP x.a):=(Qh A.o.st (by omega) M).trans (J 8 (by omega))
       have t9:wr.cell? (aP N (j*15+9))=some (iP x.b):=(Qh A.o.st (by omega) M).trans (J 9 (by omega));have t10:wr.cell? (aP N (j*15+10))=some (.slice x.xa x.xl x.xc):=(Qh A.o.st (by omega) M).trans (J 10 (by omega));have t11:wr.cell? (aP N (j*15+11))=some (.slice x.ya x.yl x.yc):=(Qh A.o.st (by omega) M).trans (J 11 (by omega));have t12:wr.cell? (aP N (j*15+12))=some (.slice x.za x.zl x.zc):=(Qh A.o.st (by omega) M).trans (J 12 (by omega))
       have t13:wr.cell? (aP N (j*15+13))=some (iP d.li):=(Qh A.o.st (by omega) M).trans (J 13 (by omega));have t14:wr.cell? (aP N (j*15+14))=some (iP d.co):=(Qh A.o.st (by omega) M).trans (J 14 (by omega));have Z:=Za hsd;obtain⟨s',U7⟩:=xE (Qx k 0 (o.ds.take j) s1);rw [<- U7] at A F Z;have HDl:=Za (zaa k j d s');have Dl:=HCG.o.1;have hbn:=sR A.o (xR)
       have HBN:=Za hbn;clear J hsd hd U7 hbn;go_wp2_with fail;refine(add2 (A.o.alloc (G7 x d)) ⟨d.nm,k,j⟩ (by show d.nm.length<=_; omega) (by have:=F.o.1; have:=Mr.o.1; omega)).mono ?_;rintro e w5 ⟨rfl,vE5,T,h3⟩;have H3:=Za ((HRe.o.trans (R2.below (by have:=(Ob A.o).2; omega) (Zq _ (G7 x d)))).trans h3)
       cases U6:La s'.1 d.nm with
       | true =>
        have Sg:xQ (Qx k 0 (o.ds.take (j+1)) s1=(s'.1,s'.2 ++ [⟨k,d.li,d.co,8⟩])):=by show _=_; rw [Z.o]; unfold Ay; rw [U6]; rfl
        have H2:xQ (Q2 kb nb L r vS (H+2) (H+1) (H+3) w w5 vD2 vE5 s'):=by have h:=T; simp only [U6,if_true] at h; exact h
        have N3:=h3.chg.obj (xL wr (G7 x d)) HBN.o
        have d13:w5.cell? (aP wr.heap.size 13)=some (iP d.li):=by simp [World.cell?,N3]
        have d14:w5.cell? (aP wr.heap.size 14)=some (iP d.co):=by simp [World.cell?,N3]
        clear T h3 U6 N3;go_wp2_with fail;refine(tA H2.o ⟨k,d.li,d.co,8⟩ (by have:=F.o.2; have:=Mr.o.2; have:=Ui.o.2; omega)).mono ?_;rintro e w6 ⟨rfl,vD6,h4,h5⟩;have H4:=Za h4;have H5:=Za h5;clear h4 h5;go_wp2_with fail
        go_roundw
        case rel =>
         refine⟨j+1,vD6,vE5,by omega,by go_num,?_,H3.o.trans H5.o,?_⟩
         ·show Q2 _ _ _ _ _ _ _ _ _ _ _ _ _
          rw [Sg.o];exact H4.o
         ·show _/\_
          have h1:=HDl.o;have T:=F.o;rw [Z.o];omega
        case measure=>simp [intOf]; omega
       | false =>
        have Sg:xQ (Qx k 0 (o.ds.take (j+1)) s1=(s'.1 ++ [⟨d.nm,k,j⟩],s'.2)):=by show _=_; rw [Z.o]; unfold Ay; rw [U6]; rfl
        have H2:xQ (Q2 kb nb L r vS (H+2) (H+1) (H+3) w w5 vD2 vE5 (s'.1 ++ [⟨d.nm,k,j⟩],s'.2)):=by have h:=T; simp only [U6] at h; exact h
        clear T h3 U6;go_wp2_with fail
        go_roundw
        case rel =>
         refine⟨j+1,vD2,vE5,by omega,by go_num,?_,H3.o,?_⟩
         ·show Q2 _ _ _ _ _ _ _ _ _ _ _ _ _
          rw [Sg.o];exact H2.o
         ·show _/\_
          have h1:=HDl.o;have T:=F.o;rw [Z.o];omega
        case measure=>simp [intOf]; omega
      ·have hk3l':¬ (j:Int)<(o.ds.length:Int):=by omega
       have e:o.ds.take j=o.ds:=List.take_of_length_le (by omega);rw [e] at A F
       have HSc:xQ (Qx k 0 o.ds s1=zU L.num L.mods k o ds):=by show _=_; rw [Y5.o]; rfl
       rw [HSc.o] at A F;obtain⟨s2,Wj⟩:=xE (zU L.num L.mods k o ds);rw [<- Wj] at A F Xc;have O:=Za (HOv.o wr vD2 vE2 s2 A.o HRe.o);have HE:=Za (J9 A.o.sc.row (show w.heap.size<=H+3 by omega));obtain⟨aS,cS,rfl⟩:=Yt O.o.rS;obtain⟨aE,cE,rfl⟩:=Yt HE.o;have hb9:=Mc A.o.box;obtain⟨⟨_,_,c2,_⟩,hfr,Fh⟩:=hb9;have c2d:wr.drew.cell? (aP kb 2)=some (.slice aS ess.length cS):=c2
       obtain⟨⟨e0,_⟩,_,hsw⟩:=Nd A.o.sc.box;have e0d:wr.drew.cell? (aP (H+2) 0)=some (.slice aE s2.1.length cE):=e0;have hwl:w.heap.size<=wr.heap.size:=A.o.st.size
       have Fd:ess.length<=16:=by have:=Ui.o.1; omega
       clear e Wj;go_wp2_with fail
       apply onceQ3 (fun p n z=>xQ (z.ownsRow w.heap.size 42 1 (.slice p (ess.length+1) n) (ess.length+1) (vs ++ [.slice aE s2.1.length cE]))/\xQ ((wr.drew.alloc (.cells #[.slice aE s2.1.length cE] 42)).grownBy z (Value.slice aS ess.length cS).ownBlock)) (fun p n z=>z.setCell (aP kb 2) (.slice p (ess.length+1) n))
       ·go_region_law(refine El rfl (.tmp 65) (.tmp 70) 27 rfl w.heap.size 42 i0 _ 1 24 underlying27 hi0 Ur ha1 Us rfl (by decide) _ _ _ (by first | rfl | simp [Act.eval,Act.put]) ((show wr.drew.ownsRow w.heap.size 42 1 (.slice aS ess.length cS) ess.length vs from O.o.rS).alloc _) (aP wr.heap.size 0) 1 1 [.slice aE s2.1.length cE] (by first | rfl | simp [Act.eval,Act.put]) rfl (V2 _ _ _) (by simp [Value.oneCell']) (by unfold maxLen; omega) (by omega) (by show w.heap.size<=(wr.alloc _).heap.size; rw [xS]; omega) ?_; intro v' w6 Zr Zo Z4; obtain⟨aN',cN',rfl⟩:=Yt Zr; have Hm:=Za Zr; have Kt:=Za Zo; have HK6:=Za (zC (W:=wr.drew) O.o.box O.o.rS O.o.lt1 Zo); obtain⟨⟨_,_,b2,_⟩,g2,hk6⟩:=Mc HK6.o; clear Zr Zo Z4)
        all_goals exact⟨aN',cN',w6,⟨Hm.o,Kt.o⟩,rfl,rfl⟩
       ·rintro aN' cN' w6 ⟨Hm,Kt⟩
        have HQ4:=Za ((O.o.below (Below.refl _ wr).drew).push (show wr.drew.ownsRow w.heap.size 29 3 (.slice aE s2.1.length cE) s2.1.length (s2.1.flatMap Qa) from HE.o) Hm.o Kt.o);clear c2 c2d e0 e0d hfr;simp only [Exit.inBlock,Exit.then];go_wp2_with fail
        go_roundw
        case rel =>
         refine⟨k+1,.slice aN' (ess.length+1) cN',vD2,vs ++ [.slice aE s2.1.length cE],by omega,by go_num,?_,?_⟩
         ·show Q3 _ _ _ _ _ _ _ _ _ _ _
          rw [Xc.o];exact HQ4.o
         ·show _/\_
          rw [Xc.o];have h1:=F.o;have T:=Mr.o;have h3:=Ui.o;refine⟨by simp; omega,?_⟩;show s2.2.length<=_;omega
        case measure=>simp [intOf]; omega
  ·have Un:¬ (k:Int)<(L.mods.length:Int):=by omega
   have e:L.mods.take k=L.mods:=List.take_of_length_le (by omega);rw [e] at V;go_wp2_with fail;exact bodyPost_end (results_none rfl _ _ _) rfl ⟨rfl,vS,vD,vs,V.o⟩
structure Q4 (kb nb:Nat) (L:L1) (r:Rw) (vS c3 c4 c5:vL) (w0 w:wD) (vD:vL) (ds:List Dg):Prop where
 st:Zl kb w0 w
 box:w.heap[kb]?=some (Hf nb L r vS c3 c4 c5 vD)
 rD:w.ownsRow w0.heap.size 47 4 vD ds.length (ds.flatMap U3)
 lt1:kb<w0.heap.size
 nil:ds=[]->vD=nP
section
variable {kb nb : Nat} {L : L1} {r : Rw} {vS c3 c4 c5 vD : vL} {w0 w w1 : wD} {ds : List Dg}
theorem Q4.below (h:Q4 kb nb L r vS c3 c4 c5 w0 w vD ds) (j:Below w.heap.size w w1):Q4 kb nb L r vS c3 c4 c5 w0 w1 vD ds:=by
 have z:Z0 0 (fun _=>False) w w1:=Z0.of j (xZ _)
 exact⟨h.st.trans (Zl.of (by have:=h.lt1; have:=h.st.size; omega) j),z.obj h.box id,z.row h.rD fun _ _=>id,h.lt1,h.nil⟩
theorem pW (h:Q4 kb nb L r vS c3 c4 c5 w0 w vD ds) (d:Dg) (C:ds.length<=1000000000000) :
  Calls prog 23 #[qP kb,iP d.m,iP d.li,iP d.co,iP d.er] w fun e w'=>e = .returned (.tuple #[])/\∃ vD',Q4 kb nb L r vS c3 c4 c5 w0 w' vD' (ds ++ [d])/\∀ b n f,w0.heap.size<=b->Uz w b n f->Uz w' b n f :=
 (bV kb w0.heap.size ds.length d _ w _ _ _ _ _ _ _ _ vD h.box h.rD h.lt1 h.st.size C).mono fun e w' ⟨h1,vD',h2,h3,h4,h5⟩=>by
  refine⟨h1,vD',⟨pT h.st h5 fun b e=>e.imp_right fun e=>(h.rD.lt b e).1,h2,?_,h.lt1,fun e=>absurd e (by simp)⟩,fun b n f hb z=>z.block (h5.keep b z.lt fun e=>?_)⟩
  ·rw [List.length_append,List.flatMap_append]
   simpa using h3
  ·have:=h.lt1
   rcases e with e | e
   ·omega
   ·obtain⟨c,A⟩:=Jl h.rD e
    obtain⟨cs,j,_⟩:=z;rw [A] at j;injection j with j;injection j with _ j;cases j
end
theorem kD (num:Wo) (h:List (List Bool)) (m:Nat) (i:Vx):∀ (l:List Vx) (ds:List Dg),Aw num h m (l ++ [i]) ds=if (h.getD (Fl num i.fr) Vh).getD m false then Aw num h m l ds ++ [⟨m,i.li,i.co,13⟩] else Aw num h m l ds
 | [],_=>rfl
 | _ :: l,_=>kD num h m i l _
theorem kF (num:Wo) (h:List (List Bool)) (o:Mo):∀ (l:List Mo) (m:Nat) (ds:List Dg),G6 num h m (l ++ [o]) ds=Aw num h (m+l.length) o.is (G6 num h m l ds)
 | [],_,_=>rfl
 | x :: l,m,ds=>by
  show G6 num h (m+1) (l ++ [o]) _=_;rw [kF num h o l];simp only [G6,List.length_cons];rw [show m+1+l.length=m+(l.length+1) by omega]
theorem o8 (lo kb nb:Nat) (L:L1) (r:Rw) (w:wD) (vS c3 c4 c5:vL) (O:Vw lo kb nb w L r) (hb:w.heap[kb]?=some (Hf nb L r vS c3 c4 c5 nP)) :
  Calls prog 14 #[qP kb] w fun e w'=>e = .returned (.tuple #[])/\∃ vD,Q4 kb nb L r vS c3 c4 c5 w w' vD (G6 L.num (Ai (Pu L.num L.mods)) 0 L.mods []):=by
 have HV:=Za O
 have H:=Za (zgn lo kb nb L r w vS c3 c4 c5 _ O hb)
 have HQ0:xQ (Q4 kb nb L r vS c3 c4 c5 w w nP []):=⟨Zl.refl _ _,hb,World.ownsRow_nil _ _ _ _,xB hb,fun _=>rfl⟩
 have Uu:=O.ml
 have Gf:=O.lt2
 have yV:=O.lt1
 have hzm:((L.mods.length:Int)<=9223372036854775807):=by omega
 obtain⟨aM,Az⟩:=xE r.aM
 have HaM:=Za Az
 obtain⟨z,A⟩:=xE (Ai (Pu L.num L.mods))
 obtain⟨G,hG⟩:=xE (reG (Pu L.num L.mods))
 have HGr:xQ (∀ i j,G i j=(z.getD i Vh).getD j false):=fun i j=>by rw [hG,A]; rfl
 rw [<- A]
 rw [<- hG] at H
 clear O hb A hG
 go_enter func14,ntmps14
 go_wp2_with fail
 refine H.o.mono ?_
 rintro e w1 ⟨rb,rfl,Bp,h1,T⟩
 have Ye:=Za h1
 have F3:=Za (HQ0.o.below T)
 obtain⟨⟨_,p1,_⟩,_,_⟩:=Mc (HQ0.o.below T).box
 rw [<- Az] at p1
 clear h1 T H Az
 go_wp2_with fail
 clear p1
 go_loopw [15] (fun i wr=>∃ (k:Nat) (vD:vL),k<=L.mods.length/\i=iP k/\xQ (Q4 kb nb L r vS c3 c4 c5 w wr vD (G6 L.num z 0 (L.mods.take k) []))/\xQ (Uz wr rb L.mods.length G)/\xQ ((G6 L.num z 0 (L.mods.take k) []).length<=k*10000)) (fun i _=>L.mods.length - (intOf i).toNat)
 case atStart=>exact⟨0,_,by omega,rfl,F3.o,Ye.o,xR⟩
 case round =>
  obtain⟨k,vD,hk,rfl,M,Y,Ui⟩:=hrel;by_cases Z8:k<L.mods.length
  ·have Un:(k:Int)<(L.mods.length:Int):=by omega
   obtain⟨gM,x,G9,hgM1,A2,Fc,J0,Sq⟩:=HV.o.mod Z8;have Ip:aM=some (aP gM 0):=HaM.o.trans G9;subst Ip;obtain⟨ia,il,ic,da,dl,dc⟩:=x;obtain⟨Um,Ws,Zs,Z5,Fi,Xv,_⟩:=Sq;simp only at Um Ws Fi Xv Fc J0;have Z:=Za (HV.o.good _ (List.getElem_mem Z8));have Zb:=kF L.num z L.mods[k] (L.mods.take k) 0 [];rw [List.take_append_getElem Z8,List.length_take,Nat.min_eq_left (by omega),Nat.zero_add] at Zb
   have q0:wr.cell? (aP gM (k*2))=some (.slice ia il ic):=(Qh M.o.st (by omega) A2).trans Fc;have q1:wr.cell? (aP gM (k*2+1))=some (.slice da dl dc):=(Qh M.o.st (by omega) A2).trans J0;obtain⟨o,ho⟩:=xE (L.mods[k]);rw [<- ho] at Um Ws Zs Z5 Fi Xv Z Zb;subst Um Ws;have Xc:=Za Zb;have Kv:=Za Fi;obtain⟨ds,Mi⟩:=xE (G6 L.num z 0 (L.mods.take k) []);rw [<- Mi] at M Ui Xc
   have hzi:((o.is.length:Int)<=9223372036854775807):=by omega
   have HQ2:=Za (M.o.below (Zq wr (I4 ia o.is.length ic da o.ds.length dc)));have Xa:xQ (Uz (wr.alloc (I4 ia o.is.length ic da o.ds.length dc)) rb L.mods.length G):=Y.o.block (xA Y.o.lt);clear Fi Xv Fc J0 ho Zb Mi;go_wp2_with fail;clear q0 q1
   go_loopw [23] (fun i w2=>∃ (h:Nat) (vD':vL),h<=o.is.length/\i=iP h/\xQ (Q4 kb nb L r vS c3 c4 c5 w w2 vD' (Aw L.num z k (o.is.take h) ds))/\xQ (Uz w2 rb L.mods.length G)/\xQ ((Aw L.num z k (o.is.take h) ds).length<=ds.length+h)) (fun i _=>o.is.length - (intOf i).toNat)
   case atStart=>exact⟨0,vD,by omega,rfl,HQ2.o,Xa.o,xR⟩
   case round =>
    obtain⟨h,vD',Tt,rfl,Lm,Hi,Mr⟩:=hrel;by_cases A3:h<o.is.length
    ·have vV:(h:Int)<(o.is.length:Int):=by omega
     obtain⟨gi,hia,hgi1,Fe,c,_,V,na,nc,rfl,Yb,hnf⟩:=Re Kv.o A3;subst hia;have HIG:=Za (Z.o.1 _ (List.getElem_mem A3));have N:=kD L.num z k o.is[h] (o.is.take h) ds;rw [List.take_append_getElem A3] at N;obtain⟨I,hI⟩:=xE (o.is[h]);rw [<- hI] at V HIG N;have t0:wr.cell? (aP gi (h*4))=some (uP I.fr):=(Qh Lm.o.st (by omega) Fe).trans (V 0 (by omega));have t1:wr.cell? (aP gi (h*4+1))=some (.slice na I.ns.length nc):=(Qh Lm.o.st (by omega) Fe).trans (V 1 (by omega))
     have t2:wr.cell? (aP gi (h*4+2))=some (iP I.li):=(Qh Lm.o.st (by omega) Fe).trans (V 2 (by omega));have t3:wr.cell? (aP gi (h*4+3))=some (iP I.co):=(Qh Lm.o.st (by omega) Fe).trans (V 3 (by omega))
     have hS:(⟨I.fr.toArray⟩:bA).size<=maxLen:=by have:=HIG.o.1; simp [ByteArray.size]; unfold maxLen; omega
     have htn:=HV.o.numOf_lt (by omega) I.fr;have C:=Za (Lm.o.below (Zz (Zq wr (Pi I na nc)) (Below.refl _ _).drew));have Np:=dW ((HV.o.stay C.o.st).num) ⟨I.fr.toArray⟩ hS;rw [show(⟨I.fr.toArray⟩:bA).data.toList=I.fr by simp] at Np;obtain⟨t,ht⟩:=xE (Fl L.num I.fr);rw [show(Yp L.num I.fr).getD 0=t from ht.symm] at Np;rw [<- ht,<- HGr.o t k] at N;rw [<- ht] at htn;have J:xQ (Uz (wr.alloc (Pi I na nc)).drew rb L.mods.length G):=Hi.o.block (xA Hi.o.lt)
     obtain⟨Dh,_⟩:=J.o.cell htn (by omega:k<16);obtain⟨⟨_,_,_,_,_,_,p6,_⟩,_,hkbl⟩:=Mc C.o.box;obtain⟨⟨i0,i1,i2,i3⟩,_,_⟩:=Yh (show(wr.alloc (Pi I na nc)).drew.heap[wr.heap.size]?=some (Pi I na nc) from xL _ _)
     have htz:(t:Int)<(L.mods.length:Int):=by omega
     have hkz:(k:Int)<16:=by omega
     obtain⟨ds',hds'⟩:=xE (Aw L.num z k (o.is.take h) ds);rw [<- hds'] at Lm C Mr N;have F:=Za N;clear V hnf N hI ht hds';go_wp2_with fail
     cases hx:G t k with
     | true =>
      rw [hx] at Dh F;rw [if_pos rfl] at F
      apply xY (wr.alloc (Pi I na nc)).drew
      ·go_region
       all_goals exact⟨rfl,rfl⟩
      ·clear Np hx Dh
       go_wp2_with fail;refine(pW C.o ⟨k,I.li,I.co,13⟩ (by have:=Mr.o; have:=Ui.o; omega)).mono ?_;rintro e w3 ⟨rfl,vD3,T,h3⟩;have H2:=Za T;have H3:=Za (h3 rb _ _ (by omega) J.o);clear T h3;go_wp2_with fail
       go_roundw
       case rel =>
        refine⟨h+1,vD3,by omega,by go_num,?_,H3.o,?_⟩
        ·show Q4 _ _ _ _ _ _ _ _ _ _ _ _
         rw [F.o];exact H2.o
        ·show _<=_
         rw [F.o];have:=Mr.o;simp;omega
       case measure=>simp [intOf]; omega
     | false =>
      rw [hx] at Dh F;rw [if_neg (by simp)] at F
      apply xY (wr.alloc (Pi I na nc)).drew
      ·go_region
       all_goals exact⟨rfl,rfl⟩
      ·clear Np hx Dh
       go_wp2_with fail
       go_roundw
       case rel =>
        refine⟨h+1,vD',by omega,by go_num,?_,J.o,?_⟩
        ·show Q4 _ _ _ _ _ _ _ _ _ _ _ _
         rw [F.o];exact C.o
        ·show _<=_
         rw [F.o];have:=Mr.o;omega
       case measure=>simp [intOf]; omega
    ·have vV:¬ (h:Int)<(o.is.length:Int):=by omega
     have e:o.is.take h=o.is:=List.take_of_length_le (by omega);rw [e] at Lm Mr;go_wp2_with fail
     go_roundw
     case rel =>
      refine⟨k+1,vD',by omega,by go_num,?_,Hi.o,?_⟩
      ·show Q4 _ _ _ _ _ _ _ _ _ _ _ _
       rw [Xc.o];exact Lm.o
      ·show _<=_
       rw [Xc.o];have:=Mr.o;have:=Ui.o;omega
     case measure=>simp [intOf]; omega
  ·have Un:¬ (k:Int)<(L.mods.length:Int):=by omega
   have e:L.mods.take k=L.mods:=List.take_of_length_le (by omega);rw [e] at M;go_wp2_with fail;exact bodyPost_end (results_none rfl _ _ _) rfl ⟨rfl,vD,M.o⟩
abbrev Uc:ByteArray:=⟨#[109,97,105,110]⟩
def MainR (kb nb:Nat) (L:L1) (r:Rw) (vS:vL) (w w':wD) (R:(Nat×Nat)⊕Dg):Prop:=match R with
 | .inr d=>∃ vD,Q4 kb nb L r vS sP (iP 0) (iP 0) w w' vD [d]
 | .inl (m,i)=>w'.heap[kb]?=some (Hf nb L r vS (.string Uc) (iP m) (iP i) nP)/\Zl kb w w'
theorem main_c (lo kb nb:Nat) (L:L1) (r:Rw) (w:wD) (vS:vL) (hV:Vw lo kb nb w L r) (Z:w.heap[kb]?=some (Hf nb L r vS sP (iP 0) (iP 0) nP)) :
  Calls prog 15 #[qP kb] w fun e w'=>e = .returned (.tuple #[])/\MainR kb nb L r vS w w' (I3 L.num L.mods):=by
 have HV:=Za hV
 have HB:=Za Z
 have C:xQ (Q4 kb nb L r vS sP (iP 0) (iP 0) w w nP []):=⟨Zl.refl _ _,Z,World.ownsRow_nil _ _ _ _,xB Z,fun _=>rfl⟩
 obtain⟨⟨p0,p1,p2,p3,p4,p5,p6,p7,p8⟩,hfr,Z8⟩:=Mc Z
 have N:Uc.size<=maxLen:=by unfold maxLen; decide
 have Uu:=hV.ml
 have hzm:((L.mods.length:Int)<=9223372036854775807):=by omega
 have F:=Za hV.num
 obtain⟨R,h⟩:=xE (I3 L.num L.mods)
 rw [<- h]
 unfold I3 at h
 clear hV Z p0 p2 p8
 cases hk:Yp L.num R9 with
 | none =>
  have V:xQ (Yp L.num Uc.data.toList=none):=hk;rw [hk] at h;have O:=Za h;clear h hk;go_enter func15,ntmps15
  go_wp2_with(first
   | (at_lookup; refine Ao rfl _ _ rfl nb L.num rfl F.o Uc rfl N none V.o ?_)
   | fail)
  refine(pW C.o ⟨0,1,1,14⟩ (by simp)).mono ?_;rintro e w2 ⟨rfl,vD,I,_⟩;have H2:=Za I;clear I;go_wp2_with fail;refine bodyPost_ret (results_none rfl _ _ _) rfl ⟨rfl,?_⟩;rw [O.o];exact⟨vD,H2.o⟩
 | some m =>
  have V:xQ (Yp L.num Uc.data.toList=some m):=hk;rw [hk] at h;have A:=HV.o.num_lt hk
  have Nq:L.mods.getD m Jh=L.mods[m]:=by rw [List.getD_eq_getElem?_getD,List.getElem?_eq_getElem A,Option.getD_some]
  simp only [Nq] at h;obtain⟨gF,J,haF,hgF1,hgF2,hcF,hfb1,T⟩:=HV.o.fst A;obtain⟨gM,x,G9,hgM1,A2,Fc,J0,Sq⟩:=HV.o.mod A;obtain⟨o,ho⟩:=xE (L.mods[m]);rw [<- ho] at T Sq h;have M:=Za T;rw [haF] at p7;rw [G9] at p1
  have hmi:(m:Int)<(L.mods.length:Int):=by omega
  clear hk Nq ho T
  cases Tt:Yp (Mt o) R9 with
  | none =>
   have Ny:xQ (Yp (Mt o) Uc.data.toList=none):=Tt;rw [Tt] at h;have O:=Za h;clear h Tt;go_enter func15,ntmps15
   go_wp2_with(first
    | (at_lookup; refine Ao rfl (.tmp 10) _ rfl nb L.num rfl F.o Uc rfl N (some m) V.o ?_)
    | (at_lookup; refine Ao rfl (.tmp 25) _ rfl J (Mt o) rfl M.o Uc rfl N none Ny.o ?_)
    | fail)
   refine(pW C.o ⟨m,1,1,14⟩ (by simp)).mono ?_;rintro e w2 ⟨rfl,vD,I,_⟩;have H2:=Za I;clear I;go_wp2_with fail;refine bodyPost_ret (results_none rfl _ _ _) rfl ⟨rfl,?_⟩;rw [O.o];exact⟨vD,H2.o⟩
  | some i =>
   have Ny:xQ (Yp (Mt o) Uc.data.toList=some i):=Tt;rw [Tt] at h;have Um:=jT Tt
   have Y:o.ds.getD i Ed=o.ds[i]:=by rw [List.getD_eq_getElem?_getD,List.getElem?_eq_getElem Um,Option.getD_some]
   simp only [Y] at h;obtain⟨_,Ws,_,hdl2,_,Xv,_⟩:=Sq;obtain⟨z,hda,hgd1,Bi,c,_,j,y,hxd,hvs⟩:=Re Xv Um;subst hxd;rw [hda,Ws] at J0;obtain⟨d,hd⟩:=xE (o.ds[i]);rw [<- hd] at j h hvs;have t0:w.cell? (aP z (i*15))=some (uP d.nm):=j 0 (by omega);have t1:w.cell? (aP z (i*15+1))=some (.bool d.ex):=j 1 (by omega);have t2:w.cell? (aP z (i*15+2))=some (.slice y.va d.vs y.vc):=j 2 (by omega)
   have t3:w.cell? (aP z (i*15+3))=some (.string y.pm):=j 3 (by omega);have t4:w.cell? (aP z (i*15+4))=some (.slice y.ta 2 y.tc):=j 4 (by omega);have t5:w.cell? (aP z (i*15+5))=some (iP y.k):=j 5 (by omega);have t6:w.cell? (aP z (i*15+6))=some (.string y.tx):=j 6 (by omega);have t7:w.cell? (aP z (i*15+7))=some (iP y.n):=j 7 (by omega);have t8:w.cell? (aP z (i*15+8))=some (iP y.a):=j 8 (by omega)
   have t9:w.cell? (aP z (i*15+9))=some (iP y.b):=j 9 (by omega);have t10:w.cell? (aP z (i*15+10))=some (.slice y.xa y.xl y.xc):=j 10 (by omega);have t11:w.cell? (aP z (i*15+11))=some (.slice y.ya y.yl y.yc):=j 11 (by omega);have t12:w.cell? (aP z (i*15+12))=some (.slice y.za y.zl y.zc):=j 12 (by omega);have t13:w.cell? (aP z (i*15+13))=some (iP d.li):=j 13 (by omega)
   have t14:w.cell? (aP z (i*15+14))=some (iP d.co):=j 14 (by omega)
   have hii:(i:Int)<(o.ds.length:Int):=by omega
   have hdz:((o.ds.length:Int)<=9223372036854775807):=by omega
   have hvz:((d.vs:Int)<=9223372036854775807):=by omega
   clear Tt j Xv hd Y;by_cases hv:0<d.vs
   ·rw [if_pos hv] at h
    have O:=Za h
    have Gh:(0:Int)<(d.vs:Int):=by omega
    have F3:=Za (C.o.below (Zq w (G7 y d)));clear h;go_enter func15,ntmps15
    go_wp2_with(first
     | (at_lookup; refine Ao rfl (.tmp 10) _ rfl nb L.num rfl F.o Uc rfl N (some m) V.o ?_)
     | (at_lookup; refine Ao rfl (.tmp 25) _ rfl J (Mt o) rfl M.o Uc rfl N (some i) Ny.o ?_)
     | fail)
    refine(pW F3.o ⟨m,d.li,d.co,14⟩ (by simp)).mono ?_;rintro e w2 ⟨rfl,vD,I,_⟩;have H2:=Za I;clear I;go_wp2_with fail;refine bodyPost_ret (results_none rfl _ _ _) rfl ⟨rfl,?_⟩;rw [O.o];exact⟨vD,H2.o⟩
   ·rw [if_neg hv] at h
    have O:=Za h
    have Gh:¬ (0:Int)<(d.vs:Int):=by omega
    have F3:=Za (C.o.below (Zq w (G7 y d)));obtain⟨⟨_,_,_,a3,a4,a5,_⟩,H,hka⟩:=Mc F3.o.box;have f3:=H 3;have f4:=H 4;have f5:=H 5;clear h H;go_enter func15,ntmps15
    go_wp2_with(first
     | (at_lookup; refine Ao rfl (.tmp 10) _ rfl nb L.num rfl F.o Uc rfl N (some m) V.o ?_)
     | (at_lookup; refine Ao rfl (.tmp 25) _ rfl J (Mt o) rfl M.o Uc rfl N (some i) Ny.o ?_)
     | fail)
    refine bodyPost_end (results_none rfl _ _ _) rfl ⟨rfl,?_⟩;rw [O.o];show _/\_;refine⟨?_,?_⟩
    ·have:=Y1 (o:=5) (u:=iP i) (Y1 (o:=4) (u:=iP m) (Y1 (o:=3) (u := .string Uc) HB.o))
     refine(xA (by rw [Yg,Yg,Yg]; exact Z8)).trans ?_
     simpa using this
    ·exact((((Zl.refl kb w).set 3 _).set 4 _).set 5 _).alloc Z8 _
structure O2 (lo:Nat) (w:wD) (x:Lk) (r:Rw) (aS:oA) (cS:Nat) (vs:List vL):Prop where
 rN:Tf E2 1 lo w r.aN x.names
 rM:Tf M4 2 lo w r.aM x.mods
 rS:w.ownsRow lo 42 1 (.slice aS x.scopes.length cS) x.scopes.length vs
 rE:∀ i (h1:i<vs.length) (h2:i<x.scopes.length),w.ownsRow lo 29 3 vs[i] x.scopes[i].length (x.scopes[i].flatMap Qa)
 good:∀ o ∈ x.mods,Aq o
 ml:x.mods.length<=16
abbrev lkV (x:Lk) (r:Rw) (aS:oA) (cS:Nat):vL := .agg #[.slice r.aN x.names.length r.cN,.slice r.aM x.mods.length r.cM,.slice aS x.scopes.length cS,.string Uc,iP x.main.1,iP x.main.2]
abbrev lkZ:vL := .agg #[nP,nP,nP,sP,iP 0,iP 0]
def wZ (w:wD) (R:Lk⊕List Dg) (e:Ending) (w':wD):Prop:=Below w.heap.size w w'/\match R with
 | .inl x=>∃ r aS cS vs,e = .returned (.tuple #[lkV x r aS cS,nP])/\O2 w.heap.size w' x r aS cS vs
 | .inr ds=>∃ vD,e = .returned (.tuple #[lkZ,vD])/\w'.ownsRow w.heap.size 47 4 vD ds.length (ds.flatMap U3)
theorem qG {α β:Type} (f:α->β):∀ l:List α,(l.map fun x=>[f x]).flatten=l.map f
 | []=>rfl
 | x :: l=>by simp [qG f l]
theorem vw_of {lo kb nb:Nat} {w:wD} {L:L1} {vN vM vF vD:vL} {xs:List MV} {fb:List Nat} (h:P1 lo kb nb w L vN vM vF vD xs fb) (A:fb.length=L.mods.length) (T:L.ds=[]) (hv:∀ p ∈ L.num,p.2<L.mods.length) (hm:L.mods.length<=16):∃ r,Vw lo kb nb w L r/\w.heap[kb]?=some (Hf nb L r nP sP (iP 0) (iP 0) nP):=by
 obtain⟨M,C,rfl⟩:=Yt h.rN
 obtain⟨J,H,rfl⟩:=Yt h.rM
 obtain⟨O,F,rfl⟩:=Yt h.rF
 have I:=h.box
 rw [h.nil T,A] at I
 refine⟨⟨M,C,J,H,O,F⟩,⟨h.num,?_,?_,?_,h.good,hv,hm,h.lt1,h.lt2,h.lt3⟩,I⟩
 ·refine uM (et:=9) (cap:=C) (n:=L.names.length) (cs:=L.names.map fun s=>[Le s]) ?_ rfl (by simp) (by simp) fun i j z=>by simp [E2]
  rw [qG];exact h.rN
 ·refine uM (et:=40) (cap:=H) (n:=L.mods.length) (cs:=xs.map Q0) ?_ rfl (by simp [h.xl]) (by simp) fun i j z=>?_
  ·rw [<- List.flatMap_def]
   exact h.rM
  ·rw [List.getElem_map]
   exact(h.mods i (by simpa using j) z).now Cn
 ·refine uM (et:=49) (cap:=F) (n:=fb.length) (cs:=fb.map fun b=>[.map (some b)]) ?_ A (by simp [A]) (by simp) fun i j z=>?_
  ·rw [qG]
   exact h.rF
  ·rw [List.getElem_map]
   obtain⟨N,V⟩:=h.fst i (by simpa using j) z;exact⟨_,rfl,N,V⟩
theorem zdp (m:Nat) (a b:Bs) (s:L1) (A:s.ds=[]->s.mods.length=m/\∀ p ∈ s.num,p.2<m):(Tx m a b s).ds=[]->(Tx m a b s).mods.length=m+1/\∀ p ∈ (Tx m a b s).num,p.2<m+1:=by
 unfold Tx
 split
 ·intro h; simp at h
 ·split
  ·intro h; simp at h
  ·split
   ·intro h; simp at h
   ·intro h
    obtain⟨z,C⟩:=A h;refine⟨by simp [z],fun p j=>?_⟩;rcases List.mem_cons.1 j with rfl | j
    ·show m<m+1
     omega
    ·have:=C p j
     omega
theorem zdl (m:Nat) (a b:Bs) (s:L1) (h:(Tx m a b s).ds=[]):s.ds=[]:=by
 revert h
 unfold Tx
 split
 ·intro h; simp at h
 ·split
  ·intro h; simp at h
  ·split
   ·intro h; simp at h
   ·exact id
theorem sW:∀ (l:List (Bs×Bs)) (m:Nat) (s:L1),(s.ds=[]->s.mods.length=m/\∀ p ∈ s.num,p.2<m)->(Q5 m l s).ds=[]->(Q5 m l s).mods.length=m+l.length/\∀ p ∈ (Q5 m l s).num,p.2<m+l.length
 | [],m,s,h,hd=>h hd
 | x :: l,m,s,h,hd=>by
  have:=sW l (m+1) (Tx m x.1 x.2 s) (fun j=>?_) hd
  ·simp only [Q5,List.length_cons]
   rw [show m+(l.length+1)=m+1+l.length by omega];exact this
  ·exact zdp m x.1 x.2 s h j
theorem pK {l:List (Bs×Bs)} (h:(Y6 l).ds=[]):(Y6 l).mods.length=l.length/\l.length<=16/\∀ p ∈ (Y6 l).num,p.2<l.length:=by
 unfold Y6 at h ⊢
 by_cases j:16<l.length
 ·rw [if_pos j] at h
  cases h
 ·rw [if_neg j] at h ⊢
  have:=sW l 0 L0 (fun _=>⟨rfl,fun _ h=>nomatch h⟩) h;rw [Nat.zero_add] at this;exact⟨this.1,by omega,this.2⟩
theorem zjv (lo kb nb pb b0:Nat) (a:oA) (cap:Nat) (l:List G1) (vN vM vF vD:vL) (w:wD) (j:P1 lo kb nb w L0 vN vM vF vD [] []) (z:Lx.Words w) (hv:0<nb) (C:Kz nb w a l) (M:l.length<=1000) (F:∀ p ∈ l,p.1.size<=140737488351232/\p.2.size<=140737488351232)
  (h1:w.cell? (aP pb 0)=some (qP kb)) (h2:w.cell? (aP b0 0)=some (.slice a l.length cap)) :
  Calls prog 11 #[qP pb,qP b0] w (tQ lo kb nb w (Y6 (Y3 l))):=by
 have I:=Za (zgq lo kb nb a cap l vN vM vF vD w j z hv C M F)
 clear j z hv C F
 go_enter func11,ntmps11
 go_wp2_with fail
 refine I.o.mono ?_
 rintro e w2 ⟨rfl,h,A⟩
 have J:=Za h
 have H:=Za A
 clear h A
 go_wp2_with fail
 exact bodyPost_end (results_none rfl _ _ _) rfl ⟨rfl,J.o,H.o⟩
theorem Fp {A:Func} {p q:Tmp} {z:TypeId} (h:A.results=#[.cell p z,.tmp q]) (j:Array vL) {P:Program} {w:wD} {g:Nat} {t:TypeId} {cs:Array vL} {H:Array Field} {v:vL}
  (I:j.getD p undef=qP g) (J:w.heap[g]?=some (.cells cs t)) (C:P.underlying z=some (.struct H)) (N:(P.info? z).map (·.size)=some cs.size) (M:j.getD q undef=v) :
  (results A j).run P w = .ok (.tuple #[.agg cs,v]) w:=by
 have O:j[p]?.getD undef=qP g:=by simpa using I
 have F:j[q]?.getD undef=v:=by simpa using M
 simp [results,h,O,F,asAddr,run_loadVar_row w g t z cs (0,0) _ J C rfl N]
abbrev P3 (w:wD) (b:Nat) (x0 x1 x2 x3 x4 x5:vL):wD:=(((((w.setCell (aP b 0) x0).setCell (aP b 1) x1).setCell (aP b 2) x2).setCell (aP b 3) x3).setCell (aP b 4) x4).setCell (aP b 5) x5
abbrev Kq (x0 x1 x2 x3 x4 x5:vL):Obj := .cells #[x0,x1,x2,x3,x4,x5] 31
theorem Cq {w:wD} {b:Nat} {y0 y1 y2 y3 y4 y5:vL} (h:w.heap[b]?=some (Kq y0 y1 y2 y3 y4 y5)) (j C F z H A:vL):(P3 w b j C F z H A).heap[b]?=some (Kq j C F z H A):=by
 have:=Y1 (o:=5) (u:=A) (Y1 (o:=4) (u:=H) (Y1 (o:=3) (u:=z) (Y1 (o:=2) (u:=F) (Y1 (o:=1) (u:=C) (Y1 (o:=0) (u:=j) h)))))
 simpa using this
theorem Oa (w:wD) (b:Nat) (h A C j F z:vL):Z0 b (fun q=>q=b) w (P3 w b h A C j F z) :=
 (((((Z0.refl b (fun q=>q=b) w).set (xR) (fun _=>rfl) 0 _).set (xR) (fun _=>rfl) 1 _).set (xR) (fun _=>rfl) 2 _).set (xR) (fun _=>rfl) 3 _).set (xR) (fun _=>rfl) 4 _ |>.set (xR) (fun _=>rfl) 5 _
theorem Pc {W:wD} {b:Nat} {c0 c1 c2 c3 c4 c5:vL} {t:TypeId} (h:W.heap[b]?=some (.cells #[c0,c1,c2,c3,c4,c5] t)) :
  (c6 W b c0 c1 c2 c3 c4 c5) /\
  (∀ o,W.frozen? (aP b o)=false)/\b<W.heap.size:=by
 refine⟨⟨?_,?_,?_,?_,?_,?_⟩,fun o=>by simp [World.frozen?,h],xB h⟩ <;> simp [World.cell?,h]
abbrev fn1 (q:Nat):vL := .func (.func 11) #[] #[qP (q+4),qP q]
abbrev fnK (f q:Nat):vL := .func (.func f) #[qP (q+3)] #[]
abbrev bY (q:Nat):Obj := .cells #[fn1 q,fnK 13 q,fnK 14 q,fnK 15 q] 1
abbrev z6:Obj:=Kq nP nP nP sP (iP 0) (iP 0)
structure Cy (q:Nat) (a:oA) (n cap:Nat) (w wr:wD):Prop where
 bl:Below q w wr
 o0:wr.heap[q]?=some (.cells #[.slice a n cap] 22)
 o1:wr.heap[q+1]?=some z6
 o4:wr.heap[q+4]?=some (.cells #[qP (q+3)] 48)
 o5:wr.heap[q+5]?=some (bY q)
theorem Cy.kp {q n cap:Nat} {a:oA} {w wr w':wD} (h:Cy q a n cap w wr) (k:Kp (q+2) (q+3) (q+6) wr w'):Cy q a n cap w w' :=
 ⟨h.bl.trans (k.below.mono (by omega)),(k.below.block _ (by omega)).trans h.o0,(k.below.block _ (by omega)).trans h.o1,(k.mid _ (by omega) (by omega)).trans h.o4,(k.mid _ (by omega) (by omega)).trans h.o5⟩
theorem Cy.stay {q n cap:Nat} {a:oA} {w wr w':wD} (h:Cy q a n cap w wr) (k:Zl (q+3) wr w'):Cy q a n cap w w' :=
 ⟨h.bl.trans (k.below.mono (by omega)),(k.below.block _ (by omega)).trans h.o0,(k.below.block _ (by omega)).trans h.o1,(k.keep _ (by omega) (xB h.o4)).trans h.o4,(k.keep _ (by omega) (xB h.o5)).trans h.o5⟩
structure vH (q:Nat) (wr:wD) (vS:vL) (vs:List vL) (ess:List (List En)):Prop where
 rS:wr.ownsRow q 42 1 vS ess.length vs
 rE:∀ i (h1:i<vs.length) (h2:i<ess.length),wr.ownsRow q 29 3 vs[i] ess[i].length (ess[i].flatMap Qa)
theorem vH.stay {q kb:Nat} {w w':wD} {vS:vL} {vs:List vL} {ess:List (List En)} (h:vH q w vS vs ess) (k:Zl kb w w') (hk:kb<q):vH q w' vS vs ess:=by
 have A:Z0 kb (fun b=>b=kb) w w':=⟨k.below,fun b j hn=>by
  by_cases z:b<kb
  ·exact k.below.block b z
  ·exact k.keep b (by omega) j⟩
 exact⟨A.row h.rS fun b j e=>by have:=(h.rS.lt b j).1; omega,fun i z C=>A.row (h.rE i z C) fun b j e=>by have:=((h.rE i z C).lt b j).1; omega⟩
theorem scs_of {kb nb:Nat} {L:L1} {r:Rw} {w0 w:wD} {vS vD:vL} {vs:List vL} {ess:List (List En)} {ds:List Dg} (h:Q3 kb nb L r w0 w vS vD vs ess ds) {q:Nat} (j:q<=w0.heap.size):vH q w vS vs ess :=
 ⟨J9 h.rS j,fun i z A=>J9 (h.rE i z A) j⟩
def yK (q:Nat) (l:List G1) (k:Nat) (wr:wD):Prop :=
 (k=0/\P1 (q+6) (q+3) (q+2) wr L0 nP nP nP nP [] []) ∨
 ∃ r,Vw (q+6) (q+3) (q+2) wr (Y6 (Y3 l)) r/\(Y6 (Y3 l)).ds=[] /\
  ((k=1/\wr.heap[q+3]?=some (Hf (q+2) (Y6 (Y3 l)) r nP sP (iP 0) (iP 0) nP)) ∨
   ∃ vS vs,vH (q+6) wr vS vs (Pk (Y6 (Y3 l)).num (Y6 (Y3 l)).mods 0 (Y6 (Y3 l)).mods [] []).1/\(Pk (Y6 (Y3 l)).num (Y6 (Y3 l)).mods 0 (Y6 (Y3 l)).mods [] []).2=[] /\
   ((k=2/\wr.heap[q+3]?=some (Hf (q+2) (Y6 (Y3 l)) r vS sP (iP 0) (iP 0) nP)) ∨
    (G6 (Y6 (Y3 l)).num (Ai (Pu (Y6 (Y3 l)).num (Y6 (Y3 l)).mods)) 0 (Y6 (Y3 l)).mods []=[] /\
     ((k=3/\wr.heap[q+3]?=some (Hf (q+2) (Y6 (Y3 l)) r vS sP (iP 0) (iP 0) nP)) ∨
      ∃ m i,k=4/\I3 (Y6 (Y3 l)).num (Y6 (Y3 l)).mods = .inl (m,i)/\wr.heap[q+3]?=some (Hf (q+2) (Y6 (Y3 l)) r vS (.string Uc) (iP m) (iP i) nP)))))
end
section
open Go.RowKit
abbrev Yd:=Nat⊕(Int×Nat×Nat)
def eS:Yd->Int
 | .inl _=>0
 | .inr p=>p.1
def lS:Yd->Nat
 | .inl _=>0
 | .inr p=>p.2.1
def cS:Yd->Nat
 | .inl _=>0
 | .inr p=>p.2.2
abbrev rpO (tb n cap a d:Nat) (e:Int) (l c:Nat):Obj := .cells #[lP tb n cap,iP a,iP d,iP e,iP l,iP c] 119
structure Ma (w:wD) (pb tb cap:Nat) (ts:List Tok) (d:Nat) (S:Yd) (a:Nat):Prop where
 blk:w.heap[pb]?=some (rpO tb ts.length cap a d (eS S) (lS S) (cS S))
 lt:a<ts.length
 live:∀ b,S = .inl b->b=a
 bad:∀ p,S = .inr p->p.1≠0
 tlt:tb<pb
 toks:Ie w tb ts
section
variable {w w1 : wD} {pb tb cap a d : Nat} {ts : List Tok} {S : Yd}
theorem Ma.ltp (h:Ma w pb tb cap ts d S a):pb<w.heap.size:=xB h.blk
theorem Ma.below (h:Ma w pb tb cap ts d S a) (j:Below w.heap.size w w1):Ma w1 pb tb cap ts d S a :=
 ⟨(j.block _ h.ltp).trans h.blk,h.lt,h.live,h.bad,h.tlt,Lf h.toks (j.block _ (Nat.lt_trans h.tlt h.ltp))⟩
theorem Ma.alloc (h:Ma w pb tb cap ts d S a) (o:Obj):Ma (w.alloc o) pb tb cap ts d S a:=h.below (Zq _ _)
theorem Ma.drew (h:Ma w pb tb cap ts d S a):Ma w.drew pb tb cap ts d S a:=h.below (Below.refl _ _).drew
theorem Ma.cells (h:Ma w pb tb cap ts d S a):(c6 w pb (lP tb ts.length cap) (iP a) (iP d) (iP (eS S)) (iP (lS S)) (iP (cS S))) /\
  (w.frozen? (aP pb 1)=false/\w.frozen? (aP pb 2)=false/\w.frozen? (aP pb 3)=false/\w.frozen? (aP pb 4)=false/\w.frozen? (aP pb 5)=false):=by
 refine⟨⟨?_,?_,?_,?_,?_,?_⟩,?_,?_,?_,?_,?_⟩
 all_goals first | (rw [cell_of_row _ _ _ _ _ _ h.blk]; rfl) | simp [World.frozen?,h.blk]
end
def Y2 (ts:List Tok):Yd->bS->Bool
 | .inl a,s=>Zg ts a s
 | .inr _,_=>false
theorem zid {w:wD} {pb tb cap a d:Nat} {ts:List Tok} {S:Yd} (h:Ma w pb tb cap ts d S a) (s:bS):Y2 ts S s=((eS S == 0) && Zg ts a s):=by
 cases S with
 | inl b=>rw [h.live b rfl]; rfl
 | inr p =>
  have:=h.bad p rfl;unfold Y2 eS;simp [this]
theorem zhu (pb tb cap a d:Nat) (ts:List Tok) (S:Yd) (s:bS) (w:wD) (h:Ma w pb tb cap ts d S a) :
  Calls prog 72 #[qP pb,.string ⟨s.toArray⟩] w fun e w'=>e = .returned (.bool (Y2 ts S s))/\Below w.heap.size w w':=by
 rw [zid h s]
 obtain⟨⟨c0,c1,c2,c3,c4,c5⟩,_⟩:=h.cells
 obtain⟨M,J,O,V⟩:=h.toks a h.lt
 have Bf:(a:Int)<(ts.length:Int):=by have:=h.lt; omega
 have Ys:=h.ltp
 have Y:=Nat.lt_trans h.tlt h.ltp
 generalize eS S=es at c3 ⊢
 unfold Zg
 generalize Zk ts a=t at M J O V ⊢
 obtain⟨z,tt,H,I⟩:=t
 simp only at M J O V ⊢
 obtain⟨r,hr⟩:=xE ((es == 0 && ((z == 2 || z == 5) && tt == s)))
 rw [<- hr]
 have HR:=Za hr
 obtain⟨j,N⟩:∃ j:ByteArray,j=⟨tt.toArray⟩:=⟨_,rfl⟩
 obtain⟨C,Z⟩:∃ C:ByteArray,C=⟨s.toArray⟩:=⟨_,rfl⟩
 have HQ:xQ ((tt == s)=(j.toList == C.toList)):=by
  show _=_
  cases hq:(j.toList == C.toList)with
  | true =>
   have:=Cs.1 hq;rw [N,Z] at this
   simpa using this
  | false =>
   have:=uY hq;rw [N,Z] at this
   simpa using this
 rw [<- N] at J
 rw [<- Z]
 clear c2 c4 c5 h hr N Z
 have HS:xQ (∀ W,Below w.heap.size w W->W.cell? (aP pb 0)=some (lP tb ts.length cap)/\W.cell? (aP pb 1)=some (iP a)/\d4 W tb (a*4) (iP z) (.string j) (iP H) (iP I)):=fun W A =>
  ⟨(A.cell (p:=aP pb 0) Ys).trans c0,(A.cell (p:=aP pb 1) Ys).trans c1,(A.cell (p:=(aP tb (a*4))) Y).trans M,(A.cell (p:=(aP tb (a*4+1))) Y).trans J,(A.cell (p:=(aP tb (a*4+2))) Y).trans O,(A.cell (p:=(aP tb (a*4+3))) Y).trans V⟩
 have Mf:=HS.o w.drew (Below.refl _ _).drew
 have Y5:xQ (∀ o,_):=fun o=>HS.o ((w.alloc o).drew) (Zq w o).drew
 have HE:xQ (∀ W,Below w.heap.size w W->W.cell? (aP pb 3)=some (iP es)):=fun W A=>(A.cell (p:=aP pb 3) Ys).trans c3
 clear c0 c1 c3 M J O V
 go_enter func72,ntmps72
 go_wp2_with fail
 go_region_held (fun W=>W.cell? (aP pb 0)=some (lP tb ts.length cap)/\W.cell? (aP pb 1)=some (iP a)/\d4 W tb (a*4) (iP z) (.string j) (iP H) (iP I)) (first | with_reducible assumption | with_reducible exact Y5.o _) (fail)
 have F:xQ (Below w.heap.size w (w.alloc (.cells #[iP z,.string j,iP H,iP I] 121)).drew):=(Zq w _).drew
 have HT:xQ ((w.alloc (.cells #[iP z,.string j,iP H,iP I] 121)).drew.heap[w.heap.size]?=some (.cells #[iP z,.string j,iP H,iP I] 121)):=xL _ _
 generalize (w.alloc (.cells #[iP z,.string j,iP H,iP I] 121)).drew=W1 at F HT ⊢
 clear Mf Y5 HS
 obtain⟨⟨t0,t1,t2,t3⟩,_,Iw⟩:=Yh HT.o
 have hE:=HE.o _ F.o
 have T:xQ (r=(es == 0 && ((z == 2 || z == 5) && (j.toList == C.toList)))):=by rw [<- HQ.o]; exact HR.o
 clear HR HQ
 cases he:(es == 0)with
 | false =>
  obtain rfl:r=false:=by rw [T.o,he]; rfl
  go_wp2_with fail;go_ret;exact⟨rfl,F.o⟩
 | true =>
  cases Tt:(z == 2)with
  | true =>
   obtain rfl:r=(j.toList == C.toList):=by rw [T.o,he,Tt]; rfl
   go_wp2_with fail;go_ret;exact⟨rfl,F.o⟩
  | false =>
   cases Fg:(z == 5)with
   | true =>
    obtain rfl:r=(j.toList == C.toList):=by rw [T.o,he,Tt,Fg]; rfl
    go_wp2_with fail;go_ret;exact⟨rfl,F.o⟩
   | false =>
    obtain rfl:r=false:=by rw [T.o,he,Tt,Fg]; rfl
    go_wp2_with fail;go_ret;exact⟨rfl,F.o⟩
end
end Go.Proofs.YtoppemkjhhlegaaGreatDoor
