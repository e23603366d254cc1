/- Part. -/
import Derived.Deep.RegionLaw
import Derived.Test.YtoppemkjhhlegaaGreatDoorPart16
import Derived.Test.YtoppemkjhhlegaaGreatDoorPart13
set_option maxRecDepth 100000
set_option maxHeartbeats 4000000
namespace Go.Proofs.YtoppemkjhhlegaaGreatDoor
open Go.Proofs.Tryz
section
open Go.RowKit
def tM (w:World) (a:Option Addr) (l:List Vx):Prop:=∀ k (_:k<l.length),∃ g,a=some ⟨g,0,none⟩/\g<w.heap.size/\w.cell? ⟨g,k*4,none⟩=some (.string ⟨l[k].fr.toArray⟩)/\w.cell? ⟨g,k*4+2,none⟩=some (.int .i64 l[k].li)/\w.cell? ⟨g,k*4+3,none⟩=some (.int .i64 l[k].co)
def O3 (w:World) (a:Option Addr) (l:List Mo):Prop:=∀ i (_:i<l.length),∃ g ia ic,a=some ⟨g,0,none⟩/\g<w.heap.size/\w.cell? ⟨g,i*2,none⟩=some (.slice ia l[i].is.length ic)/\l[i].is.length<=8193/\tM w ia l[i].is
theorem O3.to {w:World} {a:Option Addr} {l:List Mo} (h:O3 w a l):lN w a l:=fun i J=>by
 obtain⟨g,I,N,e,H,A,M,F⟩:=h i J
 exact⟨g,I,N,e,H,A,M,fun k T=>by obtain⟨C,z,j,O,_⟩:=F k T; exact⟨C,z,j,O⟩⟩
theorem tM.below {w w':World} {a:Option Addr} {l:List Vx} (h:tM w a l) (z:Below w.heap.size w w'):tM w' a l:=fun i A=>by
 obtain⟨g,e,j,F,H,C⟩:=h i A
 exact⟨g,e,xT j z.size,(z.cell (p:=⟨g,_,none⟩) j).trans F,(z.cell (p:=⟨g,_,none⟩) j).trans H,(z.cell (p:=⟨g,_,none⟩) j).trans C⟩
theorem O3.below {w w':World} {a:Option Addr} {l:List Mo} (h:O3 w a l) (j:Below w.heap.size w w'):O3 w' a l:=fun i A=>by
 obtain⟨g,J,I,e,z,F,C,H⟩:=h i A
 exact⟨g,J,I,e,xT z j.size,(j.cell (p:=⟨g,_,none⟩) z).trans F,C,H.below j⟩
abbrev dgR (d:Dg):List Value:=[.int .i64 d.m,.int .i64 d.li,.int .i64 d.co,.int .i64 d.er]
theorem qK:(prog.info? 47).map (fun i=>(i.zero,i.size,i.bytes))=some (some (.agg #[.int .i64 0,.int .i64 0,.int .i64 0,.int .i64 0]),4,32):=by kernel_rfl
theorem bP {w:World} {B B' e k n:Nat} {v:Value} {xs:List Value} (h:w.ownsRow B e k v n xs) (C:B'<=B):w.ownsRow B' e k v n xs:=by
 obtain⟨A,z⟩:=h
 refine⟨A,?_⟩
 rcases z with z | ⟨g,cap,j,e,F,r⟩
 ·exact .inl z
 ·exact .inr ⟨g,cap,j,e,Nat.le_trans C F,r⟩
theorem J8 {w w':World} {B e k n:Nat} {v:Value} {xs:List Value} (h:w.ownsRow B e k v n xs) (H:Below w.heap.size w w'):w'.ownsRow B e k v n xs:=by
 obtain⟨C,z⟩:=h
 refine⟨C,?_⟩
 rcases z with z | ⟨g,cap,j,e,F,A,r⟩
 ·exact .inl z
 ·exact .inr ⟨g,cap,j,e,F,(H.block g (xB A)).trans A,r⟩
theorem zbd {B:Nat} {w w1 z:World} {o:Obj} {row:Option Nat} (h:Below B w w1) (A:B<=w1.heap.size) (j:(w1.alloc o).drew.grownBy z row) (C:∀ q,row=some q->B<=q):Below B w z :=
 (h.alloc A o).trans ⟨j.os,j.tape,j.output,j.size,fun k hk=>j.block k (by show k<(w1.alloc o).heap.size; rw [xS]; omega) (fun e=>by have:=C k e.symm; omega)⟩
theorem oH {w w1 w2:World} (h:Below w.heap.size w w1) (k:Below w1.heap.size w1 w2):Below w.heap.size w w2:=h.trans (k.mono h.size)
theorem yP {B:Nat} {w w':World} (h:Below B w w') (n:Nat):Below B w (w'.drewN n):=⟨h.os,h.tape,h.output,h.size,h.block⟩
theorem zjl (A:Option Addr) (I:Nat) (aM:Option Addr) (T:Nat) (aS:Option Addr) (nS cS:Nat) (M:ByteArray) (x y:Int) (j:List Bs) (mods:List Mo) (w:World)
  (hN:Rl w A j) (hM:O3 w aM mods) (hl:j.length=mods.length) (hm:mods.length<=16) :
  Calls prog 18 #[.agg #[.slice A j.length I,.slice aM mods.length T,.slice aS nS cS,.string M,.int .i64 x,.int .i64 y]] w fun e w' =>
   ∃ vD,e = .returned vD/\w'.ownsRow w.heap.size 47 4 vD (G5 (V6 j) mods 0 mods []).length ((G5 (V6 j) mods 0 mods []).flatMap dgR)/\Below w.heap.size w w':=by
 have HN:=Za hN
 have HM:=Za hM
 have HL:=Za hl
 obtain⟨md,Nq⟩:=xE (V6 j)
 rw [<- Nq]
 have Uj:=Za Nq
 obtain⟨F,H⟩:=xE (G5 md mods 0 mods [])
 rw [<- H]
 have HF:=Za H
 obtain⟨i0,hi,Xr,Xg,Xw⟩:=info_parts qK
 have hmz:((mods.length:Int)<=9223372036854775807):=by omega
 clear hN hM hl H Nq
 go_enter func18,ntmps18
 go_wp2_with fail
 obtain⟨W0,Vg⟩:=xE (w.alloc (Ux A j.length I aM mods.length T aS nS cS M x y))
 obtain⟨pb,Xo⟩:=xE w.heap.size
 have Ks:xQ (Below w.heap.size w W0):=by rw [Vg]; exact(Below.refl _ w).alloc (xR) _
 have Pq:xQ (W0.heap[pb]?=some (Ux A j.length I aM mods.length T aS nS cS M x y)):=by rw [Vg,Xo]; exact xL w _
 have Jf:pb+1<=W0.heap.size:=by rw [Vg,Xo,xS]; exact xR
 have e0:=Vg
 unfold Ux at e0
 rw [<- e0,<- Xo]
 have HP:=Za Xo
 clear Vg e0 Xo
 go_loopw [3,4] (fun v i wr=>∃ (k:Nat) (ds:List Dg),k<=mods.length/\i = .int .i64 k/\xQ ((Below w.heap.size w wr/\wr.heap[pb]?=some (Ux A j.length I aM mods.length T aS nS cS M x y)/\wr.ownsRow (pb+1) 47 4 v ds.length (ds.flatMap dgR)/\ds.length<=8193*k/\pb+1<=wr.heap.size)/\F=G5 md mods k (mods.drop k) ds)) (fun _ i _=>mods.length - (intOf i).toNat)
 case atStart=>exact⟨0,[],xZ _,rfl,⟨Ks.o,Pq.o,World.ownsRow_nil _ _ _ _,xR,Jf⟩,HF.o⟩
 case round =>
  clear Ks Pq Jf HF;obtain⟨k,ds,hk,rfl,HI⟩:=hrel;obtain⟨⟨hb,O,ho,Ws,N⟩,H⟩:=HI.o;obtain⟨av,cv,hv⟩:=Yt ho;subst hv
  have x1:wr.cell? ⟨pb,1,none⟩=some (.slice aM mods.length T):=by simp [World.cell?,O]
  have Ys:=xB O;by_cases Z8:k<mods.length
  ·have Un:(k:Int)<(mods.length:Int):=by omega
   obtain⟨g,ia,ic,rfl,hg,hc,h8,Cb⟩:=HM.o k Z8;have Qc:wr.cell? ⟨g,k*2,none⟩=some (.slice ia mods[k].is.length ic):=(hb.cell (p:=⟨g,k*2,none⟩) hg).trans hc;have M9:xQ (F=G5 md mods (k+1) (mods.drop (k+1)) (O9 md mods k mods[k].is ds)):=H.trans (by rw [List.drop_eq_getElem_cons Z8]; rfl);have Gt:=Za HI.o.1;have Y:=Za Cb;obtain⟨is,his⟩:=xE (mods[k].is);rw [<- his] at Qc h8 M9 Y
   clear hb O ho H hc Cb his Ws N HI;go_wp2_with fail
   have hiz:((is.length:Int)<=9223372036854775807):=by omega
   go_loopw [3,6] (fun v i wq=>∃ (q:Nat) (ds:List Dg),q<=is.length/\i = .int .i64 q/\xQ ((Below w.heap.size w wq/\wq.heap[pb]?=some (Ux A j.length I (some ⟨g,0,none⟩) mods.length T aS nS cS M x y)/\wq.ownsRow (pb+1) 47 4 v ds.length (ds.flatMap dgR)/\ds.length<=8193*k+q/\pb+1<=wq.heap.size)/\F=G5 md mods (k+1) (mods.drop (k+1)) (O9 md mods k (is.drop q) ds))) (fun _ i _=>is.length - (intOf i).toNat)
   case atStart=>exact⟨0,ds,xZ _,rfl,Gt.o,M9.o⟩
   case round =>
    clear Gt M9 x1 Ys Qc;obtain⟨q,ds,hq,rfl,V⟩:=hrel;obtain⟨⟨hb,O,ho,Ws,N⟩,H⟩:=V.o;obtain⟨av,cv,hv⟩:=Yt ho;subst hv
    obtain⟨⟨x0,x1,x2,x3,x4,x5⟩,Ys⟩:(wr.cell? ⟨pb,0,none⟩=some (.slice A j.length I)/\wr.cell? ⟨pb,1,none⟩=some (.slice (some ⟨g,0,none⟩) mods.length T)/\wr.cell? ⟨pb,2,none⟩=some (.slice aS nS cS)/\wr.cell? ⟨pb,3,none⟩=some (.string M)/\wr.cell? ⟨pb,4,none⟩=some (.int .i64 x)/\wr.cell? ⟨pb,5,none⟩=some (.int .i64 y))/\pb<wr.heap.size:=⟨by simp [World.cell?,O],xB O⟩
    by_cases Py:q<is.length
    ·have hql':(q:Int)<(is.length:Int):=by omega
     obtain⟨gi,rfl,hgi,Pf,Ge,Pv⟩:=Y.o q Py
     obtain⟨Z,Qb⟩:∃ Z:ByteArray,Z=⟨is[q].fr.toArray⟩:=⟨_,rfl⟩
     rw [<- Qb] at Pf;have hci':wr.cell? ⟨gi,q*4,none⟩=some (.string Z):=(hb.cell (p:=⟨gi,q*4,none⟩) hgi).trans Pf
     have hNl:Z.data.toList=is[q].fr:=by rw [Qb]
     obtain⟨R,hR⟩:=xE (md is[q].fr)
     have HC:xQ (∀ n,Calls prog 19 #[.slice A j.length I,.string Z] (wr.drewN n) fun e w'=>e = .returned (.int .i64 (B9 R))/\w'=wr.drewN n):=fun n=>by
      have h:=uF A I j Z (wr.drewN n) (HN.o.below (yP hb n)) (by have:=HL.o; omega);rw [hNl,<- Uj.o,<- hR] at h;exact h
     have Bz:xQ (F=G5 md mods (k+1) (mods.drop (k+1)) (O9 md mods k (is.drop (q+1)) (match md is[q].fr with | some f=>if (Cr md mods f).getD k false then ds ++ [⟨k,is[q].li,is[q].co,13⟩] else ds | none=>ds))):=H.trans (by rw [List.drop_eq_getElem_cons Py]; rfl)
     have HRm:xQ (∀ m,R=some m->m<mods.length):=fun m e=>by
      rw [hR,Uj.o] at e;obtain⟨h1,_⟩:=List.findIdx?_eq_some_iff_getElem.1 e;have:=HL.o;omega
     rw [<- hR] at Bz;have J:=Za V.o.1;have Mr:=Za (And.intro hgi (And.intro Ge Pv));clear hb O ho H Pf Qb hNl hR Ws N Ge Pv V
     cases R with
     | none =>
      have To:xQ (∀ n,Calls prog 19 #[.slice A j.length I,.string Z] (wr.drewN n) fun e w'=>e = .returned (.int .i64 (-1))/\w'=wr.drewN n):=HC.o;clear HC;go_wp2_with fail
      go_quiet((go_at_call 19; exact Calls.quiet_of_same (To.o _)))
      go_wp2_with fail;exact⟨⟨q+1,ds,by omega,by go_num,⟨yP J.o.1 _,J.o.2.1,J.o.2.2.1,by have:=J.o.2.2.2.1; omega,J.o.2.2.2.2⟩,Bz.o⟩,by simp [intOf]; omega⟩
     | some m =>
      have Uu:=HRm.o m rfl;have To:xQ (∀ n,Calls prog 19 #[.slice A j.length I,.string Z] (wr.drewN n) fun e w'=>e = .returned (.int .i64 (m:Int))/\w'=wr.drewN n):=HC.o;clear HC;go_wp2_with fail
      go_quiet((go_at_call 19; exact Calls.quiet_of_same (To.o _)))
      go_wp2_with fail;have Fb:=yP J.o.1 nq;refine(zgp A I (some ⟨g,0,none⟩) T aS nS cS M x y j mods m k _ (HN.o.below Fb) ((HM.o.below Fb).to) HL.o (by omega) Uu Z8).mono ?_;rintro e z ⟨rfl,Th⟩
      have Rt:Below wr.heap.size wr z:=⟨Th.os,Th.tape,Th.output,Th.size,Th.block⟩
      have Vm:xQ (Below w.heap.size w z):=oH J.o.1 Rt;have Js:xQ (z.heap[pb]?=some (Ux A j.length I (some ⟨g,0,none⟩) mods.length T aS nS cS M x y)):=(Rt.block pb Ys).trans J.o.2.1;have HO5:xQ (z.drew.ownsRow (pb+1) 47 4 (.slice av ds.length cv) ds.length (ds.flatMap dgR)):=J8 J.o.2.2.1 Rt.drew
      have Do:pb+1<=z.heap.size:=by have:=J.o.2.2.2.2; have:=Rt.size; omega
      have Ws:ds.length<=8193*k+q:=J.o.2.2.2.1;have l2:z.cell? ⟨gi,q*4+2,none⟩=some (.int .i64 is[q].li):=(Vm.o.cell (p:=⟨gi,q*4+2,none⟩) Mr.o.1).trans Mr.o.2.1;have l3:z.cell? ⟨gi,q*4+3,none⟩=some (.int .i64 is[q].co):=(Vm.o.cell (p:=⟨gi,q*4+3,none⟩) Mr.o.1).trans Mr.o.2.2;have Gb:gi<z.heap.size:=xT Mr.o.1 Vm.o.size;rw [<- Uj.o];obtain⟨b,hbv⟩:=xE ((Cr md mods m).getD k false)
      rw [<- hbv];simp only [<- hbv] at Bz;obtain⟨L,hL⟩:=xE (is[q].li);obtain⟨C,hC⟩:=xE (is[q].co);rw [<- hL] at l2;rw [<- hC] at l3;rw [<- hL,<- hC] at Bz;clear Fb Th Rt hbv x0 x1 x2 x3 x4 x5 Ys hci' J hL hC
      cases b with
      | false =>
       go_wp2_with fail;exact⟨⟨q+1,ds,by omega,by go_num,⟨Vm.o,Js.o,HO5.o,by omega,Do⟩,Bz.o⟩,by simp [intOf]; omega⟩
      | true =>
       go_wp2_with fail
       go_region_law(first
        | (refine El rfl (.tmp 45) (.tmp 58) 32 rfl (pb+1) 47 i0 _ 4 32 underlying32 hi Xr Xg Xw rfl (by decide) (.slice av ds.length cv) _ _ (by first | rfl | simp [Act.eval,Act.put]) (HO5.o.alloc _) ⟨z.heap.size,0,none⟩ 1 1 [.int .i64 k,.int .i64 L,.int .i64 C,.int .i64 13] (by first | rfl | simp [Act.eval,Act.put]) rfl (V2 _ _ _) (by simp [Value.oneCell']) (by unfold maxLen; omega) (by omega) (by show pb+1<=(z.alloc _).heap.size; rw [xS]; omega) ?_; intro v' w6 Zr Zo Z4; obtain⟨a6,c6,rfl⟩:=Yt Zr; have Hm:=Za Zr; have Kt:=Za Zo; clear Zr Zo Z4))
       all_goals go_wp2_with fail
       all_goals
        have hr6:∀ u,(Value.slice av ds.length cv).ownBlock=some u->pb+1<=u:=fun u e=>(HO5.o.lt u e).1
        have Wr:w6.heap[pb]?=z.heap[pb]?:=by
         have h1:=Kt.o.block pb (by show pb<(z.alloc _).heap.size; rw [xS]; omega) (fun e=>by have:=hr6 pb e.symm; omega);exact h1.trans (xA (by omega))
        refine⟨⟨q+1,ds ++ [⟨k,L,C,13⟩],by omega,by go_num,⟨zbd Vm.o Vm.o.size Kt.o (fun u e=>by have:=hr6 u e; have:=HP.o; omega),Wr.trans Js.o,?_,by simp; omega,?_⟩,Bz.o⟩,by simp [intOf]; omega⟩
        ·have h:=Hm.o
         rw [List.length_append,List.flatMap_append];exact h
        ·have h:=Kt.o.size
         have h2:(z.alloc (.cells #[.int .i64 k,.int .i64 L,.int .i64 C,.int .i64 13] 47)).drew.heap.size=z.heap.size+1:=xS _ _;omega
    ·have hql':¬ (q:Int)<(is.length:Int):=by omega
     have e0:is.drop q=[]:=List.drop_eq_nil_of_le (by omega);have Bz:xQ (F=G5 md mods (k+1) (mods.drop (k+1)) ds):=H.trans (by rw [e0]; rfl);clear hb O ho H Ws N;go_wp2_with fail;exact⟨⟨k+1,ds,by omega,by go_num,⟨V.o.1.1,V.o.1.2.1,V.o.1.2.2.1,by have:=V.o.1.2.2.2.1; omega,V.o.1.2.2.2.2⟩,Bz.o⟩,by simp [intOf]; omega⟩
  ·have Un:¬ (k:Int)<(mods.length:Int):=by omega
   have De:F=ds:=H.trans (by rw [List.drop_eq_nil_of_le (by omega)]; rfl);have HFs:=Za De;clear hb O ho H Ws N De;go_wp2_with fail;go_ret;refine⟨_,rfl,?_,HI.o.1.1⟩;rw [HFs.o,<- HP.o];exact bP HI.o.1.2.2.1 (Nat.le_succ _)
end
section
open Go.RowKit Go.Maps
def Ol (w:wD) (a:oA) (l:List Tz):Prop:=∀ k (_:k<l.length),∃ g,a=some (aP g 0)/\g<w.heap.size/\w.cell? (aP g (k*15))=some (.string ⟨l[k].nm.toArray⟩)/\w.cell? (aP g (k*15+1))=some (.bool l[k].ex)/\w.cell? (aP g (k*15+13))=some (iP l[k].li)/\w.cell? (aP g (k*15+14))=some (iP l[k].co)
def lM (w:wD) (a:oA) (l:List Vx):Prop:=∀ k (_:k<l.length),∃ g na nc,a=some (aP g 0)/\g<w.heap.size/\w.cell? (aP g (k*4))=some (.string ⟨l[k].fr.toArray⟩)/\w.cell? (aP g (k*4+1))=some (.slice na l[k].ns.length nc)/\w.cell? (aP g (k*4+2))=some (iP l[k].li)/\w.cell? (aP g (k*4+3))=some (iP l[k].co)/\l[k].ns.length<=8193/\Bb w 0 na l[k].ns
def yI (w:wD) (a:oA) (l:List Mo):Prop:=∀ i (_:i<l.length),∃ g ia ic da dc,a=some (aP g 0)/\g<w.heap.size/\w.cell? (aP g (i*2))=some (.slice ia l[i].is.length ic)/\w.cell? (aP g (i*2+1))=some (.slice da l[i].ds.length dc)/\l[i].is.length<=8193/\l[i].ds.length<=8193/\lM w ia l[i].is/\Ol w da l[i].ds
theorem Ol.to {w:wD} {a:oA} {l:List Tz} (h:Ol w a l):lJ w a l:=fun k A=>by
 obtain⟨g,e,j,z,_⟩:=h k A
 exact⟨g,e,j,z⟩
theorem yI.to {w:wD} {a:oA} {l:List Mo} (h:yI w a l):O3 w a l:=fun i N=>by
 obtain⟨g,M,T,da,dc,e,I,C,_,O,_,H,_⟩:=h i N
 exact⟨g,M,T,e,I,C,O,fun k Y=>by obtain⟨F,na,nc,A,j,V,_,J,z,_⟩:=H k Y; exact⟨F,A,j,V,J,z⟩⟩
theorem Ol.below {w w':wD} {a:oA} {l:List Tz} (h:Ol w a l) (z:Below w.heap.size w w'):Ol w' a l:=fun i A=>by
 obtain⟨g,e,j,F,I,C,H⟩:=h i A
 exact⟨g,e,xT j z.size,(z.cell (p:=aP g _) j).trans F,(z.cell (p:=aP g _) j).trans I,(z.cell (p:=aP g _) j).trans C,(z.cell (p:=aP g _) j).trans H⟩
theorem jB {w:wD} {B:Nat} {v:vL} {es:List En} (h:w.ownsRow B 29 3 v es.length (es.flatMap Qa)):∃ a c,v = .slice a es.length c/\EnsR w a es:=by
 obtain⟨a,c,rfl⟩:=Yt h
 refine⟨a,c,rfl,fun k F=>?_⟩
 have z:∀ j,j<3->(es.flatMap Qa)[k*3+j]?=(Qa es[k])[j]?:=fun j C=>by
  have:=Ij (k:=3) (es.map Qa) (by intro c z; obtain⟨d,_,rfl⟩:=List.mem_map.1 z; rfl) k (by simpa using F) j C;rw [<- List.flatMap_def,List.getElem_map] at this;exact this
 have A:=h
 rcases h.2 with⟨_,e⟩ | ⟨g,cap',cur,e,hg,hb,_⟩
 ·omega
 ·injection e with e _ _
  subst e;refine⟨g,rfl,xB hb,?_,?_,?_⟩
  ·have:=A.cellAt (k*3+0) (by omega)
   rw [z 0 (by omega)] at this;exact this
  ·have:=A.cellAt (k*3+1) (by omega)
   rw [z 1 (by omega)] at this;exact this
  ·have:=A.cellAt (k*3+2) (by omega)
   rw [z 2 (by omega)] at this;exact this
def Jg (md:Bs->Option Nat) (mods:List Mo) (m:Nat) (I:Vx) (es:List En):Sc :=
 match md I.fr with
 | none=>(es,[⟨m,I.li,I.co,11⟩])
 | some f=>Pj (mods.getD f Jh) f m I.li I.co I.ns (es,[])
theorem zbw {num:Wo} {mods:List Mo} {m:Nat} {I:Vx} {es:List En}:Jg (Yp num) mods m I es=J5 num mods m I (es,[]):=by
 unfold Jg J5
 cases Yp num I.fr <;> rfl
abbrev Dr (fr:bA) (na:oA) (nn nc:Nat) (li co:Int):Obj := .cells #[.string fr,.slice na nn nc,iP li,iP co] 68
structure yB (pb:Nat) (w:wD) (P X:Obj) (m li co er:Int):Prop where
 p:w.heap[pb]?=some P
 x:w.heap[pb+1]?=some X
 q:w.heap[pb+1+1]?=some (.cells #[iP m,iP li,iP co,iP er] 47)
theorem oK (w:wD) (P X:Obj) (m li co er:Int):yB w.heap.size (((w.alloc P).alloc X).alloc (.cells #[iP m,iP li,iP co,iP er] 47)) P X m li co er where
 p:=(xA (by rw [xS,xS]; omega)).trans ((xA (by rw [xS]; omega)).trans (xL w _))
 x:=(xA (by rw [xS,xS]; omega)).trans (by have:=xL (w.alloc P) X; rw [xS] at this; exact this)
 q:=by have:=xL ((w.alloc P).alloc X) (.cells #[iP m,iP li,iP co,iP er] 47); rw [xS,xS] at this; exact this
theorem yB.d {pb:Nat} {w:wD} {P X:Obj} {m li co er:Int} (h:yB pb w P X m li co er):(w.cell? (aP (pb+1+1) 0)=some (iP m)/\w.cell? (aP (pb+1+1) 1)=some (iP li)/\w.cell? (aP (pb+1+1) 2)=some (iP co)/\w.cell? (aP (pb+1+1) 3)=some (iP er))/\pb+1+1<w.heap.size/\w.frozen? (aP (pb+1+1) 3)=false:=by
 have j:=h.q
 exact⟨by simp [World.cell?,j],xB j,by simp [World.frozen?,j]⟩
theorem bQ {w:wD} {B:Nat} {cur:Array vL} {T:TypeId} (h:B<=w.heap.size):(w.alloc (.cells cur T)).ownsRow B T cur.size (lP w.heap.size 1 1) 1 cur.toList :=
 ⟨by simp,.inr ⟨w.heap.size,1,cur,rfl,h,xL w _,xR,by unfold maxLen; omega,by simp,List.take_of_length_le (by simp)⟩⟩
structure M3 (pb B:Nat) (w:wD) (P X:Obj) (m li co:Int) (vE0:vL) (n0 k:Nat) (wr:wD) (vE vD:vL) (s:Sc) (er:Int):Prop where
 chg:Z0 B (fun b=>vE0.ownBlock=some b) w wr
 box:yB pb wr P X m li co er
 rE:wr.ownsRow B 29 3 vE s.1.length (s.1.flatMap Qa)
 rD:wr.ownsRow (pb+3) 47 4 vD s.2.length (s.2.flatMap U3)
 mv:∀ q,vE.ownBlock=some q->vE0.ownBlock=some q∨pb+3<=q
 old:∀ q,vE0.ownBlock=some q->q<pb
 sz:pb+3<=wr.heap.size
 l1:s.1.length<=n0+k
 l2:s.2.length<=k
theorem M3.below {pb B:Nat} {w:wD} {P X:Obj} {m li co:Int} {vE0:vL} {n0 k:Nat} {wr w':wD} {vE vD:vL} {s:Sc} {er:Int} (h:M3 pb B w P X m li co vE0 n0 k wr vE vD s er) (z:B<=w.heap.size) (j:Below wr.heap.size wr w'):M3 pb B w P X m li co vE0 n0 k w' vE vD s er where
 chg:=h.chg.trans (Z0.of (S:=fun _=>False) j (Nat.le_trans z h.chg.size)) fun _ _ e=>e.elim
 box:=⟨(j.block _ (xB h.box.p)).trans h.box.p,(j.block _ (xB h.box.x)).trans h.box.x,(j.block _ (xB h.box.q)).trans h.box.q⟩
 rE:=J8 h.rE j
 rD:=J8 h.rD j
 mv:=h.mv
 old:=h.old
 sz:=Nat.le_trans h.sz j.size
 l1:=h.l1
 l2:=h.l2
section
variable {pb B : Nat} {w : wD} {P X : Obj} {m li co : Int} {vE0 : vL} {n0 k : Nat} {W W8 : wD} {vE vD vE' vD' : vL} {s : Sc} {er : Int}
theorem M3.setE (h:M3 pb B w P X m li co vE0 n0 k W vE vD s er) (hB:B<=w.heap.size) (Xo:pb=w.heap.size) (j:Int):M3 pb B w P X m li co vE0 n0 k (W.setCell (aP (pb+1+1) 3) (iP j)) vE vD s j where
 chg:=h.chg.set (by omega) (fun Zt=>by omega) 3 _
 box:=⟨(xH (by show pb≠pb+1+1; omega)).trans h.box.p,(xH (by show pb+1≠pb+1+1; omega)).trans h.box.x,by have:=Y1 (o:=3) (u:=iP j) h.box.q; simpa using this⟩
 rE:=((Z0.refl 0 (fun b=>b=pb+1+1) W).set (xZ _) (fun _=>rfl) 3 _).row h.rE fun q e e'=>by
  obtain⟨cur,z⟩:=Jl h.rE e;rw [e',h.box.q] at z;cases z
 rD:=ownsRow_setCell_below h.rD (a:=(aP (pb+1+1) 3)) (by show pb+1+1<pb+3; omega) _
 mv:=h.mv
 old:=h.old
 sz:=by rw [World.size_setCell]; exact h.sz
 l1:=h.l1
 l2:=h.l2
theorem M3.grow (h:M3 pb B w P X m li co vE0 n0 k W vE vD s er) (hB:B<=w.heap.size) (Xo:pb=w.heap.size) {o:Obj} {v:vL} (hv:v=vE∨v=vD) (C:(W.alloc o).grownBy W8 v.ownBlock):Z0 B (fun b=>vE0.ownBlock=some b) w W8/\yB pb W8 P X m li co er/\pb+3<=W8.heap.size:=by
 have hs:=h.sz
 have hsz:(W.alloc o).heap.size=W.heap.size+1:=xS _ _
 have A:∀ q,v.ownBlock=some q->q≠pb/\q≠pb+1/\q≠pb+1+1/\B<=q/\(q<w.heap.size->vE0.ownBlock=some q):=fun q e=>by
  rcases hv with rfl | rfl
  ·have z:=(h.rE.lt q e).1
   rcases h.mv q e with F | F
   ·have h3:=h.old q F
    exact⟨by omega,by omega,by omega,z,fun _=>F⟩
   ·exact⟨by omega,by omega,by omega,z,fun _=>by omega⟩
  ·have z:=(h.rD.lt q e).1
   exact⟨by omega,by omega,by omega,by omega,fun _=>by omega⟩
 have I:∀ b,b<pb+3->b≠v.ownBlock.getD (pb+3)->W8.heap[b]?=W.heap[b]?:=fun b H j=>(C.block b (by omega) (fun e=>j (by rw [<- e]; rfl))).trans (xA (by omega))
 have j:∀ b,(b=pb∨b=pb+1∨b=pb+1+1)->W8.heap[b]?=W.heap[b]?:=fun b H=>I b (by omega) (by
  cases hq:v.ownBlock with
  | none=>show b≠pb+3; omega
  | some q=>have:=A q hq; show b≠q; omega)
 refine⟨?_,⟨(j _ (.inl rfl)).trans h.box.p,(j _ (.inr (.inl rfl))).trans h.box.x,(j _ (.inr (.inr rfl))).trans h.box.q⟩,by have:=C.size; omega⟩
 have hc:=h.chg.size
 exact(h.chg.alloc (by omega) o).grown C (by omega) fun q e=>⟨(A q e).2.2.2.1,(A q e).2.2.2.2⟩
theorem M3.tell (h:M3 pb B w P X m li co vE0 n0 k W vE vD s er) (C:B<=w.heap.size) (F:pb=w.heap.size) {o:Obj} {d:Dg} (j:(W.alloc o).grownBy W8 vD.ownBlock) (H:W8.ownsRow (pb+3) 47 4 vD' (s.2.length+1) (s.2.flatMap U3 ++ U3 d)):M3 pb B w P X m li co vE0 n0 (k+1) W8 vE vD' (s.1,s.2 ++ [d]) er:=by
 obtain⟨A,I,z⟩:=h.grow C F (.inr rfl) j
 refine⟨A,I,?_,?_,h.mv,h.old,z,by have:=h.l1; show s.1.length<=_; omega,by have:=h.l2; simp; omega⟩
 ·exact(h.rE.alloc o).kept j (by
   cases hv:vE.ownBlock with
   | none=>exact .inl rfl
   | some q=>exact .inr fun e=>M7 h.rE h.rD (by decide) q hv e.symm)
 ·simp only [List.length_append,List.flatMap_append]
  simpa using H
theorem M3.add (h:M3 pb B w P X m li co vE0 n0 k W vE vD s er) (F:B<=w.heap.size) (H:pb=w.heap.size) {o:Obj} {e:En} (z:(W.alloc o).grownBy W8 vE.ownBlock) (I:W8.ownsRow B 29 3 vE' (s.1.length+1) (s.1.flatMap Qa ++ Qa e)) (hm:vE'.ownBlock=vE.ownBlock∨vE'.ownBlock=some (W.alloc o).heap.size):M3 pb B w P X m li co vE0 n0 (k+1) W8 vE' vD (s.1 ++ [e],s.2) er:=by
 obtain⟨C,J,A⟩:=h.grow F H (.inl rfl) z
 refine⟨C,J,?_,?_,?_,h.old,A,by have:=h.l1; simp; omega,by have:=h.l2; show s.2.length<=_; omega⟩
 ·simp only [List.length_append,List.flatMap_append]
  simpa using I
 ·exact(h.rD.alloc o).kept z (by
   cases hv:vD.ownBlock with
   | none=>exact .inl rfl
   | some q=>exact .inr fun e=>M7 h.rD h.rE (by decide) q hv e.symm)
 ·intro q j
  rcases hm with hm | hm
  ·exact h.mv q (hm ▸ j)
  ·rw [hm] at j
   injection j with j;rw [xS] at j;have:=h.sz;exact .inr (by omega)
end
theorem kX {ds:List Tz} {s:Bs} {n:Nat} (h:K6 ds s=some n):n<ds.length:=(List.findIdx?_eq_some_iff_getElem.1 h).1
theorem zby (Z:oA) (cN:Nat) (aM:oA) (V:Nat) (aS:oA) (nS cS:Nat) (M:bA) (x y:Int) (z:List Bs) (mods:List Mo) (i:Nat) (I:Vx) (na:oA) (nc:Nat) (es:List En) (T:oA) (O B:Nat) (w0 w:wD)
  (hN:Rl w0 Z z) (hM:yI w0 aM mods) (hl:z.length=mods.length) (hm:mods.length<=16) (hNa:Bb w0 0 na I.ns) (Yb:I.ns.length<=8193) (Wq:Below w0.heap.size w0 w) (hB0:w0.heap.size<=B) (hB:B<=w.heap.size)
  (hE:w.ownsRow B 29 3 (.slice T es.length O) es.length (es.flatMap Qa)) (Fd:es.length<=1000000000) :
  Calls prog 30 #[.agg #[.slice Z z.length cN,.slice aM mods.length V,.slice aS nS cS,.string M,iP x,iP y],iP i,.agg #[.string ⟨I.fr.toArray⟩,.slice na I.ns.length nc,iP I.li,iP I.co],.slice T es.length O] w fun e w' =>
   ∃ vE vD,e = .returned (.tuple #[vE,vD])/\w'.ownsRow B 29 3 vE (Jg (V6 z) mods i I es).1.length ((Jg (V6 z) mods i I es).1.flatMap Qa)/\w'.ownsRow w.heap.size 47 4 vD (Jg (V6 z) mods i I es).2.length ((Jg (V6 z) mods i I es).2.flatMap U3) /\
    Z0 B (fun b=>(Value.slice T es.length O).ownBlock=some b) w w':=by
 have HN:=Za hN
 have HM:=Za hM
 have HL:=Za hl
 have Ll:=Za hNa
 have Ks:=Za Wq
 have HE:=Za hE
 obtain⟨md,Nq⟩:=xE (V6 z)
 rw [<- Nq]
 have Uj:=Za Nq
 obtain⟨F,hF⟩:=xE (Jg md mods i I es)
 rw [<- hF]
 have HF:=Za hF
 obtain⟨i0,hi,Xr,Xg,Xw⟩:=info_parts qK
 obtain⟨i1,hi1,hy0,hy1,hy2⟩:=info_parts nB
 obtain⟨FR,hFR⟩:∃ FR:ByteArray,FR=⟨I.fr.toArray⟩:=⟨_,rfl⟩
 rw [<- hFR]
 have HFR:xQ (FR.data.toList=I.fr):=by rw [hFR]; exact rfl
 clear hN hM hl hF Nq hNa Wq hE hFR
 go_enter func30,ntmps30
 go_wp2_with fail
 obtain⟨W0,Vg⟩:=xE (((w.alloc (Ux Z z.length cN aM mods.length V aS nS cS M x y)).alloc (Dr FR na I.ns.length nc I.li I.co)).alloc (.cells #[iP i,iP I.li,iP I.co,iP 11] 47))
 obtain⟨pb,Xo⟩:=xE w.heap.size
 have HC0:xQ (Z0 B (fun b=>(Value.slice T es.length O).ownBlock=some b) w W0):=by
  rw [Vg];exact(((Z0.refl _ _ _).alloc hB _).alloc (by rw [xS]; omega) _).alloc (by rw [xS,xS]; omega) _
 have Pq:xQ (yB pb W0 (Ux Z z.length cN aM mods.length V aS nS cS M x y) (Dr FR na I.ns.length nc I.li I.co) i I.li I.co 11):=by
  rw [Vg,Xo];exact oK _ _ _ _ _ _ _
 have Jf:W0.heap.size=pb+3:=by rw [Vg,Xo,xS,xS,xS]
 have HE0:xQ (W0.ownsRow B 29 3 (.slice T es.length O) es.length (es.flatMap Qa)):=by
  rw [Vg];exact((HE.o.alloc _).alloc _).alloc _
 have e0:=Vg
 unfold Ux Dr at e0
 rw [<- e0,<- Xo]
 have HP:=Za Xo
 have B4:=Za Jf
 have Ye:xQ (Below w0.heap.size w0 W0):=Ks.o.trans (HC0.o.below.mono hB0)
 clear Vg e0 Xo Jf
 refine(uF Z cN z FR W0 (HN.o.below Ye.o) (by have:=HL.o; omega)).mono ?_
 rintro e w1 ⟨rfl,rfl⟩
 rw [HFR.o,<- Uj.o]
 obtain⟨R,hR⟩:=xE (md I.fr)
 rw [<- hR]
 have HR:=Za hR
 clear hR
 cases R with
 | none =>
  have hFn:F=(es,[⟨i,I.li,I.co,11⟩]):=by
   rw [HF.o];unfold Jg;rw [<- HR.o]
  subst hFn;obtain⟨⟨d0,d1,d2,d3⟩,Ws,_⟩:=Pq.o.d;rw [show B9 none = -1 from rfl];go_wp2_with fail;go_region
  all_goals go_wp2_with fail
  all_goals
   refine bodyPost_ret (uL rfl _ _ _) rfl ?_;refine⟨.slice T es.length O,lP w1.heap.size 1 1,rfl,HE0.o.alloc _,?_,(HC0.o.alloc (by have:=B4.o; have:=HP.o; omega) _).drew⟩;exact bQ (w:=w1) (B:=w.heap.size) (by have:=B4.o; have:=HP.o; omega)
 | some f =>
  have hfl:f<mods.length:=by
   have e:=HR.o;rw [Uj.o] at e;obtain⟨h1,_⟩:=List.findIdx?_eq_some_iff_getElem.1 e.symm;have:=HL.o;omega
  have hfl':(f:Int)<(mods.length:Int):=by omega
  obtain⟨g,ia,ic,da,dc,rfl,hg,Pe,Ti,_,h9,_,zD⟩:=HM.o f hfl
  have HFn:xQ (F=Pj mods[f] f i I.li I.co I.ns (es,[])):=by
   rw [HF.o];unfold Jg;rw [<- HR.o];simp only;rw [List.getD_eq_getElem?_getD,List.getElem?_eq_getElem hfl];rfl
  obtain⟨il,Um⟩:=xE (mods[f].is.length);rw [<- Um] at Pe;obtain⟨o,ho⟩:=xE (mods[f]);rw [<- ho] at Ti h9 zD HFn;have HG:=Za (And.intro Pe Ti);have HD:=Za zD
  have P7:xQ (M3 pb B w (Ux Z z.length cN (some (aP g 0)) mods.length V aS nS cS M x y) (Dr FR na I.ns.length nc I.li I.co) i I.li I.co (.slice T es.length O) es.length 0 w1 (.slice T es.length O) nP (es,[]) 11) :=
   ⟨HC0.o,Pq.o,HE0.o,World.ownsRow_nil _ _ _ _,fun q e => .inl e,fun q e=>by have:=(HE.o.lt q e).2; have:=HP.o; omega,by have:=B4.o; omega,xR,xR⟩
  have hnz:((I.ns.length:Int)<=9223372036854775807):=by omega
  have hmz:((mods.length:Int)<=9223372036854775807):=by omega
  clear Pe Ti zD ho Um HR HF Pq HC0 HE0 HE;rw [show B9 (some f)=(f:Int) from rfl];go_wp2_with fail
  go_loopw [3,10,13] (fun vE vD j wr=>∃ (k:Nat) (s:Sc) (er:Int),k<=I.ns.length/\j=iP k/\xQ (M3 pb B w (Ux Z z.length cN (some (aP g 0)) mods.length V aS nS cS M x y) (Dr FR na I.ns.length nc I.li I.co) i I.li I.co (.slice T es.length O) es.length k wr vE vD s er/\F=Pj o f i I.li I.co (I.ns.drop k) s)) (fun _ _ j _=>I.ns.length - (intOf j).toNat)
  case atStart=>exact⟨0,(es,[]),11,xZ _,rfl,P7.o,HFn.o⟩
  case round =>
   clear P7 HFn B4;obtain⟨k,s,er,hk,rfl,HI⟩:=hrel;obtain⟨hI,hF⟩:=HI.o;have D8:=Za hI;obtain⟨av,cv,hv⟩:=Yt hI.rE;obtain⟨ad,cd,hd⟩:=Yt hI.rD;subst hv hd
   have x1:wr.cell? (aP (pb+1) 1)=some (.slice na I.ns.length nc):=by have h:=hI.box.x; simp [World.cell?,h]
   have p1:wr.cell? (aP pb 1)=some (lP g mods.length V):=by have h:=hI.box.p; simp [World.cell?,h]
   have Ys:=xB hI.box.p;have Aa:=xB hI.box.x;have Bx:xQ (Below w0.heap.size w0 wr):=Ks.o.trans (hI.chg.below.mono hB0);by_cases Z8:k<I.ns.length
   ·have Un:(k:Int)<(I.ns.length:Int):=by omega
    have HFk:xQ (F=Pj o f i I.li I.co (I.ns.drop (k+1)) (Lb o f i I.li I.co I.ns[k] s)):=hF.trans (by rw [List.drop_eq_getElem_cons Z8]; rfl);rcases Ll.o with h | ⟨C,N,rfl,_,hbn,hcn⟩
    ·rw [h] at Z8; cases Z8
    obtain⟨Y,Qb⟩:∃ Y:ByteArray,Y=⟨I.ns[k].toArray⟩:=⟨_,rfl⟩
    have n1:wr.cell? (aP C (N+k))=some (.string Y):=by rw [Qb]; exact(Bx.o.cell (p:=(aP C (N+k))) hbn).trans (hcn k Z8)
    have hNl:Y.data.toList=I.ns[k]:=by rw [Qb]
    have HNl:=Za hNl;have HNc2:xQ (Y=⟨I.ns[k].toArray⟩):=Qb
    have HNc:xQ (w0.cell? (aP C (N+k))=some (.string Y)):=by rw [Qb]; exact hcn k Z8
    have g0:wr.cell? (aP g (f*2))=some (.slice ia il ic):=(Bx.o.cell (p:=(aP g (f*2))) hg).trans HG.o.1;have g1:wr.cell? (aP g (f*2+1))=some (.slice da o.ds.length dc):=(Bx.o.cell (p:=(aP g (f*2+1))) hg).trans HG.o.2;have Gb:g<wr.heap.size:=xT hg Bx.o.size;have Yo:C<wr.heap.size:=xT hbn Bx.o.size;obtain⟨R,hR⟩:=xE (K6 o.ds I.ns[k])
    have HDc:xQ (∀ W,Below wr.heap.size wr W->Calls prog 20 #[.agg #[.slice ia il ic,.slice da o.ds.length dc],.string Y] W fun e w'=>e = .returned (iP (B9 R))/\Below W.heap.size W w'):=fun W hb=>by
     have h:=kL ia il ic da dc o.ds Y W ((HD.o.below (Bx.o.trans (hb.mono Bx.o.size))).to) (by omega);rw [HNl.o,<- hR] at h;exact h
    have HS9:xQ (∀ W,Below wr.heap.size wr W->W.cell? (aP pb 1)=some (lP g mods.length V)/\W.cell? (aP g (f*2))=some (.slice ia il ic)/\W.cell? (aP g (f*2+1))=some (.slice da o.ds.length dc)/\W.cell? (aP (pb+1) 1)=some (.slice (some (aP C N)) I.ns.length nc)/\W.cell? (aP C (N+k))=some (.string Y)):=fun W hb =>
     ⟨(hb.cell (p:=aP pb 1) Ys).trans p1,(hb.cell (p:=aP g _) Gb).trans g0,(hb.cell (p:=aP g _) Gb).trans g1,(hb.cell (p:=(aP (pb+1) 1)) Aa).trans x1,(hb.cell (p:=aP C _) Yo).trans n1⟩
    have HR:=Za hR;have Fb:Below wr.heap.size wr wr.drew:=(Below.refl _ _).drew;clear hcn hI hF hNl Qb HI hR;go_wp2_with fail
    go_region_held (fun W=>W.cell? (aP pb 1)=some (lP g mods.length V)/\W.cell? (aP g (f*2))=some (.slice ia il ic)/\W.cell? (aP g (f*2+1))=some (.slice da o.ds.length dc)/\W.cell? (aP (pb+1) 1)=some (.slice (some (aP C N)) I.ns.length nc)/\W.cell? (aP C (N+k))=some (.string Y)) (with_reducible exact HS9.o _ (by with_reducible assumption)) (first
     | (go_at_call 20; refine(HDc.o _ Fb).mono ?_; rintro e w5 ⟨rfl,Th⟩; have Rt:=Fb.trans Th; clear Th))
    obtain⟨a5,c5,e5,hEns⟩:=jB (J8 D8.o.rE Rt);injection e5 with e51 e52 e53;subst e51 e53
    have hel5:(s.1.length:Int)<=9223372036854775807:=by have:=D8.o.l1; omega
    have HEns:=Za hEns;clear hEns e52 p1 g0 g1 n1 Fb;go_wp2_with fail;refine(jN av cv s.1 Y w5 HEns.o hel5).mono ?_;rintro e A ⟨⟨fs,fa,fb,rfl⟩,Ss⟩;have hb6':Below wr.heap.size wr A:=Rt.trans (Ss.mono Rt.size);rw [HNl.o];obtain⟨hd,Ff⟩:=xE (La s.1 I.ns[k]);rw [<- Ff];have HHd:=Za Ff;have Wa:=Za (D8.o.below hB hb6');have HB6:xQ (Below w0.heap.size w0 A):=Bx.o.trans (hb6'.mono Bx.o.size)
    obtain⟨⟨d0,d1,d2,d3⟩,Ws,hdf⟩:=Wa.o.box.d;clear Ff Rt Ss hb6' x1 Ys Aa Gb Yo D8 HS9 HDc Bx HEns
    cases R with
    | none =>
     rw [show B9 none = -1 from rfl];have H:xQ (M3 pb B w (Ux Z z.length cN (some (aP g 0)) mods.length V aS nS cS M x y) (Dr FR (some (aP C N)) I.ns.length nc I.li I.co) i I.li I.co (.slice T es.length O) es.length k ((A.setCell (aP (pb+1+1) 3) (iP 12)).alloc (.cells #[.string fs,iP fa,iP fb] 29)) (.slice av s.1.length cv) (.slice ad s.2.length cd) s 12):=(Wa.o.setE hB HP.o 12).below hB (Zq _ _)
     obtain⟨W7,J⟩:=xE (((A.setCell (aP (pb+1+1) 3) (iP 12)).alloc (.cells #[.string fs,iP fa,iP fb] 29)));rw [<- J] at H
     have Uh:xQ (∀ j u,[iP i,iP I.li,iP I.co,iP 12][j]?=some u->(W7.alloc (.cells #[iP i,iP I.li,iP I.co,iP 12] 47)).cell? (((aP (A.heap.size+1) 0):Addr).add j)=some u):=by
      have:=V2 W7 [iP i,iP I.li,iP I.co,iP 12] 47;rw [show W7.heap.size=A.heap.size+1 by rw [J,xS,World.size_setCell]] at this;exact this
     have Si:=Za J;have Uo:=Wa.o.l2;have hs7:=H.o.sz;clear J
     go_wp2_with(at_builtin; rw [<- Si.o]; refine wpList_append_own_at _ rfl (.tmp 77) (.tmp 79) 32 rfl (pb+3) 47 i0 _ 4 32 underlying32 hi Xr Xg Xw rfl (by decide) _ _ _ rfl (H.o.rD.alloc _) (aP _ 0) 1 1 [iP i,iP I.li,iP I.co,iP 12] rfl rfl Uh.o (by simp [Value.oneCell']) (by unfold maxLen; omega) (by omega) (by rw [xS]; omega) ?_)
     intro v' w8 Zr Zo _ _;obtain⟨a8,c8,rfl⟩:=Yt Zr;have HI8:xQ (M3 pb B w (Ux Z z.length cN (some (aP g 0)) mods.length V aS nS cS M x y) (Dr FR (some (aP C N)) I.ns.length nc I.li I.co) i I.li I.co (.slice T es.length O) es.length (k+1) w8 (.slice av s.1.length cv) (.slice a8 (s.2.length+1) c8) (s.1,s.2 ++ [⟨i,I.li,I.co,12⟩]) 12):=H.o.tell hB HP.o Zo Zr;have D6:xQ (F=Pj o f i I.li I.co (I.ns.drop (k+1)) (s.1,s.2 ++ [⟨i,I.li,I.co,12⟩])):=HFk.o.trans (by unfold Lb; rw [nJ,<- HR.o])
     clear Zr Zo;go_wp2_with fail;exact⟨⟨k+1,_,12,by omega,by go_num,HI8.o,D6.o⟩,by simp [intOf]; omega⟩
    | some n =>
     have Yb:=kX HR.o.symm
     have hnl':(n:Int)<(o.ds.length:Int):=by omega
     obtain⟨gd,rfl,Mv,_,hex,_⟩:=HD.o n Yb;obtain⟨ex,hexv⟩:=xE (o.ds[n].ex);rw [<- hexv] at hex
     have p1:A.cell? (aP pb 1)=some (lP g mods.length V):=by have h:=Wa.o.box.p; simp [World.cell?,h]
     have Ys:=xB Wa.o.box.p;have g1:A.cell? (aP g (f*2+1))=some (lP gd o.ds.length dc):=(HB6.o.cell (p:=(aP g (f*2+1))) hg).trans HG.o.2;have Gb:g<A.heap.size:=xT hg HB6.o.size;have e1:A.cell? (aP gd (n*15+1))=some (.bool ex):=(HB6.o.cell (p:=(aP gd (n*15+1))) Mv).trans hex;have hdl2:gd<A.heap.size:=xT Mv HB6.o.size
     have hdz:((o.ds.length:Int)<=9223372036854775807):=by omega
     have HX:=Za hexv
     have Xc:xQ (Lb o f i I.li I.co I.ns[k] s=if ex=false then(s.1,s.2 ++ [⟨i,I.li,I.co,12⟩])else if hd then(s.1,s.2 ++ [⟨i,I.li,I.co,8⟩])else(s.1 ++ [⟨I.ns[k],f,n⟩],s.2)):=by
      unfold Lb;rw [nJ,<- HR.o];simp only;rw [List.getD_eq_getElem?_getD,List.getElem?_eq_getElem Yb,HX.o,HHd.o];rfl
     rw [show B9 (some n)=(n:Int) from rfl];clear hex hexv
     cases ex with
     | false =>
      have H:xQ (M3 pb B w (Ux Z z.length cN (some (aP g 0)) mods.length V aS nS cS M x y) (Dr FR (some (aP C N)) I.ns.length nc I.li I.co) i I.li I.co (.slice T es.length O) es.length k ((A.setCell (aP (pb+1+1) 3) (iP 12)).alloc (.cells #[.string fs,iP fa,iP fb] 29)) (.slice av s.1.length cv) (.slice ad s.2.length cd) s 12):=(Wa.o.setE hB HP.o 12).below hB (Zq _ _);obtain⟨W7,J⟩:=xE (((A.setCell (aP (pb+1+1) 3) (iP 12)).alloc (.cells #[.string fs,iP fa,iP fb] 29)))
      rw [<- J] at H
      have Uh:xQ (∀ j u,[iP i,iP I.li,iP I.co,iP 12][j]?=some u->(W7.alloc (.cells #[iP i,iP I.li,iP I.co,iP 12] 47)).cell? (((aP (A.heap.size+1) 0):Addr).add j)=some u):=by
       have:=V2 W7 [iP i,iP I.li,iP I.co,iP 12] 47;rw [show W7.heap.size=A.heap.size+1 by rw [J,xS,World.size_setCell]] at this;exact this
      have Si:=Za J;have Uo:=Wa.o.l2;have hs7:=H.o.sz;clear J
      go_wp2_with(at_builtin; rw [<- Si.o]; refine wpList_append_own_at _ rfl (.tmp 77) (.tmp 79) 32 rfl (pb+3) 47 i0 _ 4 32 underlying32 hi Xr Xg Xw rfl (by decide) _ _ _ rfl (H.o.rD.alloc _) (aP _ 0) 1 1 [iP i,iP I.li,iP I.co,iP 12] rfl rfl Uh.o (by simp [Value.oneCell']) (by unfold maxLen; omega) (by omega) (by rw [xS]; omega) ?_)
      intro v' w8 Zr Zo _ _;obtain⟨a8,c8,rfl⟩:=Yt Zr;have HI8:xQ (M3 pb B w (Ux Z z.length cN (some (aP g 0)) mods.length V aS nS cS M x y) (Dr FR (some (aP C N)) I.ns.length nc I.li I.co) i I.li I.co (.slice T es.length O) es.length (k+1) w8 (.slice av s.1.length cv) (.slice a8 (s.2.length+1) c8) (s.1,s.2 ++ [⟨i,I.li,I.co,12⟩]) 12):=H.o.tell hB HP.o Zo Zr;have D6:xQ (F=Pj o f i I.li I.co (I.ns.drop (k+1)) (s.1,s.2 ++ [⟨i,I.li,I.co,12⟩])):=HFk.o.trans (by rw [Xc.o]; rfl)
      clear Zr Zo;go_wp2_with fail;exact⟨⟨k+1,_,12,by omega,by go_num,HI8.o,D6.o⟩,by simp [intOf]; omega⟩
     | true =>
      cases hd with
      | true =>
       have H:xQ (M3 pb B w (Ux Z z.length cN (some (aP g 0)) mods.length V aS nS cS M x y) (Dr FR (some (aP C N)) I.ns.length nc I.li I.co) i I.li I.co (.slice T es.length O) es.length k ((A.setCell (aP (pb+1+1) 3) (iP 8)).alloc (.cells #[.string fs,iP fa,iP fb] 29)) (.slice av s.1.length cv) (.slice ad s.2.length cd) s 8):=(Wa.o.setE hB HP.o 8).below hB (Zq _ _);obtain⟨W7,J⟩:=xE (((A.setCell (aP (pb+1+1) 3) (iP 8)).alloc (.cells #[.string fs,iP fa,iP fb] 29)))
       rw [<- J] at H
       have Uh:xQ (∀ j u,[iP i,iP I.li,iP I.co,iP 8][j]?=some u->(W7.alloc (.cells #[iP i,iP I.li,iP I.co,iP 8] 47)).cell? (((aP (A.heap.size+1) 0):Addr).add j)=some u):=by
        have:=V2 W7 [iP i,iP I.li,iP I.co,iP 8] 47;rw [show W7.heap.size=A.heap.size+1 by rw [J,xS,World.size_setCell]] at this;exact this
       have Si:=Za J;have Uo:=Wa.o.l2;have hs7:=H.o.sz;clear J
       go_wp2_with(at_builtin; rw [<- Si.o]; refine wpList_append_own_at _ rfl (.tmp 83) (.tmp 85) 32 rfl (pb+3) 47 i0 _ 4 32 underlying32 hi Xr Xg Xw rfl (by decide) _ _ _ rfl (H.o.rD.alloc _) (aP _ 0) 1 1 [iP i,iP I.li,iP I.co,iP 8] rfl rfl Uh.o (by simp [Value.oneCell']) (by unfold maxLen; omega) (by omega) (by rw [xS]; omega) ?_)
       intro v' w8 Zr Zo _ _;obtain⟨a8,c8,rfl⟩:=Yt Zr;have HI8:xQ (M3 pb B w (Ux Z z.length cN (some (aP g 0)) mods.length V aS nS cS M x y) (Dr FR (some (aP C N)) I.ns.length nc I.li I.co) i I.li I.co (.slice T es.length O) es.length (k+1) w8 (.slice av s.1.length cv) (.slice a8 (s.2.length+1) c8) (s.1,s.2 ++ [⟨i,I.li,I.co,8⟩]) 8):=H.o.tell hB HP.o Zo Zr;have D6:xQ (F=Pj o f i I.li I.co (I.ns.drop (k+1)) (s.1,s.2 ++ [⟨i,I.li,I.co,8⟩])):=HFk.o.trans (by rw [Xc.o]; rfl)
       clear Zr Zo;go_wp2_with fail;exact⟨⟨k+1,_,8,by omega,by go_num,HI8.o,D6.o⟩,by simp [intOf]; omega⟩
      | false =>
       have x1:A.cell? (aP (pb+1) 1)=some (.slice (some (aP C N)) I.ns.length nc):=by have h:=Wa.o.box.x; simp [World.cell?,h]
       have Aa:=xB Wa.o.box.x;have n1:A.cell? (aP C (N+k))=some (.string Y):=(HB6.o.cell (p:=(aP C (N+k))) hbn).trans HNc.o;have Yo:C<A.heap.size:=xT hbn HB6.o.size;have H:xQ (M3 pb B w (Ux Z z.length cN (some (aP g 0)) mods.length V aS nS cS M x y) (Dr FR (some (aP C N)) I.ns.length nc I.li I.co) i I.li I.co (.slice T es.length O) es.length k (A.alloc (.cells #[.string fs,iP fa,iP fb] 29)) (.slice av s.1.length cv) (.slice ad s.2.length cd) s er):=Wa.o.below hB (Zq _ _)
       obtain⟨W7,J⟩:=xE (A.alloc (.cells #[.string fs,iP fa,iP fb] 29));rw [<- J] at H
       have Uh:xQ (∀ j u,[Value.string Y,iP f,iP n][j]?=some u->(W7.alloc (.cells #[.string Y,iP f,iP n] 29)).cell? (((aP (A.heap.size+1) 0):Addr).add j)=some u):=by
        have:=V2 W7 [.string Y,iP f,iP n] 29;rw [show W7.heap.size=A.heap.size+1 by rw [J,xS]] at this;exact this
       have Si:=Za J;have Xz:=Wa.o.l1;have hs7:=H.o.sz;have hc7:=H.o.chg.size;clear J
       go_wp2_with(at_builtin; rw [<- Si.o]; refine wpList_append_own_at _ rfl (.tmp 87) (.tmp 96) 42 rfl B 29 i1 _ 3 32 underlying42 hi1 hy0 hy1 hy2 rfl (by decide) _ _ _ rfl (H.o.rE.alloc _) (aP _ 0) 1 1 [.string Y,iP f,iP n] rfl rfl Uh.o (by simp [Value.oneCell']) (by unfold maxLen; omega) (by omega) (by rw [xS]; omega) ?_)
       intro v' w8 Zr Zo _ Z4;obtain⟨a8,c8,rfl⟩:=Yt Zr;have HI8:xQ (M3 pb B w (Ux Z z.length cN (some (aP g 0)) mods.length V aS nS cS M x y) (Dr FR (some (aP C N)) I.ns.length nc I.li I.co) i I.li I.co (.slice T es.length O) es.length (k+1) w8 (.slice a8 (s.1.length+1) c8) (.slice ad s.2.length cd) (s.1 ++ [⟨I.ns[k],f,n⟩],s.2) er):=H.o.add hB HP.o Zo (by rw [HNc2.o] at Zr; exact Zr) (by rw [xS]; exact Z4)
       have D6:xQ (F=Pj o f i I.li I.co (I.ns.drop (k+1)) (s.1 ++ [⟨I.ns[k],f,n⟩],s.2)):=HFk.o.trans (by rw [Xc.o]; rfl);clear Zr Zo Z4;go_wp2_with fail;exact⟨⟨k+1,_,er,by omega,by go_num,HI8.o,D6.o⟩,by simp [intOf]; omega⟩
   ·have Un:¬ (k:Int)<(I.ns.length:Int):=by omega
    have De:F=s:=hF.trans (by rw [List.drop_eq_nil_of_le (by omega)]; rfl);have HFs:=Za De;clear hI hF De HI p1;go_wp2_with fail;refine bodyPost_ret (uL rfl _ _ _) rfl ?_;refine⟨.slice av s.1.length cv,.slice ad s.2.length cd,rfl,?_,?_,D8.o.chg⟩
    ·rw [HFs.o]
     exact D8.o.rE
    ·rw [HFs.o,<- HP.o]
     exact bP D8.o.rD (by omega)
structure Ju (w:wD) (sb mb lo:Nat) (vE:vL) (es:List En):Prop where
 box:w.heap[sb]?=some (.cells #[vE,.map (some mb)] 76)
 row:w.ownsRow lo 29 3 vE es.length (es.flatMap Qa)
 set:G0 w mb es
abbrev scS (sb mb:Nat) (vE:vL) (b:Nat):Prop:=b=sb∨b=mb∨vE.ownBlock=some b
section
variable {w w1 : wD} {sb mb lo B : Nat} {vE : vL} {es : List En} {S : Nat -> Prop}
theorem Ju.chg (h:Ju w sb mb lo vE es) (j:Z0 B S w w1) (z:∀ b,S b->¬ scS sb mb vE b):Ju w1 sb mb lo vE es :=
 ⟨j.obj h.box fun e=>z _ e (.inl rfl),j.row h.row fun _ A e=>z _ e (.inr (.inr A)),h.set.block (j.keep mb h.set.lt fun e=>z _ e (.inr (.inl rfl)))⟩
theorem Ju.alloc (h:Ju w sb mb lo vE es) (o:Obj):Ju (w.alloc o) sb mb lo vE es:=h.chg ((Z0.refl 0 (fun _=>False) w).alloc (xZ _) o) fun _ e=>e.elim
theorem Ju.drew (h:Ju w sb mb lo vE es):Ju w.drew sb mb lo vE es:=⟨h.box,h.row,h.set⟩
end
abbrev E9 (e:En):Obj := .cells #[uP e.nm,iP e.m,iP e.d] 29
theorem add_c (B sb mb lo:Nat) (vE:vL) (es:List En) (e:En) (w:wD) (h:Ju w sb mb lo vE es) (hB1:B<=sb) (hB2:B<=mb) (hs:sb<lo) (hm:mb<lo) (hl:lo<=w.heap.size) (he:e.nm.length<=1000000000000) (hn:es.length<=100000000000) :
  Calls prog 26 #[qP sb,.agg #[uP e.nm,iP e.m,iP e.d]] w fun x w'=>x = .returned (.bool (!La es e.nm))/\∃ vE',Ju w' sb mb lo vE' (if La es e.nm then es else es ++ [e]) /\
   (vE'.ownBlock=vE.ownBlock∨∃ q,vE'.ownBlock=some q/\w.heap.size<=q)/\Z0 B (scS sb mb vE) w w':=by
 have hS:(⟨e.nm.toArray⟩:bA).size<=maxLen:=by simp [ByteArray.size]; unfold maxLen; omega
 have Bm:=h.set.lt
 have Wx:=xB h.box
 have Z1:sb≠mb:=by
  rintro rfl;obtain⟨x,ck,h1⟩:=h.set.obj;rw [h.box] at h1;cases h1
 have HH:=Za h
 have F:∀ W:wD,Ju W sb mb lo vE es->W.heap[w.heap.size]?=some (E9 e)->(W.cell? (aP sb 0)=some vE/\W.cell? (aP sb 1)=some (.map (some mb)))/\(W.frozen? (aP sb 0)=false/\W.frozen? (aP sb 1)=false)/\(c3 W w.heap.size (uP e.nm) (iP e.m) (iP e.d))/\(Instr.lookup 74 (.map (some mb)) (uP e.nm) true).run prog W = .ok (.tuple #[.agg #[],.bool (La es e.nm)]) W:=by
  intro W hW hE;refine⟨(Nd hW.box).1,(Nd hW.box).2.1,?_,by simpa using zif hW.set ⟨e.nm.toArray⟩ hS⟩
  refine⟨?_,?_,?_⟩ <;> simp [World.cell?,hE]
 have HF:=Za F
 obtain⟨i,T⟩:=xE (La es e.nm)
 have hA:Ju (w.alloc (E9 e)).drew sb mb lo vE es:=(h.alloc _).drew
 have N:Ju ((w.alloc (E9 e)).alloc (.cells #[] 100)).drew sb mb lo vE es:=((h.alloc _).alloc _).drew
 obtain⟨⟨Y,a1⟩,⟨z0,z1⟩,⟨Z,V,J⟩,l1⟩:=F _ hA (xL _ _)
 obtain⟨⟨a0',a1'⟩,⟨z0',z1'⟩,⟨e0',e1',e2'⟩,l1'⟩:=F _ N ((xA (by rw [xS]; omega)).trans (xL _ _))
 rw [<- T] at l1 l1' ⊢
 have HI:=Za T
 clear F h hA N T
 cases i with
 | true =>
  go_enter func26,ntmps26;go_wp2_with fail;go_region
  all_goals
   go_wp2_with fail;go_ret;refine⟨rfl,vE,((HH.o.alloc _).alloc _).drew,.inl rfl,?_⟩;exact(((Z0.refl _ _ _).alloc (by omega) _).alloc (by rw [xS]; omega) _).drew
 | false =>
  obtain⟨i0,T,Xr,Xg,Xw⟩:=info_parts nB;go_enter func26,ntmps26;go_wp2_with fail;go_region
  all_goals
   go_wp2_with fail;clear Y a1 z0 z1 Z V J l1 a0' a1' z0' z1' e0' e1' e2' l1'
   have C:xQ (((w.alloc (E9 e)).alloc (.cells #[] 100)).drew.drew.heap.size=w.heap.size+2):=by show(World.alloc _ _).heap.size=_; rw [xS,xS]
   have O:xQ (Ju ((w.alloc (E9 e)).alloc (.cells #[] 100)).drew.drew sb mb lo vE es):=((HH.o.alloc _).alloc _).drew.drew;have HE3:xQ (((w.alloc (E9 e)).alloc (.cells #[] 100)).drew.drew.heap[w.heap.size]?=some (E9 e)):=(xA (by rw [xS]; omega)).trans (xL _ _);have Nx:xQ (Z0 B (scS sb mb vE) w ((w.alloc (E9 e)).alloc (.cells #[] 100)).drew.drew):=(((Z0.refl _ _ _).alloc (by omega) _).alloc (by rw [xS]; omega) _).drew.drew
   obtain⟨⟨Y,a1⟩,⟨z0,z1⟩,⟨Z,V,J⟩,_⟩:=HF.o _ O.o HE3.o;obtain⟨j,Je,H,hgr⟩:=zih O.o.set (by omega) ⟨e.nm.toArray⟩ hS e.m e.d;have Vs:=Za H;have A:=Za hgr;clear H hgr;go_region
   all_goals
    go_wp2_with fail;clear Y a1 z0 z1 Z V J Je
    have z:xQ (w.heap.size+2<=j.heap.size):=by have:=A.o.size; rw [C.o] at this; exact this
    have Fw:xQ (Z0 B (scS sb mb vE) w j):=Nx.o.grown A.o (by rw [C.o]; omega) fun q e=>by injection e with e; exact⟨by omega,fun _ => .inr (.inl e.symm)⟩
    have Nz:xQ (j.drew.heap[sb]?=some (.cells #[vE,.map (some mb)] 76)):=(A.o.block sb (by rw [C.o]; omega) (by intro e; injection e with e; exact Z1 e)).trans O.o.box
    have Xn:xQ (j.drew.ownsRow lo 29 3 vE es.length (es.flatMap Qa)):=(O.o.row.kept A.o (by
     cases hv:vE.ownBlock with
     | none=>exact .inl rfl
     | some q =>
      refine .inr fun e=>?_
      injection e with e;have:=(O.o.row.lt q hv).1
      omega):j.ownsRow lo 29 3 vE es.length (es.flatMap Qa))
    have I:xQ (j.drew.heap[w.heap.size]?=some (E9 e)):=(A.o.block w.heap.size (by rw [C.o]; omega) (by intro e; injection e with e; omega)).trans HE3.o;obtain⟨⟨Y,a1⟩,⟨z0,z1⟩,hsl'⟩:=Nd Nz.o;have L2:sb<j.heap.size:=hsl'
    have Fd:w.heap.size<j.heap.size:=by have:=z.o; omega
    clear hsl'
    have Z:j.drew.cell? (aP w.heap.size 0)=some (uP e.nm):=by have:=I.o; simp [World.cell?,this]
    have V:j.drew.cell? (aP w.heap.size 1)=some (iP e.m):=by have:=I.o; simp [World.cell?,this]
    have J:j.drew.cell? (aP w.heap.size 2)=some (iP e.d):=by have:=I.o; simp [World.cell?,this]
    have a0w:j.cell? (aP sb 0)=some vE:=Y;have e0w:j.cell? (aP w.heap.size 0)=some (uP e.nm):=Z;have e1w:j.cell? (aP w.heap.size 1)=some (iP e.m):=V;have e2w:j.cell? (aP w.heap.size 2)=some (iP e.d):=J;obtain⟨av,cv,rfl⟩:=Yt Xn.o
    go_region_law(refine El rfl (.tmp 29) (.tmp 31) 42 rfl lo 29 i0 _ 3 32 underlying42 T Xr Xg Xw rfl (by decide) _ _ _ (by first | rfl | simp [Act.eval,Act.put]) (Xn.o.alloc _) (aP j.heap.size 0) 1 1 [uP e.nm,iP e.m,iP e.d] (by first | rfl | simp [Act.eval,Act.put]) rfl (V2 _ _ _) (by simp [Value.oneCell']) (by unfold maxLen; omega) (by omega) (by have:=z.o; show lo<=(j.alloc _).heap.size; rw [xS]; omega) ?_; intro v' w5 Zr Zo Z4; obtain⟨av',cv',rfl⟩:=Yt Zr; have HO5:=Za Zr; have HG5:=Za Zo; have HL5:=Za Z4; have Js:=Za ((Zo.block sb (by show sb<(j.alloc _).heap.size; rw [xS]; omega) (fun e=>by have:=(Xn.o.lt sb e.symm).1; omega)).trans ((xA L2).trans Nz.o)); obtain⟨⟨b0,b1⟩,⟨f0,f1⟩,hsl5⟩:=Nd Js.o; clear Zr Zo Z4)
    all_goals
     go_wp2_with fail;go_ret
     have M:∀ q,(Value.slice av es.length cv).ownBlock=some q->lo<=q:=fun q hq=>(Xn.o.lt q hq).1
     refine⟨rfl,.slice av' (es.length+1) cv',⟨?_,?_,?_⟩,?_,?_⟩
     ·have:=Y1 (o:=0) (u := .slice av' (es.length+1) cv') Js.o
      simpa using this
     ·have:=ownsRow_setCell_below HO5.o (a:=aP sb 0) hs (.slice av' (es.length+1) cv')
      simpa using this
     ·have hx:G0 j mb (es ++ [e]):=Vs.o
      refine hx.block ((xH (fun e=>Z1 e.symm)).trans ((HG5.o.block mb (by show mb<(j.alloc _).heap.size; rw [xS]; have:=z.o; omega) fun e=>by have:=M mb e.symm; omega).trans (xA (by show mb<j.heap.size; have:=z.o; omega))))
     ·rcases HL5.o with e | e
      ·exact .inl e
      ·exact .inr ⟨_,e,by show w.heap.size<=(j.alloc _).heap.size; rw [xS]; have:=z.o; omega⟩
     ·refine Z0.set ?_ hB1 (fun _ => .inl rfl) 0 _
      refine Z0.grown (Fw.o.drew.alloc (by show B<=j.heap.size; have:=z.o; omega) _) HG5.o (by show B<=(j.alloc _).heap.size; rw [xS]; have:=z.o; omega) fun q e=>⟨by have:=M q e; omega,fun _ => .inr (.inr e)⟩
end
end Go.Proofs.YtoppemkjhhlegaaGreatDoor
