/- Part. -/
import Derived.Test.YtoppemkjhhlegaaGreatDoorPart20
set_option maxRecDepth 100000
set_option maxHeartbeats 4000000
namespace Go.Proofs.YtoppemkjhhlegaaGreatDoor
open Go.Proofs.Tryz
section
open Go.RowKit Go.Maps
theorem nH (a:oA) (cap:Nat) (l:List G1) (w:wD) (hw:Lx.Words w) (hs:Kz w.heap.size w a l) (hl:l.length<=1000) (hz:∀ p ∈ l,p.1.size<=140737488351232/\p.2.size<=140737488351232) :
  Calls prog 6 #[.slice a l.length cap] w (wZ w (Tc (Y3 l))):=by
 have hmm:=@run_makeMap prog
 have hmf:∀ (fn:Fn) (first cap:Array vL) (w:wD),(Instr.makeFunc fn first cap).run prog w = .ok (.func fn first cap) w:=fun _ _ _ _=>rfl
 have HW:=Za hw
 have HS:=Za hs
 have HZ:=Za hz
 obtain⟨R,hR⟩:=xE (Tc (Y3 l))
 rw [<- hR]
 have HR:=Za hR
 clear hw hs hz hR
 go_enter func6,ntmps6
 go_wp2_with fail
 simp only [Nat.add_assoc,Nat.reduceAdd]
 obtain⟨q,hq⟩:=xE w.heap.size
 rw [<- hq]
 obtain⟨W0,Vg⟩:=xE ((((((w.alloc (.cells #[.slice a l.length cap] 22)).alloc z6).alloc (.map #[] 0)).alloc (Ra (q+2) nP nP nP nP)).alloc (.cells #[qP (q+3)] 48)).alloc (bY q))
 rw [<- Vg]
 have e1:(w.alloc (.cells #[.slice a l.length cap] 22)).heap.size=q+1:=by rw [xS,hq]
 have e2:((w.alloc (.cells #[.slice a l.length cap] 22)).alloc z6).heap.size=q+2:=by rw [xS,e1]
 have e3:(((w.alloc (.cells #[.slice a l.length cap] 22)).alloc z6).alloc (.map #[] 0)).heap.size=q+3:=by rw [xS,e2]
 have e4:((((w.alloc (.cells #[.slice a l.length cap] 22)).alloc z6).alloc (.map #[] 0)).alloc (Ra (q+2) nP nP nP nP)).heap.size=q+4:=by rw [xS,e3]
 have e5:(((((w.alloc (.cells #[.slice a l.length cap] 22)).alloc z6).alloc (.map #[] 0)).alloc (Ra (q+2) nP nP nP nP)).alloc (.cells #[qP (q+3)] 48)).heap.size=q+5:=by rw [xS,e4]
 have HA0:xQ (Cy q a l.length cap w W0):=by
  have k1:=Below.heap_alloc w (.cells #[.slice a l.length cap] 22);have k2:=Below.heap_alloc (w.alloc (.cells #[.slice a l.length cap] 22)) z6;have k3:=Below.heap_alloc ((w.alloc (.cells #[.slice a l.length cap] 22)).alloc z6) (.map #[] 0);have k4:=Below.heap_alloc (((w.alloc (.cells #[.slice a l.length cap] 22)).alloc z6).alloc (.map #[] 0)) (Ra (q+2) nP nP nP nP);have k5:=Below.heap_alloc ((((w.alloc (.cells #[.slice a l.length cap] 22)).alloc z6).alloc (.map #[] 0)).alloc (Ra (q+2) nP nP nP nP)) (.cells #[qP (q+3)] 48)
  have k6:=Below.heap_alloc (((((w.alloc (.cells #[.slice a l.length cap] 22)).alloc z6).alloc (.map #[] 0)).alloc (Ra (q+2) nP nP nP nP)).alloc (.cells #[qP (q+3)] 48)) (bY q);rw [Vg];refine⟨?_,?_,?_,?_,?_⟩
  ·rw [hq]
   exact Zz (Zz (Zz (Zz (Zz (Zq _ _) (Zq _ _)) (Zq _ _)) (Zq _ _)) (Zq _ _)) (Zq _ _)
  ·rw [k6 _ (by omega),k5 _ (by omega),k4 _ (by omega),k3 _ (by omega),k2 _ (by omega),hq]
   exact xL _ _
  ·rw [k6 _ (by omega),k5 _ (by omega),k4 _ (by omega),k3 _ (by omega),<- e1]
   exact xL _ _
  ·rw [k6 _ (by omega),<- e4]
   exact xL _ _
  ·rw [<- e5]
   exact xL _ _
 have HT0:xQ (yK q l 0 W0):=by
  refine .inl ⟨rfl,?_⟩;rw [Vg];refine⟨?_,?_,World.ownsRow_nil _ _ _ _,World.ownsRow_nil _ _ _ _,World.ownsRow_nil _ _ _ _,World.ownsRow_nil _ _ _ _,rfl,(fun _ h=>nomatch h),(fun _ h=>nomatch h),(fun _ h=>nomatch h),(fun _=>rfl),by omega,by omega,?_⟩
  ·rw [xA (by rw [e5]; omega),xA (by rw [e4]; omega),<- e3]
   exact xL _ _
  ·have h0:=nZ ((w.alloc (.cells #[.slice a l.length cap] 22)).alloc z6)
   rw [e2] at h0;exact h0.block (by rw [xA (by rw [e5]; omega),xA (by rw [e4]; omega),xA (by rw [e3]; omega)])
  ·rw [xS,e5]
   exact xR
 have F4:=Za hq
 clear e1 e2 e3 e4 e5 Vg hq
 go_loopw [21] (fun i wr=>∃ k:Nat,i=iP k/\k<=4/\xQ (yK q l k wr)/\xQ (Cy q a l.length cap w wr)) (fun i _=>4 - (intOf i).toNat)
 case atStart=>exact⟨0,rfl,by omega,HT0.o,HA0.o⟩
 case round =>
  obtain⟨k,rfl,hk,HT,HA⟩:=hrel;have HTT:=HT.o;have M:=HA.o.o5
  have g4:wr.cell? (aP (q+4) 0)=some (qP (q+3)):=by have:=HA.o.o4; simp [World.cell?,this]
  have g0:wr.cell? (aP q 0)=some (.slice a l.length cap):=by have:=HA.o.o0; simp [World.cell?,this]
  have HWw:xQ (Lx.Words wr):=HW.o.below (F4.o ▸ HA.o.bl);have HSw:xQ (Kz (q+2) wr a l):=(HS.o.below (F4.o ▸ HA.o.bl)).mono (by have:=F4.o; omega);rcases HTT with⟨rfl,hp⟩ | ⟨r,hV,Mi,⟨rfl,I⟩ | ⟨vS,vs,Yn,T,⟨rfl,I⟩ | ⟨hcy,⟨rfl,I⟩ | ⟨m,i,rfl,N,I⟩⟩⟩⟩
  ·have t0:wr.cell? (aP (q+5) 0)=some (fn1 q):=by simp [World.cell?,M]
   have HP:=Za hp;clear hp M HT;go_wp2_with fail;refine(zjv (q+6) (q+3) (q+2) (q+4) q a cap l _ _ _ _ wr HP.o HWw.o (by omega) HSw.o hl HZ.o g4 g0).mono ?_;rintro e w2 ⟨rfl,⟨vN,vM,vF,vD,xs,fb,hp2,hf2⟩,J3⟩;have C:=Za (HA.o.kp J3);by_cases Mi:(Y6 (Y3 l)).ds=[]
   ·obtain⟨Mj,Ja,Vk⟩:=pK Mi
    obtain⟨r,hV,I⟩:=vw_of hp2 hf2 Mi (fun p hp=>by rw [Mj]; exact Vk p hp) (by rw [Mj]; exact Ja);have HTn:xQ (yK q l 1 w2) := .inr ⟨r,hV,Mi,.inl ⟨rfl,I⟩⟩;obtain⟨⟨_,_,_,_,_,_,_,_,f8⟩,_,Fh⟩:=Mc I
    have g4':w2.cell? (aP (q+4) 0)=some (qP (q+3)):=by have:=C.o.o4; simp [World.cell?,this]
    clear hp2 hf2 J3 Mi Mj Ja Vk hV I g4 g0 t0;go_wp2_with fail
    go_roundw
    case rel=>exact⟨1,by go_num,by omega,HTn.o,C.o⟩
    case measure=>simp [intOf]
   ·obtain⟨aD,cD,rfl⟩:=Yt hp2.rD
    have hn0:0<(Y6 (Y3 l)).ds.length:=List.length_pos_iff.2 Mi;have Jp:=Za hp2.box;have B3:=Za (J9 hp2.rD (show q<=q+6 by omega))
    have Ud:xQ (R = .inr (Y6 (Y3 l)).ds):=by
     rw [HR.o];show Tc (Y3 l)=_;unfold Tc;simp only;rw [if_pos (by omega)]
    clear hp2 hf2 J3 Mi g4 g0 t0;obtain⟨⟨_,_,_,_,_,_,_,_,f8⟩,_,Fh⟩:=Mc Jp.o;have f8d:w2.drew.cell? (aP (q+3) 8)=some (.slice aD (Y6 (Y3 l)).ds.length cD):=f8
    have g4:w2.cell? (aP (q+4) 0)=some (qP (q+3)):=by have:=C.o.o4; simp [World.cell?,this]
    have g4d:w2.drew.cell? (aP (q+4) 0)=some (qP (q+3)):=g4;obtain⟨⟨z0,z1,z2,z3,z4,z5⟩,A,hzl⟩:=Pc C.o.o1;have z0d:w2.drew.cell? (aP (q+1) 0)=some nP:=z0;have H:w2.drew.frozen? (aP (q+1) 0)=false:=A 0;have zf0:=A 0;have zf1:=A 1;have zf2:=A 2;have zf3:=A 3;have Z:=A 4;have zf5:=A 5
    have hnz:(0:Int)<((Y6 (Y3 l)).ds.length:Int):=by omega
    clear A;go_wp2_with fail;obtain⟨Wf,F⟩:=xE (P3 w2 (q+1) nP nP nP sP (iP 0) (iP 0))
    have HO:xQ (Wf.heap[q+1]?=some z6):=by rw [F]; exact Cq C.o.o1 _ _ _ _ _ _
    have V:xQ (Z0 (q+1) (fun b=>b=q+1) w2 Wf):=by rw [F]; exact Oa _ _ _ _ _ _ _ _
    have Qv:=Za F;clear F
    apply wA Wf.drew
    ·go_region
     all_goals
      refine⟨rfl,?_⟩;rw [Qv.o]
    ·simp only [Exit.then]
     clear Qv z0 z1 z2 z3 z4 z5 zf0 zf1 zf2 zf3 Z zf5 z0d H;go_wp2_with fail;refine bodyPost_ret (Fp rfl _ rfl (show Wf.drew.heap[q+1]?=some z6 from HO.o) underlying31 (by kernel_rfl) rfl) rfl ?_;rw [Ud.o];refine⟨?_,_,rfl,?_⟩
     ·rw [<- F4.o]
      exact(C.o.bl.trans (V.o.below.mono (by omega))).drew
     ·rw [<- F4.o]
      exact V.o.drew.row B3.o fun b hb e=>by
       obtain⟨c,z⟩:=Jl B3.o hb;rw [e,C.o.o1] at z;injection z with z;injection z with _ z;cases z
  ·have t1:wr.cell? (aP (q+5) 1)=some (fnK 13 q):=by simp [World.cell?,M]
   have Ht:=Za hV;have Tn:=Za I;have Y:=Za Mi;have Ut:=hV.lt3;clear M HT hV I Mi g0 HWw HSw;go_wp2_with fail;refine(zia (q+6) (q+3) (q+2) _ r wr Ht.o Tn.o).mono ?_;rintro e w2 ⟨rfl,vS,vD,vs,Sr⟩;have C:=Za (HA.o.stay Sr.st);obtain⟨c,z⟩:=xE (Pk (Y6 (Y3 l)).num (Y6 (Y3 l)).mods 0 (Y6 (Y3 l)).mods [] []);rw [<- z] at Sr;have HCc:=Za z;clear z;by_cases T:c.2=[]
   ·have Yb:=Sr.nil T
    subst Yb
    have HTn:xQ (yK q l 2 w2):=by
     refine .inr ⟨r,Ht.o.stay Sr.st,Y.o,.inr ⟨vS,vs,?_⟩⟩;rw [<- HCc.o];exact⟨scs_of Sr Ut,T,.inl ⟨rfl,Sr.box⟩⟩
    obtain⟨⟨_,_,_,_,_,_,_,_,f8⟩,_,Fh⟩:=Mc Sr.box
    have g4':w2.cell? (aP (q+4) 0)=some (qP (q+3)):=by have:=C.o.o4; simp [World.cell?,this]
    clear Sr T g4 t1;go_wp2_with fail
    go_roundw
    case rel=>exact⟨2,by go_num,by omega,HTn.o,C.o⟩
    case measure=>simp [intOf]
   ·obtain⟨aD,cD,rfl⟩:=Yt Sr.rD
    have hn0:0<c.2.length:=List.length_pos_iff.2 T;have Jp:=Za Sr.box;have B3:=Za (J9 Sr.rD (show q<=wr.heap.size by omega))
    have Ud:xQ (R = .inr c.2):=by
     rw [HR.o];show Tc (Y3 l)=_;unfold Tc;simp only;rw [if_neg (by rw [Y.o]; simp),<- HCc.o,if_pos (by omega)]
    clear Sr T g4 t1;obtain⟨⟨_,_,_,_,_,_,_,_,f8⟩,_,Fh⟩:=Mc Jp.o;have f8d:w2.drew.cell? (aP (q+3) 8)=some (.slice aD c.2.length cD):=f8
    have g4:w2.cell? (aP (q+4) 0)=some (qP (q+3)):=by have:=C.o.o4; simp [World.cell?,this]
    have g4d:w2.drew.cell? (aP (q+4) 0)=some (qP (q+3)):=g4;obtain⟨⟨z0,z1,z2,z3,z4,z5⟩,A,hzl⟩:=Pc C.o.o1;have z0d:w2.drew.cell? (aP (q+1) 0)=some nP:=z0;have H:w2.drew.frozen? (aP (q+1) 0)=false:=A 0;have zf0:=A 0;have zf1:=A 1;have zf2:=A 2;have zf3:=A 3;have Z:=A 4;have zf5:=A 5
    have hnz:(0:Int)<(c.2.length:Int):=by omega
    clear A;go_wp2_with fail;obtain⟨Wf,F⟩:=xE (P3 w2 (q+1) nP nP nP sP (iP 0) (iP 0))
    have HO:xQ (Wf.heap[q+1]?=some z6):=by rw [F]; exact Cq C.o.o1 _ _ _ _ _ _
    have V:xQ (Z0 (q+1) (fun b=>b=q+1) w2 Wf):=by rw [F]; exact Oa _ _ _ _ _ _ _ _
    have Qv:=Za F;clear F
    apply wA Wf.drew
    ·go_region
     all_goals
      refine⟨rfl,?_⟩;rw [Qv.o]
    ·simp only [Exit.then]
     clear Qv z0 z1 z2 z3 z4 z5 zf0 zf1 zf2 zf3 Z zf5 z0d H;go_wp2_with fail;refine bodyPost_ret (Fp rfl _ rfl (show Wf.drew.heap[q+1]?=some z6 from HO.o) underlying31 (by kernel_rfl) rfl) rfl ?_;rw [Ud.o];refine⟨?_,_,rfl,?_⟩
     ·rw [<- F4.o]
      exact(C.o.bl.trans (V.o.below.mono (by omega))).drew
     ·rw [<- F4.o]
      exact V.o.drew.row B3.o fun b hb e=>by
       obtain⟨c,z⟩:=Jl B3.o hb;rw [e,C.o.o1] at z;injection z with z;injection z with _ z;cases z
  ·have t2:wr.cell? (aP (q+5) 2)=some (fnK 14 q):=by simp [World.cell?,M]
   have Ht:=Za hV;have Tn:=Za I;have Y:=Za Mi;have O:=Za Yn;have HCd:=Za T;have Ut:=hV.lt3;clear M HT hV I Mi Yn T g0 HWw HSw;go_wp2_with fail;refine(o8 (q+6) (q+3) (q+2) _ r wr vS _ _ _ Ht.o Tn.o).mono ?_;rintro e w2 ⟨rfl,vD,J⟩;have C:=Za (HA.o.stay J.st);obtain⟨c,z⟩:=xE (G6 (Y6 (Y3 l)).num (Ai (Pu (Y6 (Y3 l)).num (Y6 (Y3 l)).mods)) 0 (Y6 (Y3 l)).mods []);rw [<- z] at J
   have HCc:=Za z;clear z;by_cases T:c=[]
   ·have Yb:=J.nil T
    subst Yb
    have HTn:xQ (yK q l 3 w2):=by
     refine .inr ⟨r,Ht.o.stay J.st,Y.o,.inr ⟨vS,vs,O.o.stay J.st (by omega),HCd.o,.inr ⟨?_,.inl ⟨rfl,J.box⟩⟩⟩⟩;rw [<- HCc.o];exact T
    obtain⟨⟨_,_,_,_,_,_,_,_,f8⟩,_,Fh⟩:=Mc J.box
    have g4':w2.cell? (aP (q+4) 0)=some (qP (q+3)):=by have:=C.o.o4; simp [World.cell?,this]
    clear J T g4 t2;go_wp2_with fail
    go_roundw
    case rel=>exact⟨3,by go_num,by omega,HTn.o,C.o⟩
    case measure=>simp [intOf]
   ·obtain⟨aD,cD,rfl⟩:=Yt J.rD
    have hn0:0<c.length:=List.length_pos_iff.2 T;have Jp:=Za J.box;have B3:=Za (J9 J.rD (show q<=wr.heap.size by omega))
    have Ud:xQ (R = .inr c):=by
     rw [HR.o];show Tc (Y3 l)=_;unfold Tc;simp only;rw [if_neg (by rw [Y.o]; simp),if_neg (by rw [HCd.o]; simp),<- HCc.o,if_pos (by omega)]
    clear J T g4 t2;obtain⟨⟨_,_,_,_,_,_,_,_,f8⟩,_,Fh⟩:=Mc Jp.o;have f8d:w2.drew.cell? (aP (q+3) 8)=some (.slice aD c.length cD):=f8
    have g4:w2.cell? (aP (q+4) 0)=some (qP (q+3)):=by have:=C.o.o4; simp [World.cell?,this]
    have g4d:w2.drew.cell? (aP (q+4) 0)=some (qP (q+3)):=g4;obtain⟨⟨z0,z1,z2,z3,z4,z5⟩,A,hzl⟩:=Pc C.o.o1;have z0d:w2.drew.cell? (aP (q+1) 0)=some nP:=z0;have H:w2.drew.frozen? (aP (q+1) 0)=false:=A 0;have zf0:=A 0;have zf1:=A 1;have zf2:=A 2;have zf3:=A 3;have Z:=A 4;have zf5:=A 5
    have hnz:(0:Int)<(c.length:Int):=by omega
    clear A;go_wp2_with fail;obtain⟨Wf,F⟩:=xE (P3 w2 (q+1) nP nP nP sP (iP 0) (iP 0))
    have HO:xQ (Wf.heap[q+1]?=some z6):=by rw [F]; exact Cq C.o.o1 _ _ _ _ _ _
    have V:xQ (Z0 (q+1) (fun b=>b=q+1) w2 Wf):=by rw [F]; exact Oa _ _ _ _ _ _ _ _
    have Qv:=Za F;clear F
    apply wA Wf.drew
    ·go_region
     all_goals
      refine⟨rfl,?_⟩;rw [Qv.o]
    ·simp only [Exit.then]
     clear Qv z0 z1 z2 z3 z4 z5 zf0 zf1 zf2 zf3 Z zf5 z0d H;go_wp2_with fail;refine bodyPost_ret (Fp rfl _ rfl (show Wf.drew.heap[q+1]?=some z6 from HO.o) underlying31 (by kernel_rfl) rfl) rfl ?_;rw [Ud.o];refine⟨?_,_,rfl,?_⟩
     ·rw [<- F4.o]
      exact(C.o.bl.trans (V.o.below.mono (by omega))).drew
     ·rw [<- F4.o]
      exact V.o.drew.row B3.o fun b hb e=>by
       obtain⟨c,z⟩:=Jl B3.o hb;rw [e,C.o.o1] at z;injection z with z;injection z with _ z;cases z
  ·have t3:wr.cell? (aP (q+5) 3)=some (fnK 15 q):=by simp [World.cell?,M]
   have Ht:=Za hV;have Tn:=Za I;have Y:=Za Mi;have O:=Za Yn;have HCd:=Za T;have HCy:=Za hcy;have Ut:=hV.lt3;clear M HT hV I Mi Yn T hcy g0 HWw HSw;go_wp2_with fail;refine(main_c (q+6) (q+3) (q+2) _ r wr vS Ht.o Tn.o).mono ?_;rintro e w2 ⟨rfl,hM⟩
   cases N:I3 (Y6 (Y3 l)).num (Y6 (Y3 l)).mods with
   | inl p =>
    obtain⟨m,i⟩:=p;rw [N] at hM;obtain⟨I,Zb⟩:=hM;have C:=Za (HA.o.stay Zb);have HTn:xQ (yK q l 4 w2) := .inr ⟨r,Ht.o.stay Zb,Y.o,.inr ⟨vS,vs,O.o.stay Zb (by omega),HCd.o,.inr ⟨HCy.o,.inr ⟨m,i,rfl,N,I⟩⟩⟩⟩;obtain⟨⟨_,_,_,_,_,_,_,_,f8⟩,_,Fh⟩:=Mc I
    have g4':w2.cell? (aP (q+4) 0)=some (qP (q+3)):=by have:=C.o.o4; simp [World.cell?,this]
    clear I Zb N g4 t3;go_wp2_with fail
    go_roundw
    case rel=>exact⟨4,by go_num,by omega,HTn.o,C.o⟩
    case measure=>simp [intOf]
   | inr d =>
    rw [N] at hM;obtain⟨vD,J⟩:=hM;have C:=Za (HA.o.stay J.st);obtain⟨c,z⟩:=xE ([d])
    have hn0:0<c.length:=by rw [z]; simp
    rw [<- z] at J;obtain⟨aD,cD,rfl⟩:=Yt J.rD;have Jp:=Za J.box;have B3:=Za (J9 J.rD (show q<=wr.heap.size by omega))
    have Ud:xQ (R = .inr c):=by
     rw [HR.o];show Tc (Y3 l)=_;unfold Tc;simp only;rw [if_neg (by rw [Y.o]; simp),if_neg (by rw [HCd.o]; simp),if_neg (by rw [HCy.o]; simp),N,z]
    clear J N z g4 t3;obtain⟨⟨_,_,_,_,_,_,_,_,f8⟩,_,Fh⟩:=Mc Jp.o;have f8d:w2.drew.cell? (aP (q+3) 8)=some (.slice aD c.length cD):=f8
    have g4:w2.cell? (aP (q+4) 0)=some (qP (q+3)):=by have:=C.o.o4; simp [World.cell?,this]
    have g4d:w2.drew.cell? (aP (q+4) 0)=some (qP (q+3)):=g4;obtain⟨⟨z0,z1,z2,z3,z4,z5⟩,A,hzl⟩:=Pc C.o.o1;have z0d:w2.drew.cell? (aP (q+1) 0)=some nP:=z0;have H:w2.drew.frozen? (aP (q+1) 0)=false:=A 0;have zf0:=A 0;have zf1:=A 1;have zf2:=A 2;have zf3:=A 3;have Z:=A 4;have zf5:=A 5
    have hnz:(0:Int)<(c.length:Int):=by omega
    clear A;go_wp2_with fail;obtain⟨Wf,F⟩:=xE (P3 w2 (q+1) nP nP nP sP (iP 0) (iP 0))
    have HO:xQ (Wf.heap[q+1]?=some z6):=by rw [F]; exact Cq C.o.o1 _ _ _ _ _ _
    have V:xQ (Z0 (q+1) (fun b=>b=q+1) w2 Wf):=by rw [F]; exact Oa _ _ _ _ _ _ _ _
    have Qv:=Za F;clear F
    apply wA Wf.drew
    ·go_region
     all_goals
      refine⟨rfl,?_⟩;rw [Qv.o]
    ·simp only [Exit.then]
     clear Qv z0 z1 z2 z3 z4 z5 zf0 zf1 zf2 zf3 Z zf5 z0d H;go_wp2_with fail;refine bodyPost_ret (Fp rfl _ rfl (show Wf.drew.heap[q+1]?=some z6 from HO.o) underlying31 (by kernel_rfl) rfl) rfl ?_;rw [Ud.o];refine⟨?_,_,rfl,?_⟩
     ·rw [<- F4.o]
      exact(C.o.bl.trans (V.o.below.mono (by omega))).drew
     ·rw [<- F4.o]
      exact V.o.drew.row B3.o fun b hb e=>by
       obtain⟨c,z⟩:=Jl B3.o hb;rw [e,C.o.o1] at z;injection z with z;injection z with _ z;cases z
  ·have Ht:=Za hV
   obtain⟨aS,cS,rfl⟩:=Yt Yn.rS;have Tn:=Za I;have O:=Za Yn;obtain⟨⟨x0,x1,x2,x3,x4,x5,_⟩,_,Fh⟩:=Mc I;obtain⟨⟨z0,z1,z2,z3,z4,z5⟩,A,hzl⟩:=Pc HA.o.o1;have zf0:=A 0;have zf1:=A 1;have zf2:=A 2;have zf3:=A 3;have Z:=A 4;have zf5:=A 5;obtain⟨c,z⟩:=xE ((Pk (Y6 (Y3 l)).num (Y6 (Y3 l)).mods 0 (Y6 (Y3 l)).mods [] []).1)
   have Ud:xQ (R = .inl ⟨(Y6 (Y3 l)).names,(Y6 (Y3 l)).mods,c,(m,i)⟩):=by
    rw [HR.o];show Tc (Y3 l)=_;unfold Tc;simp only;rw [if_neg (by rw [Mi]; simp),if_neg (by rw [T]; simp),if_neg (by rw [hcy]; simp),N,z]
   rw [<- z] at O Tn x2;obtain⟨Wf,F⟩:=xE (P3 wr (q+1) (.slice r.aN (Y6 (Y3 l)).names.length r.cN) (.slice r.aM (Y6 (Y3 l)).mods.length r.cM) (.slice aS c.length cS) (.string Uc) (iP m) (iP i))
   have HO:xQ (Wf.heap[q+1]?=some (Kq (.slice r.aN (Y6 (Y3 l)).names.length r.cN) (.slice r.aM (Y6 (Y3 l)).mods.length r.cM) (.slice aS c.length cS) (.string Uc) (iP m) (iP i))):=by rw [F]; exact Cq HA.o.o1 _ _ _ _ _ _
   have V:xQ (Z0 (q+1) (fun b=>b=q+1) wr Wf):=by rw [F]; exact Oa _ _ _ _ _ _ _ _
   have Qv:=Za F;clear M HT hV I Mi Yn T hcy N z F g0 HWw HSw A;go_wp2_with fail;have hw':=Qv.o;unfold P3 at hw';rw [<- hw'];clear hw';refine bodyPost_ret (Fp rfl _ rfl HO.o underlying31 (by kernel_rfl) rfl) rfl ?_;rw [Ud.o]
   have hk:∀ b,q+6<=b->b<wr.heap.size->Wf.heap[b]?=wr.heap[b]?:=fun b hb hl=>V.o.keep b hl (by omega)
   refine⟨?_,r,aS,cS,vs,rfl,?_⟩
   ·rw [<- F4.o]
    exact HA.o.bl.trans (V.o.below.mono (by omega))
   ·rw [<- F4.o]
    refine⟨Ej wQ (L8 wQ Ht.o.rN V.o.size hk) (by omega),Ej Cn (L8 Cn Ht.o.rM V.o.size hk) (by omega),J9 (V.o.row O.o.rS fun b hb e=>?_) (by omega),fun j h1 h2=>J9 (V.o.row (O.o.rE j h1 h2) fun b hb e=>?_) (by omega),Ht.o.good,Ht.o.ml⟩
    ·have:=(O.o.rS.lt b hb).1
     omega
    ·have:=((O.o.rE j h1 h2).lt b hb).1
     omega
def wW (n:Nat) (e:Ending):Prop:=∃ b:Bool,e = .returned (.bool b)/\(b=true->n<=20)
theorem few_c (B:Nat) (a:oA) (cap:Nat) (l:List G1) (w:wD) (j:Kz B w a l) (hl:(l.length:Int)<=9223372036854775807) (M:∀ p ∈ l,p.1.size<=140737488351232/\p.2.size<=140737488351232) :
  Calls prog 5 #[.slice a l.length cap] w fun e w'=>w'=w/\wW l.length e:=by
 have Y:=Za M
 have O:=Za j
 clear M j
 by_cases h20:(20:Int)<(l.length:Int)
 ·go_enter func5,ntmps5
  go_wp2_with fail;go_ret;exact⟨rfl,(⟨false,rfl,fun h=>by cases h⟩:wW l.length _)⟩
 ·go_enter func5,ntmps5
  go_wp2_with fail
  go_loopw [3,4] (fun n i wr=>∃ k N:Nat,k<=l.length/\i=iP k/\n=iP N/\N<=70000/\xQ (wr=w)) (fun _ i _=>l.length - (intOf i).toNat)
  case atStart=>exact⟨0,0,by omega,rfl,rfl,by omega,rfl⟩
  case round =>
   obtain⟨k,N,hk,rfl,rfl,hN,J⟩:=hrel;have C:=J.o;subst C;clear J;by_cases A:k<l.length
   ·have V:(k:Int)<(l.length:Int):=by omega
    rcases O.o with T | ⟨b,o,rfl,hb,H⟩
    ·rw [T] at A; cases A
    obtain⟨F,I⟩:=H k A;have z:=Y.o _ (List.getElem_mem A);obtain⟨s,j⟩:=xE (l[k]);rw [<- j] at F I z;obtain⟨S,X⟩:=s;simp only at F I z
    have Xg:((S.size:Int)<=9223372036854775807):=by omega
    have Xw:((X.size:Int)<=9223372036854775807):=by omega
    clear H j;by_cases h1:(70000:Int) - (N:Int)<(X.size:Int)
    ·go_wp2_with fail
     go_ret;exact⟨rfl,(⟨false,rfl,fun h=>by cases h⟩:wW l.length _)⟩
    ·by_cases h2:(1000:Int)<(S.size:Int)
     ·go_wp2_with fail
      go_ret;exact⟨rfl,(⟨false,rfl,fun h=>by cases h⟩:wW l.length _)⟩
     ·go_wp2_with fail
      go_roundw
      case rel=>exact⟨k+1,N+X.size,by omega,by go_num,by go_num,by omega,True.intro⟩
      case measure=>simp [intOf]; omega
   ·have V:¬ (k:Int)<(l.length:Int):=by omega
    go_wp2_with fail;go_ret;exact⟨rfl,(⟨true,rfl,fun _=>by omega⟩:wW l.length _)⟩
def wX (n:Nat) (d:Dg):Prop:=d.er≠0/\1<=d.li/\1<=d.co/\(0<n->d.m<n)
theorem zdm {n m:Nat} {a b:Bs} {s:L1} (hm:m<n) (h:∀ d ∈ s.ds,wX n d) (A:∀ o ∈ s.mods,Aq o):(∀ d ∈ (Tx m a b s).ds,wX n d)/\∀ o ∈ (Tx m a b s).mods,Aq o:=by
 have one:∀ {er:Int} {li co:Nat},er≠0->1<=li->1<=co->∀ d ∈ s.ds ++ [(⟨m,li,co,er⟩:Dg)],wX n d:=fun C I F d z=>by
  rcases List.mem_append.1 z with z | z
  ·exact h d z
  ·rw [List.mem_singleton] at z
   subst z;exact⟨C,I,F,fun _=>hm⟩
 unfold Tx
 split
 ·exact⟨one (by decide) (xR) (xR),A⟩
 ·split
  ·exact⟨one (by decide) (xR) (xR),A⟩
  ·split
   ·rename_i H
    obtain⟨C,I,F⟩:=qV H;exact⟨one C I F,A⟩
   ·rename_i H
    refine⟨h,fun o j=>?_⟩;rcases List.mem_append.1 j with j | j
    ·exact A o j
    ·rw [List.mem_singleton] at j
     subst j;exact dD H
theorem sT {n:Nat}:∀ (l:List (Bs×Bs)) (m:Nat) (s:L1),m+l.length<=n->(∀ d ∈ s.ds,wX n d)->(∀ o ∈ s.mods,Aq o)->(∀ d ∈ (Q5 m l s).ds,wX n d)/\∀ o ∈ (Q5 m l s).mods,Aq o
 | [],_,_,_,h,hg=>⟨h,hg⟩
 | x :: l,m,s,hm,h,hg=>by
  simp at hm;obtain⟨j,z⟩:=zdm (a:=x.1) (b:=x.2) (by omega:m<n) h hg;exact sT l (m+1) _ (by omega) j z
theorem wI {w:wD} {b e k n c:Nat} {a:oA} {xs:List vL} (h:w.ownsRow b e k (.slice a n c) n xs) (hn:0<n):∃ g,a=some (aP g 0)/\b<=g/\g<w.heap.size/\∀ j,j<n*k->w.cell? (aP g j)=xs[j]?:=by
 have C:=h
 rcases h.2 with⟨_,e⟩ | ⟨g,cap,cur,e,A,z,_⟩
 ·omega
 ·injection e with e1 e2 e3
  subst e1;exact⟨g,rfl,A,xB z,fun j F=>C.cellAt j F⟩
theorem rB {w:wD} (C A j z:bA) (t:TypeId):Kz (w.alloc (.cells #[.string C,.string A,.string j,.string z] t)).heap.size (w.alloc (.cells #[.string C,.string A,.string j,.string z] t)) (some (aP w.heap.size 0)) [(C,A),(j,z)]:=by
 have h:=xL w (.cells #[.string C,.string A,.string j,.string z] t)
 refine .inr ⟨w.heap.size,0,rfl,by rw [xS]; omega,fun i F=>?_⟩
 match i,F with
 | 0,_=>exact⟨by rw [cell_of_row _ _ _ _ _ _ h]; rfl,by rw [cell_of_row _ _ _ _ _ _ h]; rfl⟩
 | 1,_=>exact⟨by rw [cell_of_row _ _ _ _ _ _ h]; rfl,by rw [cell_of_row _ _ _ _ _ _ h]; rfl⟩
abbrev aB:ByteArray:=⟨#[97]⟩
abbrev exA:ByteArray:=⟨#[105,109,112,111,114,116,32,97,58,32,102,59,32,102,110,32,109,97,105,110,40,120,41,32,61,32,102,40,120,41,59]⟩
abbrev exB:ByteArray:=⟨#[101,120,112,111,114,116,32,102,110,32,102,40,120,41,32,61,32,120,59]⟩
abbrev exC:ByteArray:=⟨#[105,109,112,111,114,116,32,97,58,32,102,59,32,102,110,32,109,97,105,110,40,120,41,32,61,32,120,59]⟩
abbrev exD:ByteArray:=⟨#[105,109,112,111,114,116,32,109,97,105,110,58,32,109,97,105,110,59,32,101,120,112,111,114,116,32,102,110,32,102,40,120,41,32,61,32,120,59]⟩
theorem zev:Tc (Y3 [(Uc,exA),(aB,exB)])=Tc qA:=rfl
theorem zjy:Tc (Y3 [(Uc,exC),(aB,exD)])=Tc mT:=rfl
theorem oC (w:wD) (hw:Lx.Words w):Calls prog 4 #[] w fun e w'=>e = .returned (.bool true)/\Below w.heap.size w w':=by
 have HW:=Za hw
 have U0:xQ (∀ W,Lx.Words W->Calls prog 6 #[lP W.heap.size 2 2] (W.alloc (.cells #[.string Uc,.string exA,.string aB,.string exB] 44)) (wZ (W.alloc (.cells #[.string Uc,.string exA,.string aB,.string exB] 44)) (Tc qA))):=fun W h=>by
  have:=nH (some (aP W.heap.size 0)) 2 [(Uc,exA),(aB,exB)] _ (h.below (Zq W _)) (rB Uc exA aB exB 44) (by decide) (by decide);rw [zev] at this;exact this
 have To:xQ (∀ W b,b=W.heap.size->Lx.Words W->Calls prog 6 #[lP b 2 2] (W.alloc (.cells #[.string Uc,.string exC,.string aB,.string exD] 44)) (wZ (W.alloc (.cells #[.string Uc,.string exC,.string aB,.string exD] 44)) (Tc mT))):=fun W b hb h=>by
  subst hb;have:=nH (some (aP W.heap.size 0)) 2 [(Uc,exC),(aB,exD)] _ (h.below (Zq W _)) (rB Uc exC aB exD 44) (by decide) (by decide);rw [zjy] at this;exact this
 clear hw
 go_enter func4,ntmps4
 go_wp2_with fail
 refine(U0.o w HW.o).mono ?_
 intro e w1 N
 rw [zdg] at N
 obtain⟨Zs,r,aS,cS,vs,rfl,hL⟩:=N
 have Ye:=Za (Zz (Zq w _) Zs)
 have HL:=Za hL
 clear Zs hL
 go_wp2_with fail
 have Xq:∀ o,(w1.alloc o).heap.size=w1.heap.size+1:=fun o=>xS _ _
 refine(To.o _ _ (Xq _).symm (HW.o.below (Zz Ye.o (Zq w1 _)))).mono ?_
 intro e w2 N
 rw [zdj] at N
 obtain⟨Z5,vD,rfl,Yu⟩:=N
 have A:=Zz (Zq w1 _) (Zz (Zq _ _) Z5)
 have Xa:=Za (Zz Ye.o A)
 have hP:=((Zz (Zq _ _) Z5).block w1.heap.size (by rw [xS]; omega)).trans (xL w1 _)
 obtain⟨⟨_,c1,c2,c3,c4,c5⟩,_,Ys⟩:=Pc hP
 obtain⟨lo,Ut⟩:=xE ((w.alloc (.cells #[.string Uc,.string exA,.string aB,.string exB] 44)).heap.size)
 have Z:w1.ownsRow lo 42 1 (.slice aS 2 cS) 2 vs:=by rw [Ut]; exact HL.o.rS
 have J:vs.length=2:=Z.1
 have rE:w1.ownsRow lo 29 3 (vs[0]'(by omega)) 2 (Qa ⟨[102],1,0⟩ ++ Qa ⟨[109,97,105,110],0,0⟩):=by rw [Ut]; exact HL.o.rE 0 (by omega) (by decide)
 obtain⟨M,O,rfl⟩:∃ M O,vs=[M,O]:=by
  match vs,J with
  | [M,O],_=>exact⟨M,O,rfl⟩
 obtain⟨Y,rfl,_,hgS,I⟩:=wI Z (by omega)
 have F:w1.ownsRow lo 29 3 M 2 (Qa ⟨[102],1,0⟩ ++ Qa ⟨[109,97,105,110],0,0⟩):=rE
 obtain⟨a0,n0,rfl⟩:=Yt F
 obtain⟨C,rfl,_,H,V⟩:=wI F (by omega)
 have s0:w2.cell? (aP Y 0)=some (lP C 2 n0):=(A.cell (p:=aP Y 0) hgS).trans (I 0 (by omega))
 have e0:w2.cell? (aP C 0)=some (.string ⟨#[102]⟩):=(A.cell (p:=aP C 0) H).trans (V 0 (by omega))
 have e1:w2.cell? (aP C 1)=some (iP 1):=(A.cell (p:=aP C 1) H).trans (V 1 (by omega))
 have e2:w2.cell? (aP C 2)=some (iP 0):=(A.cell (p:=aP C 2) H).trans (V 2 (by omega))
 have j:w2.ownsRow _ 47 4 vD 1 (U3 ⟨1,1,1,12⟩):=Yu
 obtain⟨aD,nD,rfl⟩:=Yt j
 obtain⟨T,rfl,_,hgD,z⟩:=wI j (by omega)
 have d0:w2.cell? (aP T 0)=some (iP 1):=z 0 (by omega)
 have d1:w2.cell? (aP T 1)=some (iP 1):=z 1 (by omega)
 have d2:w2.cell? (aP T 2)=some (iP 1):=z 2 (by omega)
 have d3:w2.cell? (aP T 3)=some (iP 12):=z 3 (by omega)
 have hgS':Y<w2.heap.size:=by have:=A.size; omega
 have hg0':C<w2.heap.size:=by have:=A.size; omega
 clear Yu j Z rE F I V z hP Z5 A HL Ut J
 go_wp2_with fail
 go_ret
 exact⟨rfl,Xa.o.alloc (by have:=Xa.o.size; omega) _⟩
end
section
open Go.RowKit
def vC (num:Wo) (names:List Bs):Prop:=∀ p ∈ num,∃ h:p.2<names.length,names[p.2]=p.1
theorem zdo {m:Nat} {a b:Bs} {s:L1} (h:s.ds=[]->s.names.length=m/\vC s.num s.names) (A:(Tx m a b s).ds=[]):(Tx m a b s).names.length=m+1/\vC (Tx m a b s).num (Tx m a b s).names:=by
 have H:=zdl m a b s A
 obtain⟨z,I⟩:=h H
 revert A
 unfold Tx
 split
 ·intro h; simp at h
 ·split
  ·intro h; simp at h
  ·split
   ·intro h; simp at h
   ·intro _
    refine⟨by simp [z],fun p j=>?_⟩;rcases List.mem_cons.1 j with rfl | j
    ·exact⟨by simp; omega,by simp [<- z]⟩
    ·obtain⟨C,F⟩:=I p j
     refine⟨by simp; omega,?_⟩;show(s.names ++ [a])[p.2]'(by simp; omega)=p.1;rw [List.getElem_append_left C];exact F
theorem sV:∀ (l:List (Bs×Bs)) (m:Nat) (s:L1),(s.ds=[]->s.names.length=m/\vC s.num s.names)->(Q5 m l s).ds=[]->(Q5 m l s).names.length=m+l.length/\vC (Q5 m l s).num (Q5 m l s).names
 | [],_,_,h,hd=>h hd
 | x :: l,m,s,h,hd=>by
  have:=sV l (m+1) (Tx m x.1 x.2 s) (fun j=>zdo h j) hd;simp only [Q5,List.length_cons];rw [show m+(l.length+1)=m+1+l.length by omega];exact this
theorem zgr {l:List (Bs×Bs)} (h:(Y6 l).ds=[]):(Y6 l).names.length=l.length/\vC (Y6 l).num (Y6 l).names:=by
 unfold Y6 at h ⊢
 by_cases j:16<l.length
 ·rw [if_pos j] at h
  cases h
 ·rw [if_neg j] at h ⊢
  have:=sV l 0 L0 (fun _=>⟨rfl,fun _ h=>nomatch h⟩) h;rw [Nat.zero_add] at this;exact this
theorem aR {num:Wo} {mods:List Mo}:∀ (l:List Mo) (m:Nat) (ess:List (List En)) (ds:List Dg),(Pk num mods m l ess ds).1.length=ess.length+l.length
 | [],_,_,_=>rfl
 | o :: l,m,ess,ds=>by
  show(Pk num mods (m+1) l _ _).1.length=_;rw [aR l];simp;omega
theorem zej {o:Mo} {f m li co:Nat} {n:Bs} {s:Sc} (h:(Lb o f m li co n s).2=[]):s.2=[]:=by
 revert h
 unfold Lb
 split
 ·intro h; simp at h
 ·split
  ·intro h; simp at h
  ·split
   ·intro h; simp at h
   ·intro h; exact h
theorem dJ {o:Mo} {f m li co:Nat}:∀ (l:List Bs) (s:Sc),(Pj o f m li co l s).2=[]->s.2=[]
 | [],_,h=>h
 | _ :: l,_,h=>zej (dJ l _ h)
theorem zbs {num:Wo} {mods:List Mo} {m:Nat} {i:Vx} {s:Sc} (h:(J5 num mods m i s).2=[]):s.2=[]/\∃ f,Yp num i.fr=some f:=by
 revert h
 unfold J5
 split
 ·intro h; simp at h
 ·rename_i f j
  intro h;exact⟨dJ _ _ h,f,j⟩
theorem gQ {num:Wo} {mods:List Mo} {m:Nat}:∀ (l:List Vx) (s:Sc),(Ae num mods m l s).2=[]->s.2=[]/\∀ i ∈ l,∃ f,Yp num i.fr=some f
 | [],_,h=>⟨h,fun _ h=>nomatch h⟩
 | i :: l,s,h=>by
  obtain⟨C,H⟩:=gQ l _ h;obtain⟨A,F⟩:=zbs C;refine⟨A,fun j z=>?_⟩;rcases List.mem_cons.1 z with rfl | z
  ·exact F
  ·exact H j z
theorem kP {m:Nat}:∀ (l:List Tz) (i:Nat) (s:Sc),(Qx m i l s).2=[]->s.2=[]
 | [],_,_,h=>h
 | d :: l,i,s,h=>by
  have:=kP l (i+1) _ h
  revert this
  unfold Ay
  split
  ·intro h; simp at h
  ·intro h; exact h
theorem aQ {num:Wo} {mods:List Mo}:∀ (l:List Mo) (m:Nat) (ess:List (List En)) (ds:List Dg),(Pk num mods m l ess ds).2=[]->ds=[]/\∀ o ∈ l,∀ i ∈ o.is,∃ f,Yp num i.fr=some f
 | [],_,_,_,h=>⟨h,fun _ h=>nomatch h⟩
 | o :: l,m,ess,ds,h=>by
  obtain⟨A,F⟩:=aQ l (m+1) _ _ h;obtain⟨z,C⟩:=gQ o.is _ (kP _ _ _ A);refine⟨z,fun p j=>?_⟩;rcases List.mem_cons.1 j with rfl | j
  ·exact C
  ·exact F p j
end
section
open Go.RowKit Go.Maps
def Db (l:List (Bs×Bs)):R1:=if 16<l.length then⟨[],[],[⟨16,1,1,19⟩]⟩else K9 0 l ⟨[],[],[]⟩
def I2 (md:Bs->Option Nat) (mods:List Mo):(Nat×Nat)⊕Dg :=
 match md R9 with
 | none => .inr ⟨0,1,1,14⟩
 | some m=>match K6 (mods.getD m Jh).ds R9 with
  | none => .inr ⟨m,1,1,14⟩
  | some i=>if 0<((mods.getD m Jh).ds.getD i Ed).vs then .inr ⟨m,((mods.getD m Jh).ds.getD i Ed).li,((mods.getD m Jh).ds.getD i Ed).co,14⟩else .inl (m,i)
def I1 (r:R1):Lk⊕List Dg :=
 if r.ds.length≠0 then .inr r.ds else
 if (Fr (V6 r.names) r.mods 0 r.mods [] []).2.length≠0 then .inr (Fr (V6 r.names) r.mods 0 r.mods [] []).2 else
 if (G5 (V6 r.names) r.mods 0 r.mods []).length≠0 then .inr (G5 (V6 r.names) r.mods 0 r.mods [])else
 match I2 (V6 r.names) r.mods with
 | .inr d => .inr [d]
 | .inl m => .inl ⟨r.names,r.mods,(Fr (V6 r.names) r.mods 0 r.mods [] []).1,m⟩
theorem zdr (num:Wo) (mods:List Mo):I2 (Yp num) mods=I3 num mods:=by
 unfold I2 I3
 cases Yp num R9 with
 | none=>rfl
 | some m =>
  simp only [nJ]
  cases K6 (mods.getD m Jh).ds R9 <;> rfl
theorem zdh (l:List (Bs×Bs)):I1 (Db l)=Tc l:=by
 by_cases j:16<l.length
 ·have e:Db l=⟨[],[],[⟨16,1,1,19⟩]⟩:=if_pos j
  have A:Y6 l=⟨[],[],[],[⟨16,1,1,19⟩]⟩:=if_pos j;unfold I1 Tc;rw [e,A];rfl
 ·have e:Db l=K9 0 l ⟨[],[],[]⟩:=if_neg j
  have A:Y6 l=Q5 0 l ⟨[],[],[],[]⟩:=if_neg j;have C:=zaz l;rw [<- e,<- A] at C;unfold I1 Tc;rw [<- C.ds];by_cases z:(Y6 l).ds.length≠0
  ·rw [if_pos z]
   exact(if_pos z).symm
  ·have h:(Y6 l).ds=[]:=List.eq_nil_of_length_eq_zero (by omega)
   obtain⟨M,T,I⟩:=C.ok h
   have N:V6 (Db l).names=Yp (Y6 l).num:=funext fun q=>(I q).symm
   obtain⟨O,h6,H⟩:=pK h;rw [N,<- M,<- T,aV,zdr,if_neg z]
   show _=if (Y6 l).ds.length≠0 then _ else _
   rw [if_neg z];by_cases F:(Pk (Y6 l).num (Y6 l).mods 0 (Y6 l).mods [] []).2.length≠0
   ·rw [if_pos F]
    exact(if_pos F).symm
   ·have J:(Pk (Y6 l).num (Y6 l).mods 0 (Y6 l).mods [] []).2=[]:=List.eq_nil_of_length_eq_zero (by omega)
    have ha:=(aQ _ _ _ _ J).2;rw [kG (by rw [O]; exact H) (by omega) ha _ _ _ ha];rfl
end
end Go.Proofs.YtoppemkjhhlegaaGreatDoor
