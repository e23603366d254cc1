/- Part. -/
import Derived.Test.YtoppemkjhhlegaaGreatDoorPart15
import Derived.Test.YtoppemkjhhlegaaGreatDoorPart17
set_option maxRecDepth 100000
set_option maxHeartbeats 4000000
namespace Go.Proofs.YtoppemkjhhlegaaGreatDoor
open Go.Proofs.Tryz
open Go.RowKit Go.Maps
theorem uM {α:Type} {rep:Nat->wD->List vL->α->Prop} {k lo et n cap:Nat} {w:wD} {a:oA} {cs:List (List vL)} {xs:List α} (C:w.ownsRow lo et k (.slice a n cap) n cs.flatten) (hn:n=xs.length) (hl:cs.length=xs.length) (F:∀ c ∈ cs,c.length=k) (I:∀ i (A:i<cs.length) (h2:i<xs.length),rep lo w cs[i] xs[i]):Tf rep k lo w a xs:=by
 have h:=C
 rcases C.2 with⟨_,e⟩ | ⟨g,cap',cur,e,hg,hh,_⟩
 ·exact .inl (List.length_eq_zero_iff.1 (by omega))
 ·injection e with e _ _
  subst e;refine .inr ⟨g,rfl,hg,⟨cur,et,hh⟩,fun i J=>?_⟩
  have z:i<cs.length:=by omega
  refine⟨cs[i],F _ (List.getElem_mem z),fun j M=>?_,I i z J⟩
  have H:i*k+j<n*k:=by
   have A:(i+1)*k<=n*k:=Nat.mul_le_mul_right k (by omega);rw [Nat.add_mul] at A;omega
  rw [h.cellAt (i*k+j) H,Ij cs F i z j M]
def E2 (_lo:Nat) (_w:wD) (c:List vL) (s:Bs):Prop:=c=[Le s]
def FstS (lo:Nat) (w:wD) (c:List vL) (o:Mo):Prop:=∃ b,c=[.map (some b)]/\lo<=b/\Te w b (Mt o)
theorem wQ:B5 E2 where
 keep:=fun h _ _=>h
 lower:=fun h _=>h
theorem fstS_k:B5 FstS where
 keep:=fun h _ C=>by
  obtain⟨b,e,j,z⟩:=h;exact⟨b,e,j,z.block (C b j z.lt)⟩
 lower:=fun h j=>by
  obtain⟨b,e,A,z⟩:=h;exact⟨b,e,Nat.le_trans j A,z⟩
structure Rw where
 aN:oA
 cN:Nat
 aM:oA
 cM:Nat
 aF:oA
 cF:Nat
structure Vw (lo kb nb:Nat) (w:wD) (L:L1) (r:Rw):Prop where
 num:Te w nb L.num
 rN:Tf E2 1 lo w r.aN L.names
 rM:Tf M4 2 lo w r.aM L.mods
 rF:Tf FstS 1 lo w r.aF L.mods
 good:∀ o ∈ L.mods,Aq o
 vals:∀ p ∈ L.num,p.2<L.mods.length
 ml:L.mods.length<=16
 lt1:nb<kb
 lt2:kb<lo
 lt3:lo<=w.heap.size
section
variable {lo kb nb : Nat} {w w' : wD} {L : L1} {r : Rw}
theorem Vw.stay (h:Vw lo kb nb w L r) (j:Zl kb w w'):Vw lo kb nb w' L r where
 num:=h.num.block (j.below.block nb h.lt1)
 rN:=L8 wQ h.rN j.size fun b A z=>j.keep b (by have:=h.lt2; omega) z
 rM:=L8 Cn h.rM j.size fun b A z=>j.keep b (by have:=h.lt2; omega) z
 rF:=L8 fstS_k h.rF j.size fun b A z=>j.keep b (by have:=h.lt2; omega) z
 good:=h.good
 vals:=h.vals
 ml:=h.ml
 lt1:=h.lt1
 lt2:=h.lt2
 lt3:=Nat.le_trans h.lt3 j.size
theorem nK:∀ {l:Wo} {s:Bs} {i:Nat},Yp l s=some i->∃ p ∈ l,p.2=i
 | [],_,_,h=>by cases h
 | p :: l,s,i,h=>by
  unfold Yp at h
  split at h
  ·injection h with h
   exact⟨p,by simp,h⟩
  ·obtain⟨q,j,e⟩:=nK h
   exact⟨q,by simp [j],e⟩
theorem jR:∀ (l:List Tz) (i:Nat) (a:Wo) (n:Nat),(∀ p ∈ a,p.2<n)->i+l.length<=n->∀ p ∈ Kg i l a,p.2<n
 | [],_,_,_,h,_=>h
 | d :: l,i,a,n,h,hn=>by
  refine jR l (i+1) _ n ?_ (by simp at hn; omega);simp at hn
  split
  ·exact h
  ·intro p j
   rcases List.mem_cons.1 j with rfl | j
   ·show i<n
    omega
   ·exact h p j
theorem jT {o:Mo} {s:Bs} {j:Nat} (h:Yp (Mt o) s=some j):j<o.ds.length:=by
 obtain⟨p,z,e⟩:=nK h
 have:=jR o.ds 0 [] o.ds.length (fun _ h=>nomatch h) (by omega) p z
 omega
theorem Vw.num_lt (h:Vw lo kb nb w L r) {s:Bs} {f:Nat} (z:Yp L.num s=some f):f<L.mods.length:=by
 obtain⟨p,j,e⟩:=nK z
 have:=h.vals p j
 omega
theorem Re {α:Type} {rep:Nat->wD->List vL->α->Prop} {k:Nat} {a:oA} {xs:List α} (h:Tf rep k lo w a xs) {i:Nat} (z:i<xs.length):∃ g,a=some (aP g 0)/\lo<=g/\g<w.heap.size/\∃ c:List vL,c.length=k/\(∀ j,j<k->w.cell? (aP g (i*k+j))=c[j]?)/\rep lo w c xs[i]:=by
 rcases h with h | ⟨g,e,F,A,C⟩
 ·rw [h] at z; cases z
 ·exact⟨g,e,F,Lq A,C i z⟩
theorem Vw.mod (h:Vw lo kb nb w L r) {i:Nat} (z:i<L.mods.length):∃ g x,r.aM=some (aP g 0)/\lo<=g/\g<w.heap.size/\w.cell? (aP g (i*2))=some (.slice x.ia x.il x.ic)/\w.cell? (aP g (i*2+1))=some (.slice x.da x.dl x.dc)/\MoV lo w x L.mods[i]:=by
 obtain⟨g,e,A,F,c,_,j,x,rfl,C⟩:=Re h.rM z
 exact⟨g,x,e,A,F,j 0 (by omega),j 1 (by omega),C⟩
theorem Vw.fst (h:Vw lo kb nb w L r) {i:Nat} (j:i<L.mods.length):∃ g b,r.aF=some (aP g 0)/\lo<=g/\g<w.heap.size/\w.cell? (aP g i)=some (.map (some b))/\lo<=b/\Te w b (Mt L.mods[i]):=by
 obtain⟨g,e,z,H,c,_,F,b,rfl,C,A⟩:=Re h.rF j
 have:=F 0 (by omega)
 rw [Nat.mul_one,Nat.add_zero] at this
 exact⟨g,b,e,z,H,this,C,A⟩
end
abbrev Hf (nb:Nat) (L:L1) (r:Rw) (vS:vL) (c3 c4 c5:vL) (vD:vL):Obj:=lkO (.slice r.aN L.names.length r.cN) (.slice r.aM L.mods.length r.cM) vS c3 c4 c5 (.map (some nb)) (.slice r.aF L.mods.length r.cF) vD
structure Q2 (kb nb:Nat) (L:L1) (r:Rw) (vS:vL) (sb mb slo:Nat) (w0 w:wD) (vD vE:vL) (s:Sc):Prop where
 st:Zl kb w0 w
 box:w.heap[kb]?=some (Hf nb L r vS sP (iP 0) (iP 0) vD)
 rD:w.ownsRow w0.heap.size 47 4 vD s.2.length (s.2.flatMap U3)
 sc:Ju w sb mb slo vE s.1
 lt1:kb<w0.heap.size
 lt2:w0.heap.size<=sb
 lt3:w0.heap.size<=mb
 lt4:sb<slo
 lt5:mb<slo
 lt6:slo<=w.heap.size
 nil:s.2=[]->vD=nP
abbrev S2 (kb sb mb:Nat) (vD vE:vL) (b:Nat):Prop:=b=kb∨vD.ownBlock=some b∨scS sb mb vE b
structure R2 (kb sb mb:Nat) (w:wD) (vD vE:vL) (w':wD) (vD' vE':vL):Prop where
 chg:Z0 kb (S2 kb sb mb vD vE) w w'
 mD:Jt w vD vD'
 mE:Jt w vE vE'
theorem Jt.trans {w w1:wD} {v j z:vL} (h:Jt w v j) (k:Jt w1 j z) (hs:w.heap.size<=w1.heap.size):Jt w v z:=by
 rcases k with e | ⟨q,e,A⟩
 ·rcases h with e' | ⟨q,e',A⟩
  ·exact .inl (e.trans e')
  ·exact .inr ⟨q,e.trans e',A⟩
 ·exact .inr ⟨q,e,by omega⟩
section
variable {kb nb sb mb slo : Nat} {L : L1} {r : Rw} {vS vD vE vD1 vE1 vD2 vE2 : vL} {w0 w w1 w2 : wD} {s : Sc}
theorem R2.refl (kb sb mb:Nat) (w:wD) (vD vE:vL):R2 kb sb mb w vD vE w vD vE:=⟨Z0.refl _ _ _,.inl rfl,.inl rfl⟩
theorem R2.trans (h:R2 kb sb mb w vD vE w1 vD1 vE1) (k:R2 kb sb mb w1 vD1 vE1 w2 vD2 vE2):R2 kb sb mb w vD vE w2 vD2 vE2 where
 chg:=h.chg.trans k.chg fun b hb e=>by
  rcases e with e | e | e | e | e
  ·exact .inl e
  ·exact(h.mD.own e).elim (fun e => .inr (.inl e)) fun e=>by omega
  ·exact .inr (.inr (.inl e))
  ·exact .inr (.inr (.inr (.inl e)))
  ·exact(h.mE.own e).elim (fun e => .inr (.inr (.inr (.inr e)))) fun e=>by omega
 mD:=h.mD.trans k.mD h.chg.size
 mE:=h.mE.trans k.mE h.chg.size
theorem R2.below (j:kb<=w.heap.size) (h:Below w.heap.size w w1):R2 kb sb mb w vD vE w1 vD vE:=⟨Z0.of h j,.inl rfl,.inl rfl⟩
theorem Q2.below (h:Q2 kb nb L r vS sb mb slo w0 w vD vE s) (z:Below w.heap.size w w1):Q2 kb nb L r vS sb mb slo w0 w1 vD vE s:=by
 have j:Z0 0 (fun _=>False) w w1:=Z0.of z (xZ _)
 exact⟨h.st.trans (Zl.of (by have:=h.lt1; have:=h.st.size; omega) z),j.obj h.box id,j.row h.rD fun _ _=>id,h.sc.chg j fun _ e=>e.elim,h.lt1,h.lt2,h.lt3,h.lt4,h.lt5,Nat.le_trans h.lt6 z.size,h.nil⟩
theorem Q2.drew (h:Q2 kb nb L r vS sb mb slo w0 w vD vE s):Q2 kb nb L r vS sb mb slo w0 w.drew vD vE s:=h.below (Below.refl _ w).drew
theorem Q2.alloc (h:Q2 kb nb L r vS sb mb slo w0 w vD vE s) (o:Obj):Q2 kb nb L r vS sb mb slo w0 (w.alloc o) vD vE s:=h.below (Zq w o)
theorem pT {S:Nat->Prop} (h:Zl kb w0 w) (j:Z0 kb S w w1) (A:∀ b,S b->b=kb∨w0.heap.size<=b):Zl kb w0 w1 :=
 ⟨h.below.trans j.below,fun b C z=>(j.keep b (by have:=h.size; omega) fun e=>by rcases A b e with e | e <;> omega).trans (h.keep b C z)⟩
theorem tA (h:Q2 kb nb L r vS sb mb slo w0 w vD vE s) (d:Dg) (C:s.2.length<=1000000000000) :
  Calls prog 23 #[qP kb,iP d.m,iP d.li,iP d.co,iP d.er] w fun e w'=>e = .returned (.tuple #[])/\∃ vD',Q2 kb nb L r vS sb mb slo w0 w' vD' vE (s.1,s.2 ++ [d])/\R2 kb sb mb w vD vE w' vD' vE :=
 (bV kb w0.heap.size s.2.length d _ w _ _ _ _ _ _ _ _ vD h.box h.rD h.lt1 h.st.size C).mono fun e w' ⟨h1,vD',h2,h3,h4,h5⟩=>by
  have z:R2 kb sb mb w vD vE w' vD' vE:=⟨h5.mono fun b _ e=>e.elim .inl fun e => .inr (.inl e),h4,.inl rfl⟩
  have N4:=h.lt1;have Tt:=h.lt2;have Bk:=h.lt3;have Jc:=h.lt4;have Fg:=h.lt5;refine⟨h1,vD',⟨pT h.st h5 fun b e=>e.imp_right fun e=>(h.rD.lt b e).1,h2,?_,h.sc.chg h5 ?_,h.lt1,h.lt2,h.lt3,h.lt4,h.lt5,Nat.le_trans h.lt6 h5.size,fun e=>absurd e (by simp)⟩,z⟩
  ·show w'.ownsRow _ _ _ _ (s.2 ++ [d]).length ((s.2 ++ [d]).flatMap U3)
   rw [List.length_append,List.flatMap_append]
   simpa using h3
  ·intro b e e'
   rcases e with e | e
   ·rcases e' with e' | e' | e'
    ·omega
    ·omega
    ·have:=(h.sc.row.lt b e').1
     omega
   ·rcases e' with e' | e' | e'
    ·obtain⟨c,j⟩:=Jl h.rD e
     rw [e',h.sc.box] at j;injection j with j;injection j with _ j;cases j
    ·obtain⟨c,j⟩:=Jl h.rD e
     obtain⟨x,ck,A⟩:=h.sc.set.obj;rw [e',A] at j;cases j
    ·exact M7 h.rD h.sc.row (by decide) b e e'
theorem add2 (h:Q2 kb nb L r vS sb mb slo w0 w vD vE s) (e:En) (F:e.nm.length<=1000000000000) (H:s.1.length<=100000000000) :
  Calls prog 26 #[qP sb,.agg #[uP e.nm,iP e.m,iP e.d]] w fun x w'=>x = .returned (.bool (!La s.1 e.nm))/\∃ vE',Q2 kb nb L r vS sb mb slo w0 w' vD vE' (if La s.1 e.nm then s.1 else s.1 ++ [e],s.2)/\R2 kb sb mb w vD vE w' vD vE' :=
 (add_c w0.heap.size sb mb slo vE s.1 e w h.sc h.lt2 h.lt3 h.lt4 h.lt5 h.lt6 F H).mono fun x w' ⟨h1,vE',h2,h3,h4⟩=>by
  have N4:=h.lt1;have Tt:=h.lt2;have Bk:=h.lt3;have Jc:=h.lt4;have Fg:=h.lt5
  have A:∀ b,scS sb mb vE b->w0.heap.size<=b:=fun b e=>by
   rcases e with e | e | e
   ·omega
   ·omega
   ·have:=(h.sc.row.lt b e).1
    omega
  have z:Z0 kb (scS sb mb vE) w w':=h4.lower (by omega);refine⟨h1,vE',⟨pT h.st z fun b e => .inr (A b e),h4.obj h.box fun e=>by have:=A _ e; omega,h4.row h.rD ?_,h2,h.lt1,h.lt2,h.lt3,h.lt4,h.lt5,Nat.le_trans h.lt6 h4.size,h.nil⟩,⟨z.mono fun b _ e => .inr (.inr e),.inl rfl,h3⟩⟩;intro b e e';rcases e' with e' | e' | e'
  ·obtain⟨c,j⟩:=Jl h.rD e
   rw [e',h.sc.box] at j;injection j with j;injection j with _ j;cases j
  ·obtain⟨c,j⟩:=Jl h.rD e
   obtain⟨x,ck,C⟩:=h.sc.set.obj;rw [e',C] at j;cases j
  ·exact M7 h.rD h.sc.row (by decide) b e e'
end
abbrev Pi (I:Vx) (na:oA) (nc:Nat):Obj := .cells #[uP I.fr,.slice na I.ns.length nc,iP I.li,iP I.co] 68
theorem dK (o:Mo) (f m li co:Nat) (n:Bs):∀ (l:List Bs) (s:Sc),Pj o f m li co (l ++ [n]) s=Lb o f m li co n (Pj o f m li co l s)
 | [],_=>rfl
 | _ :: l,_=>dK o f m li co n l _
theorem zek (o:Mo) (f m li co:Nat) (n:Bs) (s:Sc):(Lb o f m li co n s).1.length<=s.1.length+1/\(Lb o f m li co n s).2.length<=s.2.length+1:=by
 unfold Lb
 split
 ·refine⟨?_,?_⟩ <;> simp
 ·split
  ·refine⟨?_,?_⟩ <;> simp
  ·split
   ·refine⟨?_,?_⟩ <;> simp
   ·refine⟨?_,?_⟩ <;> simp
theorem qW (o:Mo) (f m li co:Nat):∀ (l:List Bs) (s:Sc),(Pj o f m li co l s).1.length<=s.1.length+l.length/\(Pj o f m li co l s).2.length<=s.2.length+l.length
 | [],_=>⟨xR,xR⟩
 | n :: l,s=>by
  have h1:=qW o f m li co l (Lb o f m li co n s);have h2:=zek o f m li co n s;show(Pj o f m li co l _).1.length<=_/\_;simp only [List.length_cons,Pj];omega
def ScopeP (kb nb:Nat) (L:L1) (r:Rw) (vS:vL) (sb mb slo:Nat) (w0 w:wD) (vD vE:vL) (s:Sc) (e:Ending) (w':wD):Prop:=e = .returned (.tuple #[])/\∃ vD' vE',Q2 kb nb L r vS sb mb slo w0 w' vD' vE' s/\R2 kb sb mb w vD vE w' vD' vE'
theorem Ob {kb nb sb mb slo:Nat} {L:L1} {r:Rw} {vS vD vE:vL} {w0 W:wD} {s:Sc} (h:Q2 kb nb L r vS sb mb slo w0 W vD vE s):(W.cell? (aP kb 1)=some (.slice r.aM L.mods.length r.cM)/\W.cell? (aP kb 6)=some (.map (some nb))/\W.cell? (aP kb 7)=some (.slice r.aF L.mods.length r.cF))/\kb<W.heap.size:=by
 obtain⟨⟨p0,A,p2,p3,p4,p5,z,j,p8⟩,hf,C⟩:=Mc h.box
 exact⟨⟨A,z,j⟩,C⟩
theorem sR {kb nb sb mb slo b:Nat} {L:L1} {r:Rw} {vS vD vE:vL} {w0 W:wD} {s:Sc} (h:Q2 kb nb L r vS sb mb slo w0 W vD vE s) (hb:W.heap.size<=b):¬ S2 kb sb mb vD vE b:=by
 have h1:=(Ob h).2
 have h2:=h.lt4
 have h3:=h.lt5
 have h4:=h.lt6
 rintro(e | e | e | e | e)
 ·omega
 ·have:=(h.rD.lt b e).2
  omega
 ·omega
 ·omega
 ·have:=(h.sc.row.lt b e).2
  omega
theorem Qh {kb b o:Nat} {w0 W:wD} (h:Zl kb w0 W) (z:kb<b) (j:b<w0.heap.size):W.cell? (aP b o)=w0.cell? (aP b o):=World.cell?_of_block (h.keep b z j)
theorem zib (lo kb nb m:Nat) (L:L1) (r:Rw) (vS:vL) (sb mb slo:Nat) (w0 w:wD) (vD vE:vL) (s:Sc) (I:Vx) (na:oA) (nc nlo:Nat) (hV:Vw lo kb nb w0 L r) (hQ:Q2 kb nb L r vS sb mb slo w0 w vD vE s) (hI:mL I) (Yb:I.ns.length<=8193) (hnf:Bb w0 nlo na I.ns) (hnlo:kb<nlo)
  (N5:s.1.length<=10000000000) (Kl:s.2.length<=10000000000) :
  Calls prog 25 #[qP kb,qP sb,iP m,.agg #[uP I.fr,.slice na I.ns.length nc,iP I.li,iP I.co]] w (ScopeP kb nb L r vS sb mb slo w0 w vD vE (J5 L.num L.mods m I s)):=by
 have HV:=Za hV
 have F3:=Za (hQ.alloc (Pi I na nc))
 have HI:=Za hI
 have HNF:=Za hnf
 have hkw0:=hQ.lt1
 have Yl:xQ (R2 kb sb mb w vD vE (w.alloc (Pi I na nc)) vD vE):=R2.below (by have:=(Ob hQ).2; omega) (Zq w _)
 have hS:(⟨I.fr.toArray⟩:bA).size<=maxLen:=by have:=hI.1; simp [ByteArray.size]; unfold maxLen; omega
 have hib:(w.alloc (Pi I na nc)).heap[w.heap.size]?=some (Pi I na nc):=xL _ _
 have HIB:=Za hib
 have Y:=sR hQ (xR)
 obtain⟨R,hR⟩:=xE (J5 L.num L.mods m I s)
 rw [<- hR]
 unfold J5 at hR
 have HR:=Za hR
 clear hR hV hQ hI hnf
 go_enter func25,ntmps25
 go_wp2_with fail
 have F:=Za F3.o.drew
 obtain⟨⟨p1,p6,p7⟩,hkb0⟩:=Ob F.o
 obtain⟨⟨i0,i1,i2,i3⟩,_,Um⟩:=Yh (show(w.alloc (Pi I na nc)).drew.heap[w.heap.size]?=some (Pi I na nc) from HIB.o)
 have HNum:xQ (∀ W,Zl kb w0 W->Te W nb L.num):=fun W h=>(HV.o.stay h).num
 have hl:=nY (HNum.o _ F.o.st) ⟨I.fr.toArray⟩ hS
 rw [show(⟨I.fr.toArray⟩:bA).data.toList=I.fr by simp] at hl
 cases hk:Yp L.num I.fr with
 | none =>
  rw [hk] at HR hl
  apply xY (w.alloc (Pi I na nc)).drew
  ·go_region
   all_goals exact⟨rfl,rfl⟩
  ·clear hl hk
   go_wp2_with fail;refine(tA F.o ⟨m,I.li,I.co,11⟩ (by omega)).mono ?_;rintro e w2 ⟨rfl,vD',C,A⟩;have O:=Za C;have J:=Za A;clear C A;go_wp2_with fail;refine bodyPost_ret (results_none rfl _ _ _) rfl ⟨rfl,vD',vE,?_,(Yl.o.trans (R2.below (by have:=(Ob F3.o).2; omega) (Below.refl _ _).drew)).trans J.o⟩;rw [HR.o];exact O.o
 | some f =>
  rw [hk] at HR hl;have hfl:=HV.o.num_lt hk
  apply xY (w.alloc (Pi I na nc)).drew
  ·go_region
   all_goals exact⟨rfl,rfl⟩
  ·clear hl hk
   go_wp2_with fail;clear p1 p6 p7
   have Nq:L.mods.getD f Jh=L.mods[f]:=by rw [List.getD_eq_getElem?_getD,List.getElem?_eq_getElem hfl,Option.getD_some]
   obtain⟨o,ho⟩:=xE (L.mods[f]);obtain⟨gF,z,haF,hgF1,hgF2,hcF,hfb1,H⟩:=HV.o.fst hfl;obtain⟨gM,x,G9,hgM1,A2,Fc,J0,Sq⟩:=HV.o.mod hfl;rw [<- ho] at H Sq Nq
   have HR':xQ (R=Pj o f m I.li I.co I.ns s):=by rw [HR.o,<- Nq]; exact rfl
   have HnF:=Za H;have HMo:=Za Sq;have hvl:=HV.o.lt2;have hfbl:=H.lt
   have HCs:xQ (∀ W,Zl kb w0 W->W.cell? (aP gF f)=some (.map (some z))/\W.cell? (aP gM (f*2+1))=some (.slice x.da x.dl x.dc)/\Te W z (Mt o)):=fun W h=>⟨(Qh h (by omega) hgF2).trans hcF,(Qh h (by omega) A2).trans J0,H.block (h.keep z (by omega) hfbl)⟩
   have Ye:xQ (∀ W vD' vE',R2 kb sb mb (w.alloc (Pi I na nc)).drew vD vE W vD' vE'->W.heap[w.heap.size]?=some (Pi I na nc)):=fun W vD' vE' h=>h.chg.obj (show(w.alloc (Pi I na nc)).drew.heap[w.heap.size]?=some (Pi I na nc) from HIB.o) Y
   have hz:((I.ns.length:Int)<=9223372036854775807):=by omega
   have hzm:((L.mods.length:Int)<=9223372036854775807):=by have:=HV.o.ml; omega
   have hfl':(f:Int)<(L.mods.length:Int):=by omega
   have HRd:xQ (R2 kb sb mb (w.alloc (Pi I na nc)) vD vE (w.alloc (Pi I na nc)).drew vD vE):=R2.below (by have:=(Ob F3.o).2; omega) (Below.refl _ _).drew;clear Nq ho H Sq hcF Fc J0 Y HR hib HIB;generalize (w.alloc (Pi I na nc)).drew=W1 at F Ye HRd i0 i1 i2 i3 ⊢
   go_loopw [36] (fun i wr=>∃ (k:Nat) (vD' vE':vL),k<=I.ns.length/\i=iP k/\xQ (Q2 kb nb L r vS sb mb slo w0 wr vD' vE' (Pj o f m I.li I.co (I.ns.take k) s))/\xQ (R2 kb sb mb W1 vD vE wr vD' vE')) (fun i _=>I.ns.length - (intOf i).toNat)
   case atStart=>exact⟨0,vD,vE,by omega,rfl,F.o,R2.refl _ _ _ _ _ _⟩
   case round =>
    obtain⟨k,vD',vE',hk,rfl,HQ,V8⟩:=hrel;by_cases Z8:k<I.ns.length
    ·have Un:(k:Int)<(I.ns.length:Int):=by omega
     rcases HNF.o with he | ⟨b,ob,hna,Zs,Z5,hc⟩
     ·rw [he] at Z8; cases Z8
     subst hna;have n0:wr.cell? (aP b (ob+k))=some (.string ⟨I.ns[k].toArray⟩):=(Qh HQ.o.st (by omega) Z5).trans (hc k Z8);have hNl:=HI.o.2.1 I.ns[k] (List.getElem_mem Z8);have Zb:=dK o f m I.li I.co I.ns[k] (I.ns.take k) s;rw [List.take_append_getElem Z8] at Zb;obtain⟨N,hN⟩:=xE (I.ns[k]);rw [<- hN] at n0 hNl Zb;have Xc:=Za Zb;have Jd:=qW o f m I.li I.co (I.ns.take k) s;rw [List.length_take] at Jd
     obtain⟨s',U7⟩:=xE (Pj o f m I.li I.co (I.ns.take k) s);rw [<- U7] at HQ Xc Jd;have Ui:=Za Jd;obtain⟨⟨p1,p6,p7⟩,hkl2⟩:=Ob HQ.o;rw [G9] at p1;rw [haF] at p7;obtain⟨cF,cM1,T⟩:=HCs.o wr HQ.o.st;have Na:=Za T;obtain⟨⟨i0,i1,i2,i3⟩,_,Um⟩:=Yh (Ye.o wr vD' vE' V8.o)
     have Z:(⟨N.toArray⟩:bA).size<=maxLen:=by simp [ByteArray.size]; unfold maxLen; omega
     clear hc Zb U7 hN Jd T
     cases Np:Yp (Mt o) N with
     | none =>
      have HL:xQ (Yp (Mt o) (⟨N.toArray⟩:bA).data.toList=none):=by show _=_; simpa using Np
      have V:xQ (Pj o f m I.li I.co (I.ns.take (k+1)) s=(s'.1,s'.2 ++ [⟨m,I.li,I.co,12⟩])):=by show _=_; rw [Xc.o]; unfold Lb; rw [Np]
      clear Np
      go_wp2_with(first
       | (at_lookup; refine Ao rfl _ _ rfl z (Mt o) rfl Na.o ⟨N.toArray⟩ rfl Z none HL.o ?_)
       | fail)
      refine(tA HQ.o ⟨m,I.li,I.co,12⟩ (by have:=Ui.o.2; omega)).mono ?_;rintro e w2 ⟨rfl,vD2,C,A⟩;have O:=Za C;have J:=Za A;clear C A;go_wp2_with fail
      go_roundw
      case rel=>exact⟨k+1,vD2,vE',by omega,by go_num,by rw [V.o]; exact O.o,V8.o.trans J.o⟩
      case measure=>simp [intOf]; omega
     | some j =>
      have HL:xQ (Yp (Mt o) (⟨N.toArray⟩:bA).data.toList=some j):=by show _=_; simpa using Np
      have Qe:=jT Np;obtain⟨_,Ws,_,hdl2,_,Xv,_⟩:=HMo.o;obtain⟨gd,hda,hgd1,Bi,c,_,Xk,xd,hxd,_⟩:=Re Xv Qe;subst hxd
      have M:(o.ds.getD j Ed).ex=o.ds[j].ex:=by rw [List.getD_eq_getElem?_getD,List.getElem?_eq_getElem Qe,Option.getD_some]
      have d1:wr.cell? (aP gd (j*15+1))=some (.bool o.ds[j].ex):=(Qh HQ.o.st (by omega) Bi).trans (Xk 1 (by omega));rw [hda,Ws] at cM1
      have yU:(j:Int)<(o.ds.length:Int):=by omega
      have hdz:((o.ds.length:Int)<=9223372036854775807):=by omega
      cases hxe:o.ds[j].ex with
      | false =>
       rw [hxe] at d1 M
       have V:xQ (Pj o f m I.li I.co (I.ns.take (k+1)) s=(s'.1,s'.2 ++ [⟨m,I.li,I.co,12⟩])):=by show _=_; rw [Xc.o]; unfold Lb; rw [Np]; simp only [M]; rfl
       clear Np Xk Xv hxe
       go_wp2_with(first
        | (at_lookup; refine Ao rfl _ _ rfl z (Mt o) rfl Na.o ⟨N.toArray⟩ rfl Z (some j) HL.o ?_)
        | fail)
       refine(tA HQ.o ⟨m,I.li,I.co,12⟩ (by have:=Ui.o.2; omega)).mono ?_;rintro e w2 ⟨rfl,vD2,C,A⟩;have O:=Za C;have J:=Za A;clear C A;go_wp2_with fail
       go_roundw
       case rel=>exact⟨k+1,vD2,vE',by omega,by go_num,by rw [V.o]; exact O.o,V8.o.trans J.o⟩
       case measure=>simp [intOf]; omega
      | true =>
       rw [hxe] at d1 M
       have V:xQ (Pj o f m I.li I.co (I.ns.take (k+1)) s=if La s'.1 N then(s'.1,s'.2 ++ [⟨m,I.li,I.co,8⟩])else(s'.1 ++ [⟨N,f,j⟩],s'.2)):=by show _=_; rw [Xc.o]; unfold Lb; rw [Np]; simp only [M]; rfl
       clear Np Xk Xv hxe
       go_wp2_with(first
        | (at_lookup; refine Ao rfl _ _ rfl z (Mt o) rfl Na.o ⟨N.toArray⟩ rfl Z (some j) HL.o ?_)
        | fail)
       refine(add2 HQ.o ⟨N,f,j⟩ (by show N.length<=_; omega) (by have:=Ui.o.1; omega)).mono ?_;rintro e w2 ⟨rfl,vE2,C,A⟩
       cases U6:La s'.1 N with
       | true =>
        rw [U6] at V
        have O:xQ (Q2 kb nb L r vS sb mb slo w0 w2 vD' vE2 s'):=by have h:=C; simp only [U6,if_true] at h; exact h
        have J:=Za A;clear C A U6 p1 p6 p7 cF cM1 d1 n0 i0 i1 i2 i3;obtain⟨⟨i0,i1,i2,i3⟩,_,Um⟩:=Yh (Ye.o w2 vD' vE2 (V8.o.trans J.o));go_wp2_with fail;refine(tA O.o ⟨m,I.li,I.co,8⟩ (by have:=Ui.o.2; omega)).mono ?_;rintro e w3 ⟨rfl,vD2,h4,h5⟩;have H4:=Za h4;have H5:=Za h5;clear h4 h5;go_wp2_with fail
        go_roundw
        case rel=>exact⟨k+1,vD2,vE2,by omega,by go_num,by rw [V.o]; exact H4.o,(V8.o.trans J.o).trans H5.o⟩
        case measure=>simp [intOf]; omega
       | false =>
        rw [U6] at V
        have O:xQ (Q2 kb nb L r vS sb mb slo w0 w2 vD' vE2 (s'.1 ++ [⟨N,f,j⟩],s'.2)):=by have h:=C; simp only [U6] at h; exact h
        have J:=Za A;clear C A U6;go_wp2_with fail
        go_roundw
        case rel=>exact⟨k+1,vD',vE2,by omega,by go_num,by rw [V.o]; exact O.o,V8.o.trans J.o⟩
        case measure=>simp [intOf]; omega
    ·have Un:¬ (k:Int)<(I.ns.length:Int):=by omega
     have e:I.ns.take k=I.ns:=List.take_of_length_le (by omega);rw [e] at HQ;go_wp2_with fail;refine bodyPost_end (results_none rfl _ _ _) rfl ⟨rfl,vD',vE',?_,(Yl.o.trans HRd.o).trans V8.o⟩;rw [HR'.o];exact HQ.o
theorem zbt (num:Wo) (mods:List Mo) (m:Nat) (i:Vx) (s:Sc) (h:i.ns.length<=8193):(J5 num mods m i s).1.length<=s.1.length+8193/\(J5 num mods m i s).2.length<=s.2.length+8193:=by
 unfold J5
 split
 ·refine⟨?_,?_⟩ <;> simp
 ·rename_i f _
  have:=qW (mods.getD f Jh) f m i.li i.co i.ns s;omega
theorem gR (num:Wo) (mods:List Mo) (m:Nat) (i:Vx):∀ (l:List Vx) (s:Sc),Ae num mods m (l ++ [i]) s=J5 num mods m i (Ae num mods m l s)
 | [],_=>rfl
 | _ :: l,_=>gR num mods m i l _
theorem kQ (m:Nat) (d:Tz):∀ (l:List Tz) (i:Nat) (s:Sc),Qx m i (l ++ [d]) s=Ay m (i+l.length) d (Qx m i l s)
 | [],_,_=>rfl
 | x :: l,i,s=>by
  show Qx m (i+1) (l ++ [d]) _=_;rw [kQ m d l];simp only [Qx,List.length_cons];rw [show i+1+l.length=i+(l.length+1) by omega]
theorem zaa (m i:Nat) (d:Tz) (s:Sc):(Ay m i d s).1.length<=s.1.length+1/\(Ay m i d s).2.length<=s.2.length+1:=by
 unfold Ay
 split
 ·refine⟨?_,?_⟩ <;> simp
 ·refine⟨?_,?_⟩ <;> simp
theorem aT (num:Wo) (mods:List Mo) (o:Mo):∀ (l:List Mo) (m:Nat) (ess:List (List En)) (ds:List Dg),Pk num mods m (l ++ [o]) ess ds=((Pk num mods m l ess ds).1 ++ [(zU num mods (m+l.length) o (Pk num mods m l ess ds).2).1],(zU num mods (m+l.length) o (Pk num mods m l ess ds).2).2)
 | [],_,_,_=>rfl
 | x :: l,m,ess,ds=>by
  show Pk num mods (m+1) (l ++ [o]) _ _=_;rw [aT num mods o l];simp only [Pk,List.length_cons];rw [show m+1+l.length=m+(l.length+1) by omega]
theorem onceQ3 {P:Program} {c:Code} {Q:Exit->Act->wD->Prop} {a:Act} {w:wD} (F:oA->Nat->wD->Prop) (G:oA->Nat->wD->wD) {A:oA->Nat->wD->Act}
  (j:Code.wp P c (Exit.then (fun a' w'=>∃ p n y,F p n y/\a'=A p n y/\w'=G p n y) Q) a w) (z:∀ p n y,F p n y->Q .normal (A p n y) (G p n y)):Code.wp P c Q a w :=
 Code.wp_mono (fun e a' w' h=>by
  cases e with
  | normal=>obtain⟨p,n,y,C,rfl,rfl⟩:=h; exact z p n y C
  | _=>exact h) j
theorem wA {P:Program} {c:Code} {Q:Exit->Act->wD->Prop} {a:Act} {w:wD} (W:wD) {A:Act} (j:Code.wp P c (Exit.then (fun a' w'=>a'=A/\w'=W) Q) a w) (z:Q .normal A W):Code.wp P c Q a w :=
 Code.wp_mono (fun e a' w' h=>by
  cases e with
  | normal=>obtain⟨rfl,rfl⟩:=h; exact z
  | _=>exact h) j
theorem gU:(prog.info? 42).map (fun i=>(i.zero,i.size,i.bytes))=some (some nP,1,24):=by kernel_rfl
theorem J9 {w:wD} {b b' e k n:Nat} {v:vL} {xs:List vL} (h:w.ownsRow b e k v n xs) (A:b'<=b):w.ownsRow b' e k v n xs:=by
 refine⟨h.1,?_⟩
 rcases h.2 with C | ⟨g,cap,j,e,z,r⟩
 ·exact .inl C
 ·exact .inr ⟨g,cap,j,e,Nat.le_trans A z,r⟩
structure Q3 (kb nb:Nat) (L:L1) (r:Rw) (w0 w:wD) (vS vD:vL) (vs:List vL) (ess:List (List En)) (ds:List Dg):Prop where
 st:Zl kb w0 w
 box:w.heap[kb]?=some (Hf nb L r vS sP (iP 0) (iP 0) vD)
 rD:w.ownsRow w0.heap.size 47 4 vD ds.length (ds.flatMap U3)
 rS:w.ownsRow w0.heap.size 42 1 vS ess.length vs
 rE:∀ i (h1:i<vs.length) (h2:i<ess.length),w.ownsRow w0.heap.size 29 3 vs[i] ess[i].length (ess[i].flatMap Qa)
 lt1:kb<w0.heap.size
 nil:ds=[]->vD=nP
section
variable {kb nb : Nat} {L : L1} {r : Rw} {w0 w w1 : wD} {vS vD vS' : vL} {vs : List vL} {ess : List (List En)} {ds : List Dg}
theorem Q3.vl (h:Q3 kb nb L r w0 w vS vD vs ess ds):vs.length=ess.length:=by have:=h.rS.1; omega
theorem Q3.below (h:Q3 kb nb L r w0 w vS vD vs ess ds) (z:Below w.heap.size w w1):Q3 kb nb L r w0 w1 vS vD vs ess ds:=by
 have j:Z0 0 (fun _=>False) w w1:=Z0.of z (xZ _)
 exact⟨h.st.trans (Zl.of (by have:=h.lt1; have:=h.st.size; omega) z),j.obj h.box id,j.row h.rD fun _ _=>id,j.row h.rS fun _ _=>id,fun i A C=>j.row (h.rE i A C) fun _ _=>id,h.lt1,h.nil⟩
theorem Q3.open (h:Q3 kb nb L r w0 w vS vD vs ess ds) (y:Obj):Q2 kb nb L r vS (w.heap.size+2) (w.heap.size+1) (w.heap.size+3) w0 (((w.alloc y).alloc (.map #[] 0)).alloc (.cells #[nP,.map (some (w.heap.size+1))] 76)) vD nP ([],ds):=by
 have A:(w.alloc y).heap.size=w.heap.size+1:=xS _ _
 have j:((w.alloc y).alloc (.map #[] 0)).heap.size=w.heap.size+2:=by rw [xS,A]
 have z:=h.below (Zz (Zz (Zq w y) (Zq _ (.map #[] 0))) (Zq _ (.cells #[nP,.map (some (w.heap.size+1))] 76)))
 have hw:=h.st.size
 refine⟨z.st,z.box,z.rD,⟨?_,World.ownsRow_nil _ _ _ _,?_⟩,h.lt1,by omega,by omega,by omega,by omega,?_,h.nil⟩
 ·rw [<- j]; exact xL _ _
 ·have:=zig (w.alloc y)
  rw [A] at this;exact this.block (xA (by rw [j]; omega))
 ·rw [xS,j]; omega
theorem Q3.over (h:Q3 kb nb L r w0 w vS vD vs ess ds) {sb mb slo:Nat} {F w1:wD} {vD' vE':vL} {s:Sc} (H:Below w.heap.size w F) (Wx:w.heap.size<=sb) (Bm:w.heap.size<=mb) (A:Q2 kb nb L r vS sb mb slo w0 w1 vD' vE' s) (J:R2 kb sb mb F vD nP w1 vD' vE'):Q3 kb nb L r w0 w1 vS vD' vs ess s.2:=by
 have M:=h.below H
 have j:∀ {et k n:Nat} {v:vL} {C:List vL},w.ownsRow w0.heap.size et k v n C->et≠47->w1.ownsRow w0.heap.size et k v n C:=fun {et k n v C} ho Z1=>by
  have z:F.ownsRow w0.heap.size et k v n C:=(Z0.of (B:=0) (S:=fun _=>False) H (xZ _)).row ho fun _ _=>id
  refine J.chg.row z fun q hv e=>?_
  have Py:=ho.lt q hv;have hk:=h.lt1;rcases e with e | e | e | e | e
  ·omega
  ·exact M7 z M.rD Z1 q hv e
  ·omega
  ·omega
  ·cases e
 exact⟨A.st,A.box,A.rD,j h.rS (by decide),fun i I N=>j (h.rE i I N) (by decide),h.lt1,A.nil⟩
theorem Q3.push (h:Q3 kb nb L r w0 w vS vD vs ess ds) {es:List En} {vE:vL} {z:wD} {Z:Obj} (Y:w.ownsRow w0.heap.size 29 3 vE es.length (es.flatMap Qa)) (O:z.ownsRow w0.heap.size 42 1 vS' (ess.length+1) (vs ++ [vE])) (V:(w.alloc Z).grownBy z vS.ownBlock):Q3 kb nb L r w0 (z.setCell (aP kb 2) vS') vS' vD (vs ++ [vE]) (ess ++ [es]) ds:=by
 obtain⟨J,H⟩:=Jy 2 vS' h.box h.rS h.lt1 (by have:=h.st.size; omega) V
 have j:∀ {et k n:Nat} {v:vL} {A:List vL},w.ownsRow w0.heap.size et k v n A->et≠42->(z.setCell (aP kb 2) vS').ownsRow w0.heap.size et k v n A:=fun {et k n v A} ho' Z1=>by
  refine H.row ho' fun q hv e=>?_
  have Py:=ho'.lt q hv;have hk:=h.lt1;rcases e with e | e
  ·omega
  ·exact M7 ho' h.rS Z1 q hv e
 refine⟨pT h.st H fun b e=>e.imp_right fun e=>(h.rS.lt b e).1,by simpa using J,j h.rD (by decide),?_,fun i M i2=>?_,h.lt1,h.nil⟩
 ·rw [List.length_append]
  exact ownsRow_setCell_below O (a:=aP kb 2) h.lt1 _
 ·by_cases C:i<vs.length
  ·have F:i<ess.length:=by have:=h.vl; omega
   simp only [List.getElem_append_left C,List.getElem_append_left F];exact j (h.rE i C F) (by decide)
  ·have e1:i=vs.length:=by simp at M; omega
   have N:i=ess.length:=by have:=h.vl; omega
   have T:(vs ++ [vE])[i]=vE:=by subst e1; simp
   have I:(ess ++ [es])[i]=es:=by subst N; simp
   rw [T,I];exact j Y (by decide)
end
end Go.Proofs.YtoppemkjhhlegaaGreatDoor
