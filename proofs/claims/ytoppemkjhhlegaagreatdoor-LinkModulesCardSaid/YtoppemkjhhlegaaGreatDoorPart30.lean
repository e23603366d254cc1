/- Part. -/
import Derived.Test.YtoppemkjhhlegaaGreatDoorPart27
import Derived.Test.YtoppemkjhhlegaaGreatDoorPart29
set_option maxRecDepth 100000
set_option maxHeartbeats 4000000
namespace Go.Proofs.YtoppemkjhhlegaaGreatDoor
open Go.Proofs.Tryz
open Go.RowKit
section
attribute [local go_sem ↓] Go.wp_at_zero Go.wp_at_succ
def RMd (pb tb cap:Nat) (ts:List Tok) (w:wD) (R:Pr (List Ty×List Ty)) (e:Ending) (w':wD):Prop :=
 Zl pb w w'/\Z2 w' pb tb cap ts 0 (Zf R)/\∃ x:MV,e = .returned x.val/\∀ D b,R = .inl (D,b)->Ul w.heap.size w' x D
theorem zks {ts:List Tok} {K:Nat->Pr Ty} {f a c:Nat} {vs:List (bS×Ty)} (h:Mp ts K f a = .inl (vs,c)):vs.length<=f:=by
 unfold Mp at h
 by_cases z:Zg ts a [91]=true
 ·rw [if_pos z] at h
  obtain⟨l,b,A,C⟩:=Ni h;obtain⟨_,b2,_,j⟩:=Ni C;injection j with j;injection j with j _;rw [<- j];exact Cm _ A
 ·rw [if_neg z] at h
  injection h with h;injection h with h _;rw [<- h];exact xZ _
theorem RX.putN {pb tb cap d db:Nat} {ts:List Tok} {w0 w:wD} {S:Yd} {bx:List (Nat×Obj)} {nm C:bA} {F:Bool} {vs tys:vL} {y:NV} {li co:Nat} (h:RX pb tb cap ts w0 w d S ((db,dO nm F vs C tys y li co) :: bx)) (j:∀ p ∈ bx,p.1≠db) (x:NV):RX pb tb cap ts w0 (pC w db x) d S ((db,dO nm F vs C tys x li co) :: bx):=by
 have z:=(((((((h.setB j 5 (iP x.k)).setB j 6 (.string x.tx)).setB j 7 (iP x.N)).setB j 8 (iP x.li)).setB j 9 (iP x.co)).setB j 10 (.slice x.ta x.tl x.tc)).setB j 11 (.slice x.na x.nl x.nc)).setB j 12 (.slice x.ka x.kl x.kc)
 refine⟨z.st,z.at_,z.hp,fun p A=>?_⟩
 rcases List.mem_cons.1 A with rfl | A
 ·have:=z.has (db,_) xM
  simpa only [List.setIfInBounds_toArray,List.set_cons_zero,List.set_cons_succ] using this
 ·exact z.has p (xW _ A)
theorem zhn {B:Nat} {o:Option Nat} {wx:wD} {a:oA} {n cap:Nat} {cs:List (List vL)} {xs:List Ty} (h:Yq Qm B 94 4 o wx (.slice a n cap) cs (xs.map some)):∃ m,Qk wx B m a xs:=by
 obtain⟨a',cap',m,e,_,hk⟩:=Ek (wJ h)
 injection e with e _ _
 exact⟨m,e ▸ hk⟩
theorem fn_sta (ts:List Tok) (b:Nat):(if Y2 ts (.inl b) [101,120,112,111,114,116] then Nr (.inl b)else .inl b)=(.inl (Ca ts b):Yd):=by
 show(if Zg ts b [101,120,112,111,114,116]=true then Sum.inl (b+1)else Sum.inl b)=(Sum.inl (if Zg ts b [101,120,112,111,114,116]=true then b+1 else b):Yd)
 cases Zg ts b [101,120,112,111,114,116] <;> rfl
theorem retM {j:Func} {p:Tmp} {Q:Ending->wD->Prop} {a:Act} {W:wD} {rb:Nat} {x:MV} (h:j.results=#[.cell p 40]) (z:a.tmps.getD p undef=qP rb) (A:W.heap[rb]?=some x.obj) (F:a.defers=[]) (C:Q (.returned x.val) W):bodyPost prog j Q .ret a W :=
 bodyPost_ret (results_cell_row h _ _ rb 40 _ (0,0) _ z A underlying40 rfl (by kernel_rfl)) F C
def tP (R:Pr (List Ty×List Ty)) (S:Yd) (acc ad:List (Option Ty)):Prop:=Zf R=S/\∀ D b,R = .inl (D,b)->acc=D.1.map some/\ad=D.2.map some/\D.1.length<=8193/\D.2.length<=8193
theorem nR {pb tb cap mb:Nat} {ts:List Tok} {w wr:wD} {S:Yd} {j da:oA} {z dc:Nat} {acc ad:List (Option Ty)} {T Y:List (List vL)} {R:Pr (List Ty×List Ty)} (X:RX pb tb cap ts w wr 0 S [(mb,MV.obj ⟨j,acc.length,z,da,ad.length,dc⟩),(w.heap.size,Xf.obj)])
  (I:Yq yG (mb+1) 68 4 (Value.slice da ad.length dc).ownBlock wr (.slice j acc.length z) T acc) (M:Yq wV (mb+1) 66 15 (Value.slice j acc.length z).ownBlock wr (.slice da ad.length dc) Y ad) (H:tP R S acc ad) (hm:w.heap.size<mb) :
  (putM wr w.heap.size ⟨j,acc.length,z,da,ad.length,dc⟩).drew.heap[w.heap.size]?=some (MV.obj ⟨j,acc.length,z,da,ad.length,dc⟩)/\RMd pb tb cap ts w R (.returned (MV.val ⟨j,acc.length,z,da,ad.length,dc⟩)) (putM wr w.heap.size ⟨j,acc.length,z,da,ad.length,dc⟩).drew:=by
 have A:=X.hp
 refine⟨Eh (y:=Xf) (X.box (p:=(w.heap.size,Xf.obj)) (by simp)),((X.st.own A (xR) 0 _).own A (xR) 1 _).drew,?_,_,rfl,fun D b e=>?_⟩
 ·rw [H.1]
  exact((X.at_.other A 0 _).other A 1 _).drew
 ·obtain⟨Z,N,J,h2⟩:=H.2 D b e
  subst Z N;obtain⟨a1,c1,F,V⟩:=bO (rep:=Ky) (fun _ _ _ D h=>h.2 D rfl) impQ_k I;obtain⟨a2,c2,C,O⟩:=bO (rep:=Jn) (fun _ _ _ D h=>h.2 D rfl) decQ_k M;injection F with F _ _;injection C with C _ _;subst F C
  have hv:Ul (mb+1) wr ⟨j,(D.1.map some).length,z,da,(D.2.map some).length,dc⟩ D:=⟨List.length_map _,List.length_map _,J,h2,V,O⟩
  exact Ul.lower (lo':=w.heap.size) (lo:=mb+1) (Ul.keep (hv.putM (b:=w.heap.size) (by omega) ⟨j,(D.1.map some).length,z,da,(D.2.map some).length,dc⟩) (xR) fun _ _ _=>rfl) (by omega)
theorem zhd (pb tb cap:Nat) (ts:List Tok) (ok:Ym ts) (w:wD) (h:Z2 w pb tb cap ts 0 (.inl 0)) :
  Calls prog 45 #[qP pb] w (RMd pb tb cap ts w (Du ts)):=by
 have hf:ts.length - 1+1=ts.length:=by have:=ok.pos; omega
 have hf':ts.length<=ts.length - 1+1:=by omega
 obtain⟨K,hK⟩:=xE (Wg ts ts.length 101 0)
 obtain⟨E,hE⟩:=xE (Vo ts ts.length 101 false 0)
 have hKc:∀ S w,Z2 w pb tb cap ts 0 S->Calls prog 73 #[qP pb] w (N0 pb tb cap ts 0 w (Zi K S)):=by
  have:=bM pb tb cap ts ok (ts.length - 1) hf' 101 0 rfl (by omega);rw [hf,<- hK] at this;exact this
 have hEc:∀ S w,Z2 w pb tb cap ts 0 S->Calls prog 61 #[qP pb] w (V0 pb tb cap ts 0 w (Zi E S)):=by
  have:=(sS pb tb cap ts ok (ts.length - 1) hf' 101 0 rfl (by omega)).1;rw [hf,<- hE] at this;exact this
 have hKu:∀ a x b,K a = .inl (x,b)->a<=b:=fun a x b h=>by rw [hK] at h; exact zJ h
 have hNs:=fun S w h=>zhe pb tb cap 0 ts ok (ts.length - 1) hf' S w h
 have hVs:=fun S w h=>zhz pb tb cap 0 ts ok K hKu (ts.length - 1) hf' hKc S w h
 rw [hf] at hNs hVs
 have HNs:=Za hNs
 have HVs:=Za hVs
 have HHd:=Za (fun S w h=>s6 pb tb cap 0 ts ok K hKc S w h)
 have HEc:=Za hEc
 have HDs:=Za (zad ts K hK E hE)
 have OK:=Za ok
 have Jd:ts.length<=8193:=ok.len
 obtain⟨R,hR⟩:=xE (Du ts)
 rw [<- hR]
 have P7:xQ (IS ts R (.inl 0) [] ts.length):=by rw [hR]; exact zcj ok.pos
 have Ys:=h.ltp
 have X0:=Za ((Hb h Xf.obj).alloc Xf.obj)
 rw [xS] at X0
 obtain⟨i4,hi,Xr,Xg,Xw⟩:=info_parts gV
 obtain⟨i5,di,dz0,dz1,dz2⟩:=info_parts gT
 obtain⟨i6,ti,tz0,tz1,tz2⟩:=info_parts Iy
 clear h hf hf' hK hE hKc hEc hKu hNs hVs ok hR
 go_enter func45,ntmps45
 go_wp2_with fail
 obtain⟨mb,Bm⟩:=xE (w.heap.size+1)
 rw [<- Bm] at X0 ⊢
 have hwm:w.heap.size<mb:=by omega
 clear Bm
 go_loopg [] (ts.length) (fun gk wr=>∃ (S:Yd) (ia:oA) (ic:Nat) (ci:List (List vL)) (acc:List (Option Ty)),xQ (RX pb tb cap ts w wr 0 S [(mb,MV.obj ⟨ia,acc.length,ic,none,0,0⟩),(w.heap.size,Xf.obj)])/\xQ (Yq yG (mb+1) 68 4 none wr (.slice ia acc.length ic) ci acc)/\xQ (IS ts R S acc gk))
 case atStart=>exact⟨_,none,0,[],[],X0,Ha _ _ _ _ _,P7⟩
 case round =>
  clear X0 P7;obtain⟨S,ia,ic,ci,acc,X,RI,HI⟩:=hrel;obtain⟨a0,Z⟩:=X.o.at_;obtain⟨⟨c0,c1,c2,c3,c4,c5⟩,_⟩:=Z.cells;have Qf:=Z.ltp;have ht0:=Z.tlt;have Bf:=Z.lt;have hmw:=xB (X.o.box (p:=(mb,_)) (xM))
  have J2:(∃ p,S = .inr p)∨(∃ b,S = .inl b):=by
   cases S with
   | inr p=>exact .inl ⟨p,rfl⟩
   | inl b=>exact .inr ⟨b,rfl⟩
  rcases J2 with⟨p,rfl⟩ | ⟨b,rfl⟩
  case inl =>
   have he0:(p.1 == 0)=false:=by have:=Z.bad p rfl; simpa using this
   simp only [eS] at c3
   have HF:xQ (tP R (.inr p) acc []):=⟨by rw [HI.o.dead]; rfl,fun D b e=>by rw [HI.o.dead] at e; cases e⟩
   have HB:=Za (Z.bad p rfl);go_wp2_with fail
   go_loopg [] 0 (fun _ wr=>xQ (RX pb tb cap ts w wr 0 (.inr p) [(mb,MV.obj ⟨ia,acc.length,ic,none,0,0⟩),(w.heap.size,Xf.obj)])/\xQ (Yq yG (mb+1) 68 4 none wr (.slice ia acc.length ic) ci acc))
   case atStart=>exact⟨X,RI⟩
   case round =>
    clear X RI HI c0 c1 c2 c3 c4 c5 Z Qf ht0 Bf hmw;obtain⟨X,RI⟩:=hrel;obtain⟨a0,Z⟩:=X.o.at_;obtain⟨⟨c0,c1,c2,c3,c4,c5⟩,_⟩:=Z.cells;simp only [eS] at c3
    have RD:xQ (Yq wV (mb+1) 66 15 (Value.slice ia acc.length ic).ownBlock _ nP [] []):=⟨rfl,(fun _ h=>nomatch h),World.ownsRow_nil _ _ _ _,(fun _ h=>nomatch h),(fun q e=>RI.o.own q e),(fun _ h _=>nomatch h)⟩
    go_wp2_with fail;go_region;have XD:=X.o.drew;obtain⟨⟨m0,m1⟩,_,Uu⟩:=Nf (x:=⟨ia,acc.length,ic,none,0,0⟩) (XD.box (p:=(mb,_)) (xM));obtain⟨⟨r0,r1⟩,⟨f0,f1⟩,Xe⟩:=Nf (x:=Xf) (XD.box (p:=(w.heap.size,Xf.obj)) (by simp));obtain⟨⟨r2,r3⟩,⟨f2,f3⟩,xC⟩:=Nf (x:=Xf) (X.o.box (p:=(w.heap.size,Xf.obj)) (by simp))
    have Z1:¬ mb=w.heap.size:=by omega
    clear XD;go_wp2_with fail;obtain⟨hg,hq⟩:=nR (ad:=[]) (da:=none) (dc:=0) X.o RI.o RD.o HF.o hwm;exact retM rfl rfl hg rfl hq
  case inr =>
   obtain rfl:=Z.live b rfl;obtain⟨q0,q1,q2,q3⟩:=Z.toks b Z.lt;simp only [eS] at c3
   have Yo:(b:Int)<(ts.length:Int):=by omega
   obtain⟨t,ht⟩:=xE (Zk ts b);rw [<- ht] at q2 q3;have HT:=Za ht
   have Mf:wr.drew.cell? (aP pb 0)=some (lP tb ts.length cap)/\wr.drew.cell? (aP pb 1)=some (iP b)/\wr.drew.cell? (aP tb (b*4+2))=some (iP t.line)/\wr.drew.cell? (aP tb (b*4+3))=some (iP t.col):=⟨c0,c1,q2,q3⟩
   have Y5:xQ (∀ o,(wr.alloc o).drew.cell? (aP pb 0)=some (lP tb ts.length cap)/\(wr.alloc o).drew.cell? (aP pb 1)=some (iP b)/\(wr.alloc o).drew.cell? (aP tb (b*4+2))=some (iP t.line)/\(wr.alloc o).drew.cell? (aP tb (b*4+3))=some (iP t.col)):=fun o=>by
    have h1:=(Z.alloc o).drew;rw [ht];exact⟨h1.cells.1.1,h1.cells.1.2.1,(h1.toks b h1.lt).2.2.1,(h1.toks b h1.lt).2.2.2⟩
   clear Z q0 q1 ht c2 c4 c5;go_wp2_with fail
   go_region_held (fun W=>W.cell? (aP pb 0)=some (lP tb ts.length cap)/\W.cell? (aP pb 1)=some (iP b)/\W.cell? (aP tb (b*4+2))=some (iP t.line)/\W.cell? (aP tb (b*4+3))=some (iP t.col)) (first | with_reducible assumption | with_reducible exact Y5.o _) (fail)
   go_wp2_with fail;have X1:=Za (X.o.alloc (.cells #[sP,nP,iP t.line,iP t.col] 68)).drew;have T1:=Za (((Zl.refl pb wr).alloc Qf (.cells #[sP,nP,iP t.line,iP t.col] 68)).drew);obtain⟨xb,hxb⟩:=xE wr.heap.size;rw [<- hxb] at X1 ⊢
   have hxw:wr.heap.size<=xb:=by omega
   have hmx:mb<xb:=by omega
   clear hxb c0 c1 c3 q2 q3 Mf Y5;generalize (wr.alloc (.cells #[sP,nP,iP t.line,iP t.col] 68)).drew=W1 at X1 T1 ⊢;refine(Vi pb tb cap 0 ts (.inl b) [105,109,112,111,114,116] _ X1.o.at_ OK.o).mono ?_;rintro e W0 ⟨rfl,z,C⟩;have X2:=Za (X1.o.step z C);have T2:=Za (T1.o.trans z);clear z C X1 T1;by_cases hs:Zg ts b [105,109,112,111,114,116]=true
   ·rw [show Y2 ts (.inl b) [105,109,112,111,114,116]=true from hs] at X2 ⊢
    rw [if_pos rfl] at X2;obtain⟨R1,R2,R3,R4,h1,h2,h3,h4,hst4,N6⟩:=zbx ts b hs;have HV:=Za (And.intro hst4 N6);have Uk:=Za hs;have U0:=Za (fun wx hx=>Gm pb tb cap 0 ts (.inl (b+1)) wx hx OK.o);rw [show Zi (Zu ts) (.inl (b+1))=R1 from h1.symm] at U0;have To:=Za (fun wx hx=>Td pb tb cap 0 ts (Zf R1) [58] wx hx OK.o);rw [<- h2] at To;have Nx:=Za (HNs.o (Zf R2));rw [<- h3] at Nx
    have Fw:=Za (fun wx hx=>Td pb tb cap 0 ts (Zf R3) [59] wx hx OK.o);rw [<- h4] at Fw;obtain⟨A,Bn⟩:=xE (Vd R1);rw [<- Bn] at U0;have Na:=Za Bn;replace X2:xQ (RX pb tb cap ts w W0 0 (.inl (b+1)) _):=X2
    have HM3:xQ (∀ c l,R3 = .inl (l,c)->∃ b2,R3=Z9 ts (Zu ts) [44] ts.length b2):=fun c l e=>by
     rw [h3] at e ⊢
     cases hr:Zf R2 with
     | inr p=>rw [hr] at e; cases e
     | inl b2=>exact⟨b2,rfl⟩
    clear hs h1 h2 h3 h4 hst4 N6 Bn X;go_wp2_with fail;refine(U0.o _ X2.o.at_).mono ?_;rintro e w3 ⟨rfl,z,C⟩;have X3:=Za (X2.o.step z C);have T3:=Za (T2.o.trans z);clear z C X2 T2 U0;obtain⟨⟨x0,x1,x2,x3⟩,⟨f0,f1,f2,f3⟩,Aa⟩:=Yh (X3.o.box (p:=(xb,_)) (xM));go_wp2_with fail;have X3':=Za (X3.o.setB (by simp; omega) 0 (uP A));have T3':=Za (T3.o.own Qf hxw 0 (uP A));clear x0 x1 x2 x3 f0 f1 f2 f3 Aa X3 T3
    generalize w3.setCell (aP xb 0) (uP A)=W3 at X3' T3' ⊢;refine(To.o _ X3'.o.at_).mono ?_;rintro e w4 ⟨rfl,z,C⟩;have X4:=Za (X3'.o.step z C);have T4:=Za (T3'.o.trans z);clear z C X3' T3' To;go_wp2_with fail;refine(Nx.o _ X4.o.at_).mono ?_;rintro e w5 ⟨z,C,na,nc,cn,ns,rfl,Yu,Yb,Vk⟩;have X5:=Za (X4.o.step z C);have T5:=Za (T4.o.trans z);have hx4:=xB (X4.o.box (p:=(xb,_)) (xM))
    have RN5:=Za Yu;have HNv:=Za Vk;clear z C X4 T4 Nx Yu Vk;obtain⟨⟨x0,x1,x2,x3⟩,⟨f0,f1,f2,f3⟩,Aa⟩:=Yh (X5.o.box (p:=(xb,_)) (xM));go_wp2_with fail;have X5':=Za (X5.o.setB (by simp; omega) 1 (.slice na ns.length nc));have T5':=Za (T5.o.own Qf hxw 1 (.slice na ns.length nc));have RN5':=Za (Mx RN5.o (show xb<w4.heap.size from hx4) 1 (.slice na ns.length nc));clear x0 x1 x2 x3 f0 f1 f2 f3 Aa X5 T5 RN5
    generalize w5.setCell (aP xb 1) (.slice na ns.length nc)=W5 at X5' T5' RN5' ⊢;refine(Fw.o _ X5'.o.at_).mono ?_;rintro e w6 ⟨rfl,z,C⟩;have X6:xQ (RX pb tb cap ts w w6 0 (Zf R4) [(xb,.cells #[uP A,.slice na ns.length nc,iP t.line,iP t.col] 68),(mb,MV.obj ⟨ia,acc.length,ic,none,0,0⟩),(w.heap.size,Xf.obj)]):=X5'.o.step z C;have RW6:=Za (RI.o.stay (T5'.o.trans z) (show pb<mb+1 by omega))
    have RN6:=Za (RN5'.o.stay z (show pb<w4.heap.size by omega));have hs6:=X6.o.st.size
    have Uj:xQ (Xt yG (mb+1) (fun q=>(Value.slice ia acc.length ic).ownBlock=some q∨(none:Option Nat)=some q) w6 [uP A,.slice na ns.length nc,iP t.line,iP t.col] (Vy (Bq ts b))):=by
     refine Xt.new (lo:=w4.heap.size) ⟨rfl,fun D e=>?_⟩ (by omega) fun q hq=>by have:=RI.o.all q hq; omega
     cases hi:Bq ts b with
     | inr p=>rw [hi] at e; cases e
     | inl q =>
      obtain⟨D',c⟩:=q;obtain⟨s,l,b1,b3,e1,e3,e4⟩:=HV.o.2 D' c hi;rw [hi] at e;injection e with e;have e5:=HNv.o l b3 e3;obtain⟨a',cap',e6,_,e7⟩:=wK RN6.o;injection e6 with e6 _ _
      have e9:ns.length<=8193:=by
       obtain⟨b2,h2⟩:=HM3.o b3 l e3;have:=Cm _ (h2.symm.trans e3);rw [e5];omega
      refine⟨A,ns,na,nc,t.line,t.col,rfl,?_,e9,e6 ▸ e7⟩;rw [<- e,e4,Na.o,e1,e5,HT.o];rfl
    clear z C X5' T5' RN5' RN6 Fw RI HM3;obtain⟨⟨x0,x1,x2,x3⟩,_,Aa⟩:=Yh (X6.o.box (p:=(xb,_)) (xM));obtain⟨⟨m0,m1⟩,⟨f0,f1⟩,Uu⟩:=Nf (X6.o.box (p:=(mb,_)) (xW _ xM))
    have Lw:acc.length<=8193:=by have:=HI.o.len; omega
    go_wp2_with(at_builtin; refine wpList_append_own_at _ rfl (.tmp 53) (.tmp 55) 37 rfl (mb+1) 68 i4 _ 4 56 underlying37 hi Xr Xg Xw rfl (by decide) _ _ _ rfl (RW6.o.ow.alloc _) (aP _ 0) 1 1 [uP A,.slice na ns.length nc,iP t.line,iP t.col] rfl rfl (V2 _ _ _) (by simp [Value.oneCell']) (by unfold maxLen; omega) (by omega) (by simp; omega) ?_)
    intro v' w7 Zr Zo _ Z4;obtain⟨h6,h7⟩:=pJ (X6.o.drop) RW6.o (show w.heap.size<=mb+1 by omega) rfl Uj.o Zr Zo Z4 (fun p hp=>by simp only [List.mem_cons,List.not_mem_nil,or_false] at hp; rcases hp with rfl | rfl <;> (show _<mb+1; omega));have Vz:=Za h6;have X7:=Za h7;obtain⟨ia',ic',Gh⟩:=Yt Zr;subst Gh
    obtain⟨g',Qp,hn⟩:=HI.o.next (by omega) Uk.o (fun c e=>by
     rw [HV.o.1] at e;obtain⟨a',ha⟩:=X7.o.at_;have:=ha.live c e;have:=ha.lt
     omega) Jd
    rw [HV.o.1] at hn;have HN:=Za hn;clear Zr Zo Z4 h6 h7 hn X6 RW6 Uj HI x0 x1 x2 x3 Aa m0 m1 f0 f1 Uu;obtain⟨⟨m0,m1⟩,⟨f0,f1⟩,Uu⟩:=Nf (X7.o.box (p:=(mb,_)) (xM));go_wp2_with fail
    go_roundg g'
    case measure=>exact Qp
    case rel =>
     refine⟨Zf R4,ia',ic',ci ++ [[uP A,.slice na ns.length nc,iP t.line,iP t.col]],acc ++ [Vy (Bq ts b)],?_,?_,HN⟩
     ·rw [List.length_append]
      exact X7.o.setB (fun p hp=>by rw [List.mem_singleton.1 hp]; show w.heap.size≠mb; omega) 0 _
     ·rw [List.length_append]
      exact Mx Vz.o (by omega) 0 _
   have U7:Zg ts b [105,109,112,111,114,116]=false:=by simpa using hs
   rw [show Y2 ts (.inl b) [105,109,112,111,114,116]=false from U7] at X2 ⊢;rw [if_neg (by simp)] at X2;have HD:=Za (HI.o.end_ U7)
   have HAl:xQ (∀ (i:List Ty) D b,R = .inl (D,b)->acc=i.map some->i.length<=8193):=fun i _ _ _ e=>by
    have:=HI.o.len;rw [e,List.length_map] at this;omega
   have RI2:=Za (RI.o.stay T2.o (show pb<mb+1 by omega));replace X2:=Za X2.o.drop;clear hs U7 HI T2 X RI;go_wp2_with fail;obtain⟨S2,Df⟩:=xE ((Sum.inl b:Yd));rw [<- Df] at X2 HD;clear Df HT Yo Qf ht0 Bf hmw hxw hmx
   go_loopg [] (ts.length) (fun gk wr=>∃ (S:Yd) (da:oA) (dc:Nat) (cd:List (List vL)) (ad:List (Option Ty)),xQ (RX pb tb cap ts w wr 0 S [(mb,MV.obj ⟨ia,acc.length,ic,da,ad.length,dc⟩),(w.heap.size,Xf.obj)])/\xQ (Yq yG (mb+1) 68 4 (Value.slice da ad.length dc).ownBlock wr (.slice ia acc.length ic) ci acc)/\xQ (Yq wV (mb+1) 66 15 (Value.slice ia acc.length ic).ownBlock wr (.slice da ad.length dc) cd ad)/\xQ (DS ts R acc S ad gk))
   case atStart=>exact⟨S2,none,0,[],[],X2,RI2,⟨rfl,(fun _ h=>nomatch h),World.ownsRow_nil _ _ _ _,(fun _ h=>nomatch h),(fun q e=>RI2.o.own q e),(fun _ h _=>nomatch h)⟩,HD⟩
   case round =>
    clear X2 RI2 HD;obtain⟨S,da,dc,cd,ad,X,RI,RD,HD⟩:=hrel;obtain⟨a0,Z⟩:=X.o.at_;obtain⟨⟨c0,c1,c2,c3,c4,c5⟩,_⟩:=Z.cells;have Qf:=Z.ltp;have ht0:=Z.tlt;have Bf:=Z.lt;have hmw:=xB (X.o.box (p:=(mb,_)) (xM))
    have J2:(∃ p,S = .inr p)∨(∃ b,S = .inl b/\((Zk ts b).kind == 0)=true)∨∃ b,S = .inl b/\((Zk ts b).kind == 0)=false:=by
     cases S with
     | inr p=>exact .inl ⟨p,rfl⟩
     | inl b=>cases hk:((Zk ts b).kind == 0)with
      | true=>exact .inr (.inl ⟨b,rfl,hk⟩)
      | false=>exact .inr (.inr ⟨b,rfl,hk⟩)
    rcases J2 with⟨p,rfl⟩ | ⟨b,rfl,hk⟩ | ⟨b,rfl,hk⟩
    case inl =>
     have he0:(p.1 == 0)=false:=by have:=Z.bad p rfl; simpa using this
     simp only [eS] at c3
     have HF:xQ (tP R (.inr p) acc ad):=⟨by rw [HD.o.dead]; rfl,fun D b e=>by rw [HD.o.dead] at e; cases e⟩
     clear Bf HD Z;go_wp2_with fail;go_region;have hrX:wr.drew.heap[w.heap.size]?=some Xf.obj:=X.o.drew.box (p:=(w.heap.size,Xf.obj)) (by simp);obtain⟨⟨m0,m1⟩,_,Uu⟩:=Nf (x:=⟨ia,acc.length,ic,da,ad.length,dc⟩) (X.o.drew.box (p:=(mb,_)) (xM));obtain⟨⟨r0,r1⟩,⟨f0,f1⟩,Xe⟩:=Nf (x:=Xf) hrX;obtain⟨⟨r2,r3⟩,⟨f2,f3⟩,xC⟩:=Nf (x:=Xf) (X.o.box (p:=(w.heap.size,Xf.obj)) (by simp))
     have Z1:¬ mb=w.heap.size:=by omega
     clear hrX;go_wp2_with fail;obtain⟨hg,hq⟩:=nR X.o RI.o RD.o HF.o hwm;exact retM rfl rfl hg rfl hq
    case inr.inl =>
     obtain rfl:=Z.live b rfl;obtain⟨q0,q1,q2,q3⟩:=Z.toks b Z.lt;simp only [eS] at c3
     have Yo:(b:Int)<(ts.length:Int):=by omega
     obtain⟨t,ht⟩:=xE (Zk ts b)
     have HF:xQ (tP R (.inl b) acc ad):=by
      obtain⟨i,l,e1,e2,e3⟩:=HD.o.end_ hk;refine⟨by rw [e1]; rfl,fun D c e=>?_⟩;rw [e1] at e;injection e with e;injection e with e _;have hl:=HD.o.len;rw [e3,List.length_map] at hl;rw [<- e];exact⟨e2,e3,HAl.o i _ _ e1 e2,by show l.length<=8193; omega⟩
     rw [<- ht] at q0 hk
     have Mf:wr.drew.cell? (aP pb 0)=some (lP tb ts.length cap)/\wr.drew.cell? (aP pb 1)=some (iP b)/\wr.drew.cell? (aP pb 3)=some (iP 0)/\wr.drew.cell? (aP tb (b*4))=some (iP t.kind):=⟨c0,c1,c3,q0⟩
     clear ht q1 q2 q3 c0 c1 c2 c3 c4 c5 q0 Bf HD Z;go_wp2_with fail
     go_region_held (fun W=>W.cell? (aP pb 0)=some (lP tb ts.length cap)/\W.cell? (aP pb 1)=some (iP b)/\W.cell? (aP pb 3)=some (iP 0)/\W.cell? (aP tb (b*4))=some (iP t.kind)) (with_reducible assumption) (fail)
     clear Mf;have hrX:wr.drew.heap[w.heap.size]?=some Xf.obj:=X.o.drew.box (p:=(w.heap.size,Xf.obj)) (by simp);obtain⟨⟨m0,m1⟩,_,Uu⟩:=Nf (x:=⟨ia,acc.length,ic,da,ad.length,dc⟩) (X.o.drew.box (p:=(mb,_)) (xM));obtain⟨⟨r0,r1⟩,⟨f0,f1⟩,Xe⟩:=Nf (x:=Xf) hrX;obtain⟨⟨r2,r3⟩,⟨f2,f3⟩,xC⟩:=Nf (x:=Xf) (X.o.box (p:=(w.heap.size,Xf.obj)) (by simp))
     have Z1:¬ mb=w.heap.size:=by omega
     clear hrX;go_wp2_with fail;obtain⟨hg,hq⟩:=nR X.o RI.o RD.o HF.o hwm;exact retM rfl rfl hg rfl hq
    case inr.inr =>
     obtain rfl:=Z.live b rfl;obtain⟨q0,q1,q2,q3⟩:=Z.toks b Z.lt;simp only [eS] at c3
     have Yo:(b:Int)<(ts.length:Int):=by omega
     have HKi:=Za hk;obtain⟨t,ht⟩:=xE (Zk ts b);rw [<- ht] at q0 hk
     have Tt:(t.kind != 0)=true:=by rw [bne,hk]; rfl
     have Mf:wr.drew.cell? (aP pb 0)=some (lP tb ts.length cap)/\wr.drew.cell? (aP pb 1)=some (iP b)/\wr.drew.cell? (aP pb 3)=some (iP 0)/\wr.drew.cell? (aP tb (b*4))=some (iP t.kind):=⟨c0,c1,c3,q0⟩
     clear ht q1 q2 q3 c0 c1 c2 c3 c4 c5 q0 Z;go_wp2_with fail
     go_region_held (fun W=>W.cell? (aP pb 0)=some (lP tb ts.length cap)/\W.cell? (aP pb 1)=some (iP b)/\W.cell? (aP pb 3)=some (iP 0)/\W.cell? (aP tb (b*4))=some (iP t.kind)) (with_reducible assumption) (fail)
     clear Mf;go_wp2_with fail;have X1:=Za X.o.drew;have T1:=Za (Zl.refl pb wr).drew;clear X hk Tt;generalize wr.drew=W1 at X1 T1 ⊢;have HC:=Za (Vi pb tb cap 0 ts (.inl b) [101,120,112,111,114,116] _ X1.o.at_ OK.o);rw [fn_sta ts b,show Y2 ts (.inl b) [101,120,112,111,114,116]=Zg ts b [101,120,112,111,114,116] from rfl] at HC;obtain⟨R1,R2,R3,R4,R5,R6,R7,h1,h2,h3,h4,h5,h6,h7,hst7,N6⟩:=HDs.o b
     obtain⟨ex,hex⟩:=xE (Zg ts b [101,120,112,111,114,116]);rw [<- hex] at HC N6;obtain⟨fb,hfb⟩:=xE (Ca ts b);rw [<- hfb] at HC h1 N6;have HV:=Za (And.intro hst7 N6)
     have Nc:xQ (∀ vs c,R3 = .inl (vs,c)->vs.length<=8193):=fun vs c e=>by
      rw [h3] at e
      cases hr:Zf R2 with
      | inr p=>rw [hr] at e; cases e
      | inl b2 =>
       rw [hr] at e;have:=zks (show Mp ts K ts.length b2 = .inl (vs,c) from e);omega
     have U0:=Za (fun wx hx=>Td pb tb cap 0 ts (.inl fb) [102,110] wx hx OK.o);rw [<- h1] at U0;have To:=Za (fun wx hx=>Gm pb tb cap 0 ts (Zf R1) wx hx OK.o);rw [<- h2] at To;have Nx:=Za (HVs.o (Zf R2));rw [<- h3] at Nx;have Fw:=Za (HHd.o (Zf R3));rw [<- h4] at Fw;have HC5:=Za (fun wx hx=>Td pb tb cap 0 ts (Zf R4) [61] wx hx OK.o);rw [<- h5] at HC5;have HC6:=Za (HEc.o (Zf R5));rw [<- h6] at HC6
     have HC7:=Za (fun wx hx=>Td pb tb cap 0 ts (Zf R6) [59] wx hx OK.o);rw [<- h7] at HC7;obtain⟨A,Bn⟩:=xE (Vd R2);rw [<- Bn] at To;have Na:=Za Bn;clear h1 h2 h3 h4 h5 h6 h7 hst7 N6 Bn hex hfb;refine HC.o.mono ?_;rintro e w2 ⟨rfl,z,C⟩;have X2:=Za ((X1.o.step z C).alloc (.cells #[sP,.bool ex,nP,sP,nP,iP 0,sP,iP 0,iP 0,iP 0,nP,nP,nP,iP 0,iP 0] 66));have T2:=Za ((T1.o.trans z).alloc Qf (.cells #[sP,.bool ex,nP,sP,nP,iP 0,sP,iP 0,iP 0,iP 0,nP,nP,nP,iP 0,iP 0] 66))
     have Wj:=(T1.o.trans z).size;clear z C X1 T1 HC;go_wp2_with fail;obtain⟨db,N3⟩:=xE w2.heap.size;rw [<- N3] at X2 Wj ⊢
     have Nq:mb<db:=by omega
     clear N3;have X2':xQ (RX pb tb cap ts w _ 0 (.inl fb) [(db,dO ⟨#[]⟩ ex nP ⟨#[]⟩ nP Zj 0 0),(mb,MV.obj ⟨ia,acc.length,ic,da,ad.length,dc⟩),(w.heap.size,Xf.obj)]):=X2;clear X2;generalize w2.alloc (.cells #[sP,.bool ex,nP,sP,nP,iP 0,sP,iP 0,iP 0,iP 0,nP,nP,nP,iP 0,iP 0] 66)=W2 at X2' T2 ⊢;obtain⟨F,Sz⟩:=xE (Zk ts fb)
     have Mf:W2.drew.cell? (aP pb 0)=some (lP tb ts.length cap)/\W2.drew.cell? (aP pb 1)=some (iP fb)/\W2.drew.cell? (aP tb (fb*4+2))=some (iP F.line):=by
      obtain⟨a2,Y⟩:=X2'.o.drew.at_;obtain rfl:=Y.live fb rfl;rw [Sz];exact⟨Y.cells.1.1,Y.cells.1.2.1,(Y.toks fb Y.lt).2.2.1⟩
     have Y5:xQ (∀ u,(W2.setCell (aP db 13) u).drew.cell? (aP pb 0)=some (lP tb ts.length cap)/\(W2.setCell (aP db 13) u).drew.cell? (aP pb 1)=some (iP fb)/\(W2.setCell (aP db 13) u).drew.cell? (aP tb (fb*4+2))=some (iP F.line)):=fun u=>by
      obtain⟨a2,Y⟩:=(X2'.o.setB (by simp; omega) 13 u).drew.at_;obtain rfl:=Y.live fb rfl;rw [Sz];exact⟨Y.cells.1.1,Y.cells.1.2.1,(Y.toks fb Y.lt).2.2.1⟩
     have hfl:(fb:Int)<(ts.length:Int):=by
      obtain⟨a2,Y⟩:=X2'.o.at_;obtain rfl:=Y.live fb rfl;have:=Y.lt;omega
     obtain⟨⟨d0,d1,d2,d3,d4,d5,d6,d7,d8,d9,O,J,T,M,V⟩,⟨z0,z1,z2,z3,z4,z5,z6,z7,z8,z9,z10,z11,z12,z13,z14⟩,Ws⟩:=Qw (X2'.o.drew.box (p:=(db,_)) (xM));clear d0 d1 d2 d3 d4 d5 d6 d7 d8 d9 O J T V z0 z1 z2 z3 z4 z5 z6 z7 z8 z9 z10 z11 z12 z14;have HTf:=Za Sz;clear Sz
     go_region_held (fun W=>W.cell? (aP pb 0)=some (lP tb ts.length cap)/\W.cell? (aP pb 1)=some (iP fb)/\W.cell? (aP tb (fb*4+2))=some (iP F.line)) (first | with_reducible assumption | with_reducible exact Y5.o _) (fail)
     go_wp2_with fail;have Sz:=HTf.o;have X3:xQ (RX pb tb cap ts w _ 0 (.inl fb) [(db,dO ⟨#[]⟩ ex nP ⟨#[]⟩ nP Zj F.line 0),(mb,MV.obj ⟨ia,acc.length,ic,da,ad.length,dc⟩),(w.heap.size,Xf.obj)]):=(X2'.o.setB (by simp; omega) 13 (iP F.line)).drew;have T3:=Za (T2.o.own Qf Wj 13 (iP F.line)).drew;clear X2' T2 Y5 Mf hfl M z13 Ws HTf;generalize (W2.setCell (aP db 13) (iP F.line)).drew=W3 at X3 T3 ⊢
     have Mf:W3.drew.cell? (aP pb 0)=some (lP tb ts.length cap)/\W3.drew.cell? (aP pb 1)=some (iP fb)/\W3.drew.cell? (aP tb (fb*4+3))=some (iP F.col):=by
      obtain⟨a2,Y⟩:=X3.o.drew.at_;obtain rfl:=Y.live fb rfl;rw [Sz];exact⟨Y.cells.1.1,Y.cells.1.2.1,(Y.toks fb Y.lt).2.2.2⟩
     have Y5:xQ (∀ u,(W3.setCell (aP db 14) u).drew.cell? (aP pb 0)=some (lP tb ts.length cap)/\(W3.setCell (aP db 14) u).drew.cell? (aP pb 1)=some (iP fb)/\(W3.setCell (aP db 14) u).drew.cell? (aP tb (fb*4+3))=some (iP F.col)):=fun u=>by
      obtain⟨a2,Y⟩:=(X3.o.setB (by simp; omega) 14 u).drew.at_;obtain rfl:=Y.live fb rfl;rw [Sz];exact⟨Y.cells.1.1,Y.cells.1.2.1,(Y.toks fb Y.lt).2.2.2⟩
     have hfl:(fb:Int)<(ts.length:Int):=by
      obtain⟨a2,Y⟩:=X3.o.at_;obtain rfl:=Y.live fb rfl;have:=Y.lt;omega
     obtain⟨⟨d0,d1,d2,d3,d4,d5,d6,d7,d8,d9,O,J,T,M,V⟩,⟨z0,z1,z2,z3,z4,z5,z6,z7,z8,z9,z10,z11,z12,z13,z14⟩,Ws⟩:=Qw (X3.o.drew.box (p:=(db,_)) (xM));clear d0 d1 d2 d3 d4 d5 d6 d7 d8 d9 O J T M z0 z1 z2 z3 z4 z5 z6 z7 z8 z9 z10 z11 z12 z13;have HTf:=Za Sz;clear Sz
     go_region_held (fun W=>W.cell? (aP pb 0)=some (lP tb ts.length cap)/\W.cell? (aP pb 1)=some (iP fb)/\W.cell? (aP tb (fb*4+3))=some (iP F.col)) (first | with_reducible assumption | with_reducible exact Y5.o _) (fail)
     go_wp2_with fail;have Sz:=HTf.o;have X4:xQ (RX pb tb cap ts w _ 0 (.inl fb) [(db,dO ⟨#[]⟩ ex nP ⟨#[]⟩ nP Zj F.line F.col),(mb,MV.obj ⟨ia,acc.length,ic,da,ad.length,dc⟩),(w.heap.size,Xf.obj)]):=(X3.o.setB (by simp; omega) 14 (iP F.col)).drew;have T4:=Za (T3.o.own Qf Wj 14 (iP F.col)).drew;clear X3 T3 Y5 Mf hfl V z14 Ws HTf;generalize (W3.setCell (aP db 14) (iP F.col)).drew=W4 at X4 T4 ⊢
     have HTf:=Za Sz;clear Sz;refine(U0.o _ X4.o.at_).mono ?_;rintro e w5 ⟨rfl,z,C⟩;have X5:=Za (X4.o.step z C);have T5:=Za (T4.o.trans z);clear z C X4 T4 U0;go_wp2_with fail;refine(To.o _ X5.o.at_).mono ?_;rintro e w6 ⟨rfl,z,C⟩;have X6:=Za (X5.o.step z C);have T6:=Za (T5.o.trans z);clear z C X5 T5 To;obtain⟨⟨d0,d1,d2,d3,d4,d5,d6,d7,d8,d9,O,J,T,M,V⟩,⟨z0,z1,z2,z3,z4,z5,z6,z7,z8,z9,z10,z11,z12,z13,z14⟩,Ws⟩:=Qw (X6.o.box (p:=(db,_)) (xM))
     clear d1 d2 d3 d4 d5 d6 d7 d8 d9 O J T M V z1 z2 z3 z4 z5 z6 z7 z8 z9 z10 z11 z12 z13 z14;go_wp2_with fail;have X6':xQ (RX pb tb cap ts w (w6.setCell (aP db 0) (uP A)) 0 (Zf R2) [(db,dO ⟨A.toArray⟩ ex nP ⟨#[]⟩ nP Zj F.line F.col),(mb,MV.obj ⟨ia,acc.length,ic,da,ad.length,dc⟩),(w.heap.size,Xf.obj)]):=X6.o.setB (by simp; omega) 0 _;have T6':=Za (T6.o.own Qf Wj 0 (uP A))
     clear X6 T6 d0 z0 Ws;generalize w6.setCell (aP db 0) (uP A)=W6 at X6' T6' ⊢;have hd6:=xB (X6'.o.box (p:=(db,_)) (xM));refine(Nx.o _ X6'.o.at_).mono ?_;rintro e w7 ⟨z,C,va,vc,cv,av,rfl,Yu,hvl,hvv⟩;have X7:=Za (X6'.o.step z C);have T7:=Za (T6'.o.trans z);have RV7:=Za Yu;have Ht:=Za hvv;clear Yu hvv;clear z C X6' T6' Nx;obtain⟨⟨d0,d1,d2,d3,d4,d5,d6,d7,d8,d9,O,J,T,M,V⟩,⟨z0,z1,z2,z3,z4,z5,z6,z7,z8,z9,z10,z11,z12,z13,z14⟩,Ws⟩:=Qw (X7.o.box (p:=(db,_)) (xM))
     clear d0 d1 d3 d4 d5 d6 d7 d8 d9 O J T M V z0 z1 z3 z4 z5 z6 z7 z8 z9 z10 z11 z12 z13 z14;go_wp2_with fail;have X7':xQ (RX pb tb cap ts w (w7.setCell (aP db 2) (.slice va av.length vc)) 0 (Zf R3) [(db,dO ⟨A.toArray⟩ ex (.slice va av.length vc) ⟨#[]⟩ nP Zj F.line F.col),(mb,MV.obj ⟨ia,acc.length,ic,da,ad.length,dc⟩),(w.heap.size,Xf.obj)]):=X7.o.setB (by simp; omega) 2 _
     have T7':=Za (T7.o.own Qf Wj 2 (.slice va av.length vc));have RV7':=Za (Mx RV7.o hd6 2 (.slice va av.length vc));clear X7 T7 RV7 d2 z2 Ws;generalize w7.setCell (aP db 2) (.slice va av.length vc)=W7 at X7' T7' RV7' ⊢;have Dj:=xB (X7'.o.box (p:=(db,_)) (xM));refine(Fw.o _ X7'.o.at_).mono ?_;rintro e w8 ⟨z,C,pm,tv,ct,Ii,rfl,hrt,Xz,Uo,htv⟩;have X8:=Za (X7'.o.step z C);have T8:=Za (T7'.o.trans z)
     have KV8:xQ (∀ c,W6.heap.size<=c->c<W7.heap.size->w8.heap[c]?=W7.heap[c]?):=fun c h1 h2=>z.keep c (by omega) h2
     have RT8:=Za hrt;have HTv:=Za htv;have hs78:=z.size;clear hrt htv;clear z C X7' T7' Fw;obtain⟨⟨d0,d1,d2,d3,d4,d5,d6,d7,d8,d9,O,J,T,M,V⟩,⟨z0,z1,z2,z3,z4,z5,z6,z7,z8,z9,z10,z11,z12,z13,z14⟩,Ws⟩:=Qw (X8.o.box (p:=(db,_)) (xM));clear d0 d1 d2 d5 d6 d7 d8 d9 O J T M V z0 z1 z2 z5 z6 z7 z8 z9 z10 z11 z12 z13 z14;obtain⟨ta,tc,rfl⟩:=Yt RT8.o.ow
     have hat8:(∃ t1,Ii=[t1])∨∃ t1 t2,Ii=[t1,t2]:=by
      match Ii,Xz,Uo with
      | [t1],_,_=>exact .inl ⟨t1,rfl⟩
      | [t1,t2],_,_=>exact .inr ⟨t1,t2,rfl⟩
     obtain⟨PM,hPM⟩:∃ PM:ByteArray,PM=⟨pm.toArray⟩:=⟨_,rfl⟩
     rw [show uP pm=.string PM by rw [hPM]];have HPM:=Za hPM;clear hPM Xz Uo
     have X8':∀ n,xQ (RX pb tb cap ts w ((w8.setCell (aP db 3) (.string PM)).setCell (aP db 4) (.slice ta n tc)) 0 (Zf R4) [(db,dO ⟨A.toArray⟩ ex (.slice va av.length vc) PM (.slice ta n tc) Zj F.line F.col),(mb,MV.obj ⟨ia,acc.length,ic,da,ad.length,dc⟩),(w.heap.size,Xf.obj)]):=fun n=>(X8.o.setB (by simp; omega) 3 _).setB (by simp; omega) 4 _
     have T8':∀ n,xQ (Zl pb wr ((w8.setCell (aP db 3) (.string PM)).setCell (aP db 4) (.slice ta n tc))):=fun n=>(T8.o.own Qf Wj 3 (.string PM)).own Qf Wj 4 _
     have KV8':∀ n,xQ (∀ c,W6.heap.size<=c->c<W7.heap.size->((w8.setCell (aP db 3) (.string PM)).setCell (aP db 4) (.slice ta n tc)).heap[c]?=W7.heap[c]?):=fun n c h1 h2=>by
      have Z1:c≠db:=by omega
      rw [xH Z1,xH Z1];exact KV8.o c h1 h2
     rcases hat8 with⟨t1,rfl⟩ | ⟨t1,t2,rfl⟩
     case' inl =>
      have X8a:=X8' 1;have T8a:=T8' 1;have KV8a:=KV8' 1;have RT8a:xQ (Yq Qm W7.heap.size 94 4 none ((w8.setCell (aP db 3) (.string PM)).setCell (aP db 4) (.slice ta 1 tc)) (.slice ta 1 tc) ct [t1]):=Mx (Mx RT8.o Dj 3 (.string PM)) Dj 4 (.slice ta 1 tc);clear X8' T8' KV8' X8 T8 KV8 RT8;obtain⟨W8,hW8⟩:=xE ((w8.setCell (aP db 3) (.string PM)).setCell (aP db 4) (.slice ta 1 tc))
      have hs8:W8.heap.size=w8.heap.size:=by rw [hW8,Yg,Yg]
      rw [<- hW8] at X8a T8a KV8a RT8a;have HW8:=Za hW8;have HS8:=Za hs8
      have Uh:xQ (∀ j u,([iP 0,sP,nP,nP]:List vL)[j]?=some u->(W8.alloc (.cells #[iP 0,sP,nP,nP] 94)).cell? ((aP w8.heap.size 0).add j)=some u):=fun j u h=>by
       have:=V2 W8 [iP 0,sP,nP,nP] 94 j u h;rw [hs8] at this;exact this
      have hp8:=X8a.o.at_.ltp
      have hs78':W7.heap.size<=W8.heap.size:=by omega
      clear hW8 hs8
      go_wp2_with(at_builtin; rw [<- HW8.o]; refine wpList_append_own_at _ rfl (.tmp 126) (.tmp 128) 61 rfl (W7.heap.size) 94 i6 _ 4 72 underlying61 ti tz0 tz1 tz2 rfl (by decide) _ _ _ rfl (RT8a.o.ow.alloc _) (aP _ 0) 1 1 [iP 0,sP,nP,nP] rfl rfl Uh.o (by simp [Value.oneCell']) (by unfold maxLen; simp) (by simp) (by simp; omega) ?_)
      intro v' w9 Zr Zo _ Z4
      have hloc':v'.ownBlock=(Value.slice ta 1 tc).ownBlock∨v'.ownBlock=some (W8.heap.size+1):=by rw [HS8.o]; simpa [HS8.o] using Z4
      have hoB:∀ q,(Value.slice ta 1 tc).ownBlock=some q->W7.heap.size<=q:=fun q hq=>(RT8a.o.own q hq).1
      obtain⟨h6,h7⟩:=pJ X8a.o RT8a.o (show w.heap.size<=W7.heap.size by omega) rfl (Xt.new (lo:=W8.heap.size) (eL W8) hs78' fun q hq=>RT8a.o.all q hq) Zr Zo hloc' (by simp; omega);have T9:=Za ((T8a.o.alloc Qf _).grown Zo Qf fun k hk=>by have:=hoB k hk; omega)
      have KV9:xQ (∀ c,W6.heap.size<=c->c<W7.heap.size->w9.heap[c]?=W7.heap[c]?):=fun c h1 h2=>(Zo.block c (by rw [xS]; omega) (fun e=>by have:=hoB c e.symm; omega)).trans ((xA (by omega)).trans (KV8a.o c h1 h2))
      have hs9a:W7.heap.size<=w9.heap.size:=by have:=Zo.size; rw [xS] at this; omega
      obtain⟨I,H,hv9⟩:=Yt Zr;have hv9':v' = .slice I 2 H:=hv9;subst hv9';have RT9:=Za h6;have X9:=Za h7
      have HTt:xQ (∀ h b,R4 = .inl (h,b)->pm=h.1/\([t1] ++ [some (Y7 0 [] [] [])]:List (Option Ty))=(if h.2.length=1 then h.2 ++ [(Y7 0 [] [] [])] else h.2).map some):=fun h b e=>by
       obtain⟨e1,e2⟩:=HTv.o h b e
       have e3:h.2.length=1:=by have:=congrArg List.length e2; rw [List.length_map] at this; exact this.symm
       rw [if_pos e3,List.map_append,<- e2];exact⟨e1,rfl⟩
      clear Zr Zo Z4 hloc' hoB h6 h7 hv9 X8a T8a KV8a RT8a HW8 HS8 Uh hs78' hp8 HTv;obtain⟨⟨d0,d1,d2,d3,d4,d5,d6,d7,d8,d9,O,J,T,M,V⟩,⟨z0,z1,z2,z3,z4,z5,z6,z7,z8,z9,z10,z11,z12,z13,z14⟩,Ws⟩:=Qw (X9.o.box (p:=(db,_)) (xM));clear d0 d1 d2 d3 d5 d6 d7 d8 d9 O J T M V z0 z1 z2 z3 z5 z6 z7 z8 z9 z10 z11 z12 z13 z14;go_wp2_with fail;have X9':xQ (RX pb tb cap ts w (w9.setCell (aP db 4) (.slice I 2 H)) 0 (Zf R4) [(db,dO ⟨A.toArray⟩ ex (.slice va av.length vc) PM (.slice I 2 H) Zj F.line F.col),(mb,MV.obj ⟨ia,acc.length,ic,da,ad.length,dc⟩),(w.heap.size,Xf.obj)]):=X9.o.setB (by simp; omega) 4 _
      have T9':=Za (T9.o.own Qf Wj 4 (.slice I 2 H))
      have KV9':xQ (∀ c,W6.heap.size<=c->c<W7.heap.size->(w9.setCell (aP db 4) (.slice I 2 H)).heap[c]?=W7.heap[c]?):=fun c h1 h2=>(xH (by show c≠db; omega)).trans (KV9.o c h1 h2)
      have RT9':=Za (Mx RT9.o Dj 4 (.slice I 2 H));have hat9:([t1] ++ [some (Y7 0 [] [] [])]:List (Option Ty)).length=2:=rfl
      have hs9:xQ (W7.heap.size<=(w9.setCell (aP db 4) (.slice I 2 H)).heap.size):=by rw [Yg]; exact hs9a
      clear X9 T9 KV9 RT9 d4 z4 Ws hs9a;generalize w9.setCell (aP db 4) (.slice I 2 H)=W9 at X9' T9' KV9' RT9' hs9 ⊢;generalize ([t1] ++ [some (Y7 0 [] [] [])]:List (Option Ty))=at9 at RT9' HTt hat9;generalize ct ++ [[iP 0,sP,nP,nP]]=ct9 at RT9'
     case' inr =>
      have X9':=X8' 2;have T9':=T8' 2;have KV9':=KV8' 2;have RT9':xQ (Yq Qm W7.heap.size 94 4 none ((w8.setCell (aP db 3) (.string PM)).setCell (aP db 4) (.slice ta 2 tc)) (.slice ta 2 tc) ct [t1,t2]):=Mx (Mx RT8.o Dj 3 (.string PM)) Dj 4 (.slice ta 2 tc)
      have HTt:xQ (∀ h b,R4 = .inl (h,b)->pm=h.1/\[t1,t2]=(if h.2.length=1 then h.2 ++ [(Y7 0 [] [] [])] else h.2).map some):=fun h b e=>by
       obtain⟨e1,e2⟩:=HTv.o h b e
       have e3:h.2.length=2:=by have:=congrArg List.length e2; rw [List.length_map] at this; exact this.symm
       rw [if_neg (by omega),<- e2];exact⟨e1,rfl⟩
      have hat9:[t1,t2].length=2:=rfl;clear X8' T8' KV8' X8 T8 KV8 RT8 HTv;go_wp2_with fail
      have hs9:xQ (W7.heap.size<=((w8.setCell (aP db 3) (.string PM)).setCell (aP db 4) (.slice ta 2 tc)).heap.size):=by rw [Yg,Yg]; exact hs78
      clear d3 d4 z3 z4 Ws;generalize (w8.setCell (aP db 3) (.string PM)).setCell (aP db 4) (.slice ta 2 tc)=W9 at X9' T9' KV9' RT9' hs9 ⊢;generalize [t1,t2]=at9 at RT9' HTt hat9;obtain⟨I,hta9⟩:=xE ta;obtain⟨H,htc9⟩:=xE tc;obtain⟨ct9,hct9⟩:=xE ct;subst hta9 htc9 hct9
     all_goals
      refine(HC5.o _ X9'.o.at_).mono ?_;rintro e w10 ⟨rfl,z,C⟩;have X10:=Za (X9'.o.step z C);have T10:=Za (T9'.o.trans z)
      have KV10:xQ (∀ c,W6.heap.size<=c->c<W7.heap.size->w10.heap[c]?=W7.heap[c]?):=fun c h1 h2=>(z.keep c (by omega) (by have:=RT9'.o; have:=hs9.o; omega)).trans (KV9'.o c h1 h2)
      have RT10:=Za (RT9'.o.stay z (by omega));have hs10:W7.heap.size<=w10.heap.size:=Nat.le_trans hs9.o z.size;clear z C X9' T9' KV9' RT9' HC5;go_wp2_with fail;refine(HC6.o _ X10.o.at_).mono ?_;rintro e w11 ⟨z,C,x,rfl,hv⟩;have X11:=Za (X10.o.step z C);have T11:=Za (T10.o.trans z)
      have KV11:xQ (∀ c,W6.heap.size<=c->c<W7.heap.size->w11.heap[c]?=W7.heap[c]?):=fun c h1 h2=>(z.keep c (by omega) (by omega)).trans (KV10.o c h1 h2)
      have RT11:=Za (RT10.o.stay z (by omega));have HX11:=Za hv;have hs11:=z.size;clear z C X10 T10 KV10 RT10 HC6 hv;obtain⟨⟨d0,d1,d2,d3,d4,d5,d6,d7,d8,d9,O,J,T,M,V⟩,⟨z0,z1,z2,z3,z4,z5,z6,z7,z8,z9,z10,z11,z12,z13,z14⟩,Ws⟩:=Qw (X11.o.box (p:=(db,_)) (xM));clear d0 d1 d2 d3 d4 M V z0 z1 z2 z3 z4 z13 z14;go_wp2_with fail;have X11':xQ (RX pb tb cap ts w ((((((((w11.setCell (aP db 5) (iP x.k)).setCell (aP db 6) (.string x.tx)).setCell (aP db 7) (iP x.N)).setCell (aP db 8) (iP x.li)).setCell (aP db 9) (iP x.co)).setCell (aP db 10) (.slice x.ta x.tl x.tc)).setCell (aP db 11) (.slice x.na x.nl x.nc)).setCell (aP db 12) (.slice x.ka x.kl x.kc)) 0 (Zf R6) [(db,dO ⟨A.toArray⟩ ex (.slice va av.length vc) PM (.slice I 2 H) x F.line F.col),(mb,MV.obj ⟨ia,acc.length,ic,da,ad.length,dc⟩),(w.heap.size,Xf.obj)]):=X11.o.putN (by simp; omega) x
      have T11':xQ (Zl pb wr ((((((((w11.setCell (aP db 5) (iP x.k)).setCell (aP db 6) (.string x.tx)).setCell (aP db 7) (iP x.N)).setCell (aP db 8) (iP x.li)).setCell (aP db 9) (iP x.co)).setCell (aP db 10) (.slice x.ta x.tl x.tc)).setCell (aP db 11) (.slice x.na x.nl x.nc)).setCell (aP db 12) (.slice x.ka x.kl x.kc))):=((((((((T11.o.own Qf Wj 5 _).own Qf Wj 6 _).own Qf Wj 7 _).own Qf Wj 8 _).own Qf Wj 9 _).own Qf Wj 10 _).own Qf Wj 11 _).own Qf Wj 12 _)
      have KV11':xQ (∀ c,W6.heap.size<=c->c<W7.heap.size->((((((((w11.setCell (aP db 5) (iP x.k)).setCell (aP db 6) (.string x.tx)).setCell (aP db 7) (iP x.N)).setCell (aP db 8) (iP x.li)).setCell (aP db 9) (iP x.co)).setCell (aP db 10) (.slice x.ta x.tl x.tc)).setCell (aP db 11) (.slice x.na x.nl x.nc)).setCell (aP db 12) (.slice x.ka x.kl x.kc)).heap[c]?=W7.heap[c]?):=fun c h1 h2=>(I6 w11 x (by omega)).trans (KV11.o c h1 h2)
      have RT11':xQ (Yq Qm W7.heap.size 94 4 none ((((((((w11.setCell (aP db 5) (iP x.k)).setCell (aP db 6) (.string x.tx)).setCell (aP db 7) (iP x.N)).setCell (aP db 8) (iP x.li)).setCell (aP db 9) (iP x.co)).setCell (aP db 10) (.slice x.ta x.tl x.tc)).setCell (aP db 11) (.slice x.na x.nl x.nc)).setCell (aP db 12) (.slice x.ka x.kl x.kc)) (.slice I 2 H) ct9 at9):=(Mx (Mx (Mx (Mx (Mx (Mx (Mx (Mx RT11.o Dj 5 _) Dj 6 _) Dj 7 _) Dj 8 _) Dj 9 _) Dj 10 _) Dj 11 _) Dj 12 _)
      have HX11':xQ (Wl w10.heap.size ((((((((w11.setCell (aP db 5) (iP x.k)).setCell (aP db 6) (.string x.tx)).setCell (aP db 7) (iP x.N)).setCell (aP db 8) (iP x.li)).setCell (aP db 9) (iP x.co)).setCell (aP db 10) (.slice x.ta x.tl x.tc)).setCell (aP db 11) (.slice x.na x.nl x.nc)).setCell (aP db 12) (.slice x.ka x.kl x.kc)) x R6):=HX11.o.keep (I7 w11 db x) fun c h1 h2=>I6 w11 x (by omega)
      have hs11':w11.heap.size<=((((((((w11.setCell (aP db 5) (iP x.k)).setCell (aP db 6) (.string x.tx)).setCell (aP db 7) (iP x.N)).setCell (aP db 8) (iP x.li)).setCell (aP db 9) (iP x.co)).setCell (aP db 10) (.slice x.ta x.tl x.tc)).setCell (aP db 11) (.slice x.na x.nl x.nc)).setCell (aP db 12) (.slice x.ka x.kl x.kc)).heap.size:=I7 w11 db x;clear X11 T11 KV11 RT11 HX11 d5 d6 d7 d8 d9 O J T z5 z6 z7 z8 z9 z10 z11 z12 Ws
      generalize (((((((w11.setCell (aP db 5) (iP x.k)).setCell (aP db 6) (.string x.tx)).setCell (aP db 7) (iP x.N)).setCell (aP db 8) (iP x.li)).setCell (aP db 9) (iP x.co)).setCell (aP db 10) (.slice x.ta x.tl x.tc)).setCell (aP db 11) (.slice x.na x.nl x.nc)).setCell (aP db 12) (.slice x.ka x.kl x.kc)=W11 at X11' T11' KV11' RT11' HX11' hs11' ⊢;refine(HC7.o _ X11'.o.at_).mono ?_;rintro e w12 ⟨rfl,z,C⟩
      have X12:=Za (X11'.o.step z C);have T12:=Za (T11'.o.trans z);have hs12:=z.size
      have KV12:xQ (∀ c,W6.heap.size<=c->c<W7.heap.size->w12.heap[c]?=W7.heap[c]?):=fun c h1 h2=>(z.keep c (by omega) (by omega)).trans (KV11'.o c h1 h2)
      have RT12:=Za (RT11'.o.stay z (by omega));have HX12:xQ (Wl w10.heap.size w12 x R6):=HX11'.o.stay z (by omega);clear z C X11' T11' KV11' RT11' HX11' HC7;have RI12:=Za (RI.o.stay T12.o (show pb<mb+1 by omega));have RD12:=Za (RD.o.stay T12.o (show pb<mb+1 by omega))
      have hoR:∀ q,(Value.slice da ad.length dc).ownBlock=some q∨(Value.slice ia acc.length ic).ownBlock=some q->q<db+1:=fun q hq=>by
       rcases hq with hq | hq
       ·have:=(RD.o.own q hq).2; omega
       ·have:=(RI.o.own q hq).2; omega
      have Uj:xQ (Xt wV (mb+1) (fun q=>(Value.slice da ad.length dc).ownBlock=some q∨(Value.slice ia acc.length ic).ownBlock=some q) w12 [uP A,.bool ex,.slice va av.length vc,.string PM,.slice I 2 H,iP x.k,.string x.tx,iP x.N,iP x.li,iP x.co,.slice x.ta x.tl x.tc,.slice x.na x.nl x.nc,.slice x.ka x.kl x.kc,iP F.line,iP F.col] (Vy (Ng ts b))):=by
       refine Xt.new (lo:=db+1) ⟨rfl,fun D e=>?_⟩ (by omega) hoR
       cases hi:Ng ts b with
       | inr p=>rw [hi] at e; cases e
       | inl q =>
        obtain⟨D',c⟩:=q;obtain⟨s,vs,h,x',b2,b3,b4,b6,e2,e3,e4,e6,e7⟩:=HV.o.2 D' c hi;rw [hi] at e;injection e with e;obtain⟨e8,e9⟩:=HTt.o h b4 e4;have e10:=Ht.o vs b3 e3;obtain⟨m,hk⟩:=zhn (e9 ▸ RT12.o);obtain⟨a',c',e11,e12⟩:=bO (rep:=Sm) (fun _ _ _ D h=>h.2 D rfl) varQ_k (e10 ▸ RV7'.o);injection e11 with e11 _ _;have hvl2:vs.length<=8193:=Nc.o vs b3 e3;have e13:K4 (db+1) w12 va vs:=tG (Mq (e11 ▸ e12) (by omega) KV12.o) (by omega)
        have e14:av.length=vs.length:=by rw [e10,List.length_map]
        refine⟨A,ex,vs,va,vc,pm,I,H,_,x,x',F.line,F.col,m,by rw [e14,HPM.o],?_,hvl2,?_,e13,zI hk (by omega),(HX12.o x' b6 e6).lower (by omega)⟩
        ·rw [<- e,e7,Na.o,e2,e8,HTf.o]
         rfl
        ·have:=congrArg List.length e9
         rw [List.length_map,hat9] at this;exact this.symm
      clear hoR RI RD RT12 HX12 KV12 RV7';obtain⟨⟨d0,d1,d2,d3,d4,d5,d6,d7,d8,d9,O,J,T,M,V⟩,_,Ws⟩:=Qw (X12.o.box (p:=(db,_)) (xM));obtain⟨⟨m0,m1⟩,⟨f0,f1⟩,Uu⟩:=Nf (x:=⟨ia,acc.length,ic,da,ad.length,dc⟩) (X12.o.box (p:=(mb,_)) (xW _ xM))
      have Lw:ad.length<=8193:=by have:=HD.o.len; omega
      go_wp2_with(at_builtin; refine wpList_append_own_at _ rfl (.tmp 139) (.tmp 141) 38 rfl (mb+1) 66 i5 _ 15 224 underlying38 di dz0 dz1 dz2 rfl (by decide) _ _ _ rfl (RD12.o.ow.alloc _) (aP _ 0) 1 1 [uP A,.bool ex,.slice va av.length vc,.string PM,.slice I 2 H,iP x.k,.string x.tx,iP x.N,iP x.li,iP x.co,.slice x.ta x.tl x.tc,.slice x.na x.nl x.nc,.slice x.ka x.kl x.kc,iP F.line,iP F.col] rfl rfl (V2 _ _ _) (by simp [Value.oneCell']) (by unfold maxLen; omega) (by omega) (by simp; omega) ?_)
      intro v' w13 Zr Zo _ Z4;have hpl12:=X12.o.at_.ltp
      have hoD:∀ q,(Value.slice da ad.length dc).ownBlock=some q->mb+1<=q:=fun q hq=>(RD12.o.own q hq).1
      have Qu:=Za (RD12.o.put Zr Zo (Z4.imp_right fun e=>⟨_,e,by simp⟩) ((Zl.refl pb _).alloc hpl12 _) (by omega) rfl (Uj.o.stay ((Zl.refl pb _).alloc hpl12 _) (by omega)));have HRI:=Za ((RI12.o.stay ((Zl.refl pb _).alloc hpl12 (.cells #[uP A,.bool ex,.slice va av.length vc,.string PM,.slice I 2 H,iP x.k,.string x.tx,iP x.N,iP x.li,iP x.co,.slice x.ta x.tl x.tc,.slice x.na x.nl x.nc,.slice x.ka x.kl x.kc,iP F.line,iP F.col] 66)) (by omega)).beside (o':=v'.ownBlock) Zo (Z4.imp_right fun e=>⟨_,e,by simp,(Zr.lt _ e).2⟩) (by simp; omega))
      have X13:=Za ((X12.o.drop.alloc (.cells #[uP A,.bool ex,.slice va av.length vc,.string PM,.slice I 2 H,iP x.k,.string x.tx,iP x.N,iP x.li,iP x.co,.slice x.ta x.tl x.tc,.slice x.na x.nl x.nc,.slice x.ka x.kl x.kc,iP F.line,iP F.col] 66)).drop.grown Zo (fun q hq=>by have:=hoD q hq; omega) fun p hp q hq=>by
       have:=hoD q hq;simp only [List.mem_cons,List.not_mem_nil,or_false] at hp;rcases hp with rfl | rfl
       ·show q≠mb; omega
       ·show q≠w.heap.size; omega)
      obtain⟨da',dc',Gh⟩:=Yt Zr;subst Gh;obtain⟨g',Qp,hn⟩:=HD.o.next (by omega) HKi.o Jd;rw [HV.o.1] at hn;have HN:=Za hn;clear Zr Zo Z4 hn X12 RD12 RI12 Uj HD d0 d1 d2 d3 d4 d5 d6 d7 d8 d9 O J T M V Ws m0 m1 f0 f1 Uu hoD;obtain⟨⟨m0,m1⟩,⟨f0,f1⟩,Uu⟩:=Nf (x:=⟨ia,acc.length,ic,da,ad.length,dc⟩) (X13.o.box (p:=(mb,_)) (xM));go_wp2_with fail
      go_roundg g'
      case measure=>exact Qp
      case rel =>
       refine⟨Zf R7,da',dc',cd ++ [[uP A,.bool ex,.slice va av.length vc,.string PM,.slice I 2 H,iP x.k,.string x.tx,iP x.N,iP x.li,iP x.co,.slice x.ta x.tl x.tc,.slice x.na x.nl x.nc,.slice x.ka x.kl x.kc,iP F.line,iP F.col]],ad ++ [Vy (Ng ts b)],?_,?_,?_,HN⟩
       ·rw [List.length_append]
        exact X13.o.setB (fun p hp=>by rw [List.mem_singleton.1 hp]; show w.heap.size≠mb; omega) 1 _
       ·rw [List.length_append]
        exact Mx HRI.o (by omega) 1 _
       ·rw [List.length_append]
        exact Mx Qu.o (by omega) 1 _
def Ls (ts:List Tok):Yd->Yd
 | .inl a=>if (Zk ts a).kind == 0 then .inl a else .inr (7,(Zk ts a).line,(Zk ts a).col)
 | .inr p => .inr p
abbrev Es:Obj := .cells #[iP 0,iP 0,iP 0,iP 0] 47
theorem rend_c (pb tb cap d:Nat) (ts:List Tok) (S:Yd) (w:wD) (h:Z2 w pb tb cap ts d S) :
  Calls prog 46 #[qP pb] w fun r w'=>r = .returned (Da (lS (Ls ts S)) (cS (Ls ts S)) (eS (Ls ts S)))/\Zl pb w w'/\Z2 w' pb tb cap ts d (Ls ts S):=by
 have X0:=Za (Hb h Es)
 obtain⟨a,h⟩:=h
 have Bf:(a:Int)<(ts.length:Int):=by have:=h.lt; omega
 have Z:=h.ltp
 have Ug:=Nat.lt_trans h.tlt h.ltp
 have hS:(∃ b,S = .inl b/\b=a)∨∃ p,S = .inr p/\(p.1 == 0)=false:=by
  cases S with
  | inl b=>exact .inl ⟨b,rfl,h.live b rfl⟩
  | inr p=>exact .inr ⟨p,rfl,by have:=h.bad p rfl; simpa using this⟩
 have H0:=Za h
 have V:=(h.alloc Es).drew
 obtain⟨⟨c0,c1,c2,c3,c4,c5⟩,f1,f2,f3,f4,f5⟩:=V.cells
 obtain⟨Y,q1,q2,q3⟩:=V.toks a V.lt
 obtain⟨t,ht⟩:=xE (Zk ts a)
 rw [<- ht] at Y q1 q2 q3
 obtain⟨es,C⟩:=xE (eS S)
 rw [<- C] at c3
 have A:=Za C
 have HT:=Za ht
 have H1:=Za V
 have Mf:=And.intro c0 (And.intro c1 (And.intro c3 Y))
 have Uk:=Za hS
 clear ht C c0 c1 c2 c3 c4 c5 Y q1 q2 q3 h V hS f1 f2 f3 f4 f5
 rcases Uk.o with⟨b,Mg,rfl⟩ | ⟨p,F,Qf⟩
 ·obtain rfl:es=0:=by rw [A.o,Mg]; rfl
  have J:=Za Mg;clear Mg
  cases hk:(t.kind == 0)with
  | true =>
   go_enter func46,ntmps46;go_wp2_with fail
   go_region_held (fun W=>W.cell? (aP pb 0)=some (lP tb ts.length cap)/\W.cell? (aP pb 1)=some (iP b)/\W.cell? (aP pb 3)=some (iP 0)/\W.cell? (aP tb (b*4))=some (iP t.kind)) (with_reducible assumption) (fail)
   go_wp2_with fail;have XD:=Za (X0.o.drew.drew);have H2:=Za (H1.o.drew);obtain⟨⟨d0,d1,d2,j,d4,d5⟩,_⟩:=H2.o.cells;rw [<- A.o] at j;have M:=And.intro j (And.intro d4 d5);obtain⟨⟨r0,r1,r2,r3⟩,⟨f0,f1,f2,f3⟩,Xe⟩:=Yh (XD.o.box (p:=(w.heap.size,Es)) (by simp))
   have Y5:xQ (∀ o,((w.alloc o).drew.drew).cell? (aP pb 3)=some (iP 0)/\((w.alloc o).drew.drew).cell? (aP pb 4)=some (iP (lS S))/\((w.alloc o).drew.drew).cell? (aP pb 5)=some (iP (cS S))):=fun o=>by
    have:=((H0.o.alloc o).drew.drew).cells.1;rw [A.o];exact this.2.2.2
   clear Mf d0 d1 d2 j d4 d5
   go_region_held (fun W=>W.cell? (aP pb 3)=some (iP 0)/\W.cell? (aP pb 4)=some (iP (lS S))/\W.cell? (aP pb 5)=some (iP (cS S))) (first | with_reducible assumption | with_reducible exact Y5.o _) (fail)
   go_wp2_with fail;refine bodyPost_ret (results_cell_row rfl _ _ w.heap.size 47 _ (0,0) _ rfl (xL w _) underlying47 rfl (by kernel_rfl)) rfl ?_
   have H:Ls ts S=S:=by rw [J.o]; exact if_pos (by rw [<- HT.o]; exact hk)
   rw [H];refine⟨by rw [<- A.o],(Zl.of Z (Zq w _)).drew.drew,b,(H0.o.alloc _).drew.drew⟩
  | false =>
   go_enter func46,ntmps46;go_wp2_with fail
   go_region_held (fun W=>W.cell? (aP pb 0)=some (lP tb ts.length cap)/\W.cell? (aP pb 1)=some (iP b)/\W.cell? (aP pb 3)=some (iP 0)/\W.cell? (aP tb (b*4))=some (iP t.kind)) (with_reducible assumption) (fail)
   have Tt:(t.kind != 0)=true:=by rw [bne,hk]; rfl
   clear Mf;go_wp2_with fail;refine(wH pb tb cap d ts S 7 (by decide) _ ⟨_,H1.o⟩).mono ?_;rintro e w2 ⟨rfl,Zb,Zd⟩;have z:=Za ((X0.o.drew).step Zb Zd);clear Zb Zd
   have H:Ls ts S=Im ts 7 S:=by rw [J.o]; exact if_neg (by rw [<- HT.o,hk]; simp)
   rw [<- H] at z;clear H;obtain⟨a2,h2⟩:=z.o.at_;obtain⟨⟨d0,d1,d2,j,d4,d5⟩,_⟩:=h2.drew.cells;have M:=And.intro j (And.intro d4 d5);have HH2:=Za h2;obtain⟨⟨r0,r1,r2,r3⟩,⟨f0,f1,f2,f3⟩,Xe⟩:=Yh (z.o.drew.box (p:=(w.heap.size,Es)) (by simp));obtain⟨⟨g0,g1,g2,g3⟩,⟨k0,k1,k2,k3⟩,Gb⟩:=Yh (z.o.box (p:=(w.heap.size,Es)) (by simp));clear h2 d0 d1 d2 j d4 d5
   have Y5:xQ (∀ N I O T,((((w2.setCell (aP w.heap.size 0) N).setCell (aP w.heap.size 1) I).setCell (aP w.heap.size 2) O).setCell (aP w.heap.size 3) T).drew.cell? (aP pb 3)=some (iP (eS (Ls ts S)))/\((((w2.setCell (aP w.heap.size 0) N).setCell (aP w.heap.size 1) I).setCell (aP w.heap.size 2) O).setCell (aP w.heap.size 3) T).drew.cell? (aP pb 4)=some (iP (lS (Ls ts S)))/\((((w2.setCell (aP w.heap.size 0) N).setCell (aP w.heap.size 1) I).setCell (aP w.heap.size 2) O).setCell (aP w.heap.size 3) T).drew.cell? (aP pb 5)=some (iP (cS (Ls ts S)))):=fun N I O T=>by
    obtain⟨a3,h3⟩:=(z.o.at_.set4 Z N I O T).drew;exact h3.cells.1.2.2.2
   go_wp2_with fail
   go_region_held (fun W=>W.cell? (aP pb 3)=some (iP (eS (Ls ts S)))/\W.cell? (aP pb 4)=some (iP (lS (Ls ts S)))/\W.cell? (aP pb 5)=some (iP (cS (Ls ts S)))) (first | with_reducible assumption | with_reducible exact Y5.o _ _ _ _) (fail)
   go_wp2_with fail;refine bodyPost_ret (results_cell_row rfl _ _ w.heap.size 47 _ (0,0) _ rfl (set4 (z.o.box (p:=(w.heap.size,Es)) (by simp)) _ _ _ _) underlying47 rfl (by kernel_rfl)) rfl ?_;exact⟨rfl,(Q6 z.o.st Z (xR) _ _ _ _).drew,(z.o.at_.set4 Z _ _ _ _).drew⟩
 ·have he:es=p.1:=by rw [A.o,F]; rfl
  rw [<- he] at Qf;have HSp:=Za F;clear F he;go_enter func46,ntmps46;go_wp2_with fail;obtain⟨c0,c1,c3,Y⟩:=Mf;go_region;go_wp2_with fail;have XD:=Za (X0.o.drew.drew);have H2:=Za (H1.o.drew);obtain⟨⟨d0,d1,d2,j,d4,d5⟩,_⟩:=H2.o.cells;rw [<- A.o] at j;have M:=And.intro j (And.intro d4 d5);obtain⟨⟨r0,r1,r2,r3⟩,⟨f0,f1,f2,f3⟩,Xe⟩:=Yh (XD.o.box (p:=(w.heap.size,Es)) (by simp))
  have Y5:xQ (∀ o,((w.alloc o).drew.drew).cell? (aP pb 3)=some (iP es)/\((w.alloc o).drew.drew).cell? (aP pb 4)=some (iP (lS S))/\((w.alloc o).drew.drew).cell? (aP pb 5)=some (iP (cS S))):=fun o=>by
   have:=((H0.o.alloc o).drew.drew).cells.1;rw [A.o];exact this.2.2.2
  clear c0 c1 c3 Y d0 d1 d2 j d4 d5
  go_region_held (fun W=>W.cell? (aP pb 3)=some (iP es)/\W.cell? (aP pb 4)=some (iP (lS S))/\W.cell? (aP pb 5)=some (iP (cS S))) (first | with_reducible assumption | with_reducible exact Y5.o _) (fail)
  go_wp2_with fail;refine bodyPost_ret (results_cell_row rfl _ _ w.heap.size 47 _ (0,0) _ rfl (xL w _) underlying47 rfl (by kernel_rfl)) rfl ?_
  have H:Ls ts S=S:=by rw [HSp.o]; rfl
  rw [H];refine⟨by rw [A.o],(Zl.of Z (Zq w _)).drew.drew,a,(H0.o.alloc _).drew.drew⟩
end
def BegP (w:wD) (R:List Tok⊕(Int×Nat×Nat)) (e:Ending) (w':wD):Prop :=
 Below w.heap.size w w'/\match R with
 | .inr (x,li,co)=>∃ pb,e = .returned (.tuple #[qP pb,Da li co x])
 | .inl ts=>∃ pb g cap,e = .returned (.tuple #[qP pb,Da 0 0 0])/\w.heap.size<=pb/\Z2 w' pb g cap ts 0 (.inl 0)
def LexF (lo:Nat) (w':wD) (ga:oA) (gl li co:Nat) (x:Int):List Tok⊕(Int×Nat×Nat)->Prop
 | .inr p=>p=(x,li,co)
 | .inl ts=>∃ g,ga=some (aP g 0)/\gl=ts.length/\li=0/\co=0/\x=0/\Ie w' g ts/\g<w'.heap.size/\lo<=g
theorem zcz {w:wD} {R:List Tok⊕(Int×Nat×Nat)} {e:Ending} {w':wD} (h:Lx.LexPost w R e w'):Below w.heap.size w w'/\∃ (A:oA) (j F li co:Nat) (x:Int),e = .returned (.tuple #[.slice A j F,Da li co x])/\LexF w.heap.size w' A j li co x R:=by
 obtain⟨H,hm⟩:=h
 refine⟨H,?_⟩
 cases R with
 | inr p =>
  obtain⟨x,li,co⟩:=p;exact⟨none,0,0,li,co,x,hm,rfl⟩
 | inl ts =>
  obtain⟨g,cap,C,z⟩:=hm;have:=z.lt g rfl;exact⟨some (aP g 0),ts.length,cap,0,0,0,C,g,rfl,rfl,rfl,rfl,rfl,eC z,this.2,this.1⟩
abbrev N2 (li co:Nat) (x:Int):Obj := .cells #[iP 0,iP li,iP co,iP x] 47
theorem zgi (S:bA) (hS:S.size<=140737488351232) (w:wD) :
  Calls prog 44 #[.string S] w (BegP w (Pz S.data.toList)):=by
 have HX:=Za (fun wx=>Lx.lexR_c S hS wx)
 obtain⟨R,V⟩:=xE (Pz S.data.toList)
 rw [<- V] at HX ⊢
 have HR:=Za V
 clear V
 go_enter func44,ntmps44
 go_wp2_with fail
 refine(HX.o _).mono ?_
 intro e w2 Zh
 obtain⟨T,ga,gl,gc,li,co,x,rfl,hm⟩:=zcz Zh
 have Z:=Za T
 have HM:=Za hm
 have H:xQ (w2.heap[w.heap.size]?=some Es):=(T.block _ (by simp)).trans (xL _ _)
 clear Zh T hm
 have I:xQ (Below w.heap.size w (w2.alloc (N2 li co x))):=Zz (Zz (Zq _ _) Z.o) (Zq _ _)
 have j:xQ ((w2.alloc (N2 li co x)).heap[w2.heap.size]?=some (N2 li co x)):=xL _ _
 have M:xQ ((w2.alloc (N2 li co x)).heap[w.heap.size]?=some Es):=(xA (xB H.o)).trans H.o
 have C:xQ (LexF (w.heap.size+1) (w2.alloc (N2 li co x)) ga gl li co x R):=by
  have:=HM.o
  cases R with
  | inr p=>exact this
  | inl ts =>
   obtain⟨g,h1,h2,h3,h4,h5,O,J,h8⟩:=this;exact⟨g,h1,h2,h3,h4,h5,Lf O (xA J),by rw [xS]; omega,by rw [xS] at h8; omega⟩
 have F:w.heap.size<w2.heap.size:=xB H.o
 go_wp2_with fail
 obtain⟨db,N3⟩:=xE w2.heap.size
 rw [<- N3] at j F ⊢
 clear N3 HM H Z
 generalize w2.alloc (N2 li co x)=W2 at I j M C ⊢
 have Uo:=xB j.o
 have B4:xQ (∀ W:wD,W.heap[db]?=some (N2 li co x)->c4 W db (iP 0) (iP li) (iP co) (iP x)):=fun W h=>(Yh h).1
 have Mf:=B4.o W2 j.o
 have Kj:=xB M.o
 obtain⟨⟨r0,r1,r2,r3⟩,⟨f0,f1,f2,f3⟩,Xe⟩:=Yh M.o
 obtain⟨s0,s1,s2,s3⟩:=Mf
 go_region
 go_wp2_with fail
 have Wr:=set4 M.o (iP 0) (iP li) (iP co) (iP x)
 have z:((((W2.setCell (aP w.heap.size 0) (iP 0)).setCell (aP w.heap.size 1) (iP li)).setCell (aP w.heap.size 2) (iP co)).setCell (aP w.heap.size 3) (iP x)).heap.size=W2.heap.size:=Ak ..
 refine bodyPost_ret (Lx.results_tmp_cell rfl _ rfl ((xA (by rw [z]; exact Kj)).trans Wr) underlying47 (by kernel_rfl)) rfl ?_
 refine⟨((G4 I.o (xR) _ _ _ _).alloc (by rw [z]; exact I.o.size) _).drew,?_⟩
 have A:=C.o
 have N:=HR.o
 cases R with
 | inr p =>
  obtain rfl:p=(x,li,co):=A;exact⟨_,rfl⟩
 | inl ts =>
  obtain⟨g,rfl,rfl,rfl,rfl,rfl,O,J,h8⟩:=A;have ok:=uE N.symm
  have Y:g≠w.heap.size:=by omega
  refine⟨W2.heap.size,g,gc,rfl,by have:=I.o.size; omega,0,?_,ok.pos,(fun b e=>Sum.inl.inj e.symm),(fun _ e=>nomatch e),J,?_⟩
  ·have:=xL ((((W2.setCell (aP w.heap.size 0) (iP 0)).setCell (aP w.heap.size 1) (iP ((0:Nat):Int))).setCell (aP w.heap.size 2) (iP ((0:Nat):Int))).setCell (aP w.heap.size 3) (iP 0)) (rpO g ts.length gc 0 0 0 0 0)
   rw [z] at this;exact this
  ·exact Lf O ((xA (by rw [z]; exact J)).trans (Q1 Y _ _ _ _))
end Go.Proofs.YtoppemkjhhlegaaGreatDoor
