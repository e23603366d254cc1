/- Part. -/
import Derived.Test.YtoppemkjhhlegaaGreatDoorPart21
set_option maxRecDepth 100000
set_option maxHeartbeats 4000000
namespace Go.Proofs.YtoppemkjhhlegaaGreatDoor
open Go.Proofs.Tryz
open Go.RowKit
attribute [local go_sem ↓] Go.wp_at_zero Go.wp_at_succ
def Eg (ts:List Tok) (K:Nat->Pr Ty) (f a:Nat):Pr Ty :=
 if Zg ts a [40] then(K (a+1)).go fun t a=>(Ze ts a [41]).go fun _ a => .inl (t,a)
 else if Zg ts a [123] then
  if Zg ts (a+1) [125] then .inl (Y7 5 [] [] [],a+2)
  else(Z9 ts (Qy ts K) [44] f (a+1)).go fun l a=>(Ze ts a [125]).go fun _ a => .inl (Y7 5 [] (l.map (·.1)) (l.map (·.2)),a)
 else(Zu ts a).go fun s a => .inl (Y7 8 s [] [],a)
theorem zhr {ts:List Tok} {K:Nat->Pr Ty} {f:Nat} {S:Yd} {j:Nat} (F:j<5) (C:∀ i:Nat,i<j->Y2 ts S (Xb i)=false) (h:Y2 ts S (Xb j)=true):∃ a,S = .inl a/\Zi (Mw ts K f) S = .inl (Y7 j [] [] [],a+1):=by
 cases S with
 | inr p=>cases h
 | inl a =>
  refine⟨a,rfl,?_⟩;show Mw ts K f a=_;unfold Mw;have z:∀ i:Nat,i<j->Zg ts a (Xb i)=false:=C;have A:Zg ts a (Xb j)=true:=h
  match j,F with
  | 0,_=>rw [if_pos (show Zg ts a (Xb 0)=true from A)]; rfl
  | 1,_=>rw [if_neg (by rw [show Xb 0=Xb ((0:Nat):Int) from rfl,z 0 (by omega)]; simp),if_pos (show Zg ts a (Xb 1)=true from A)]; rfl
  | 2,_=>rw [if_neg (by rw [show Xb 0=Xb ((0:Nat):Int) from rfl,z 0 (by omega)]; simp),if_neg (by rw [show Xb 1=Xb ((1:Nat):Int) from rfl,z 1 (by omega)]; simp),if_pos (show Zg ts a (Xb 2)=true from A)]; rfl
  | 3,_=>rw [if_neg (by rw [show Xb 0=Xb ((0:Nat):Int) from rfl,z 0 (by omega)]; simp),if_neg (by rw [show Xb 1=Xb ((1:Nat):Int) from rfl,z 1 (by omega)]; simp),if_neg (by rw [show Xb 2=Xb ((2:Nat):Int) from rfl,z 2 (by omega)]; simp),if_pos (show Zg ts a (Xb 3)=true from A)]; rfl
  | 4,_=>rw [if_neg (by rw [show Xb 0=Xb ((0:Nat):Int) from rfl,z 0 (by omega)]; simp),if_neg (by rw [show Xb 1=Xb ((1:Nat):Int) from rfl,z 1 (by omega)]; simp),if_neg (by rw [show Xb 2=Xb ((2:Nat):Int) from rfl,z 2 (by omega)]; simp),if_neg (by rw [show Xb 3=Xb ((3:Nat):Int) from rfl,z 3 (by omega)]; simp),if_pos (show Zg ts a (Xb 4)=true from A)]; rfl
theorem zhq {ts:List Tok} {K:Nat->Pr Ty} {f:Nat} {S:Yd} (j:∀ i:Nat,i<5->Y2 ts S (Xb i)=false):Zi (Mw ts K f) S=Zi (Eg ts K f) S:=by
 cases S with
 | inr p=>rfl
 | inl a =>
  have h:∀ i:Nat,i<5->Zg ts a (Xb i)=false:=j;show Mw ts K f a=Eg ts K f a;unfold Mw Eg;rw [if_neg (by rw [show Xb 0=Xb ((0:Nat):Int) from rfl,h 0 (by omega)]; simp),if_neg (by rw [show Xb 1=Xb ((1:Nat):Int) from rfl,h 1 (by omega)]; simp),if_neg (by rw [show Xb 2=Xb ((2:Nat):Int) from rfl,h 2 (by omega)]; simp),if_neg (by rw [show Xb 3=Xb ((3:Nat):Int) from rfl,h 3 (by omega)]; simp),if_neg (by rw [show Xb 4=Xb ((4:Nat):Int) from rfl,h 4 (by omega)]; simp)]
abbrev Av:Obj := .cells #[.string ⟨#[97,110,121]⟩,.string ⟨#[110,117,108,108]⟩,.string ⟨#[98,111,111,108]⟩,.string ⟨#[105,110,116]⟩,.string ⟨#[115,116,114]⟩] 9
theorem oD {w:wD} {b i:Nat} (h:w.heap[b]?=some Av) (j:i<5):w.cell? (aP b i)=some (.string ⟨(Xb i).toArray⟩):=by
 rw [cell_of_row _ _ _ _ _ _ h]
 match i,j with
 | 0,_ | 1,_ | 2,_ | 3,_ | 4,_=>rfl
section
variable {pb tb cap d b c m : Nat} {ts : List Tok} {w0 w w4 : wD} {S : Yd} {bx : List (Nat × Obj)} {o : Option Nat} {K : Nat -> Pr Ty}
theorem RX.grown (h:RX pb tb cap ts w0 w d S bx) (z:w.grownBy w4 o) (A:∀ q,o=some q->w0.heap.size<=q) (C:∀ p ∈ bx,∀ q,o=some q->q≠p.1):RX pb tb cap ts w0 w4 d S bx:=by
 have hp:=h.hp
 refine⟨h.st.grown z h.hp A,?_,h.hp,fun p j=>?_⟩
 ·obtain⟨a,ha⟩:=h.at_
  exact⟨a,(z.block _ ha.ltp (fun e=>by have:=A _ e.symm; omega)).trans ha.blk,ha.lt,ha.live,ha.bad,ha.tlt,Lf ha.toks (z.block _ (Nat.lt_trans ha.tlt ha.ltp) (fun e=>by have:=A _ e.symm; have:=ha.tlt; omega))⟩
 ·exact⟨(z.block _ (xB (h.box j)) (fun e=>C p j _ e.symm rfl)).trans (h.box j),(h.has p j).2⟩
theorem RX.perm {bx':List (Nat×Obj)} (h:RX pb tb cap ts w0 w d S bx) (z:∀ p ∈ bx',p ∈ bx):RX pb tb cap ts w0 w d S bx':=⟨h.st,h.at_,h.hp,fun p j=>h.has p (z p j)⟩
theorem RX.put2 {k:Int} {nm:bA} {na ka z:oA} {nl nc kl kc A C:Nat} (h:RX pb tb cap ts w0 w d S ((b,Z7 k nm na nl nc ka kl kc) :: bx)) (I:∀ p ∈ bx,p.1≠b):RX pb tb cap ts w0 (w.setCell (aP b 2) (.slice z A C)) d S ((b,Z7 k nm z A C ka kl kc) :: bx):=by
 have H:=(h.has _ (xM)).2
 have F:=h.hp
 refine⟨h.st.own F H 2 _,h.at_.other (xT F H) 2 _,F,fun p j=>?_⟩
 rcases List.mem_cons.1 j with rfl | j
 ·exact⟨Y1 (h.box (xM)),H⟩
 ·exact⟨(xH (I p j)).trans (h.box (xW _ j)),(h.has p (xW _ j)).2⟩
theorem RX.put3 {k:Int} {nm:bA} {na ka z:oA} {nl nc kl kc C A:Nat} (h:RX pb tb cap ts w0 w d S ((b,Z7 k nm na nl nc ka kl kc) :: bx)) (I:∀ p ∈ bx,p.1≠b):RX pb tb cap ts w0 (w.setCell (aP b 3) (.slice z C A)) d S ((b,Z7 k nm na nl nc z C A) :: bx):=by
 have H:=(h.has _ (xM)).2
 have F:=h.hp
 refine⟨h.st.own F H 3 _,h.at_.other (xT F H) 3 _,F,fun p j=>?_⟩
 rcases List.mem_cons.1 j with rfl | j
 ·exact⟨Y1 (h.box (xM)),H⟩
 ·exact⟨(xH (I p j)).trans (h.box (xW _ j)),(h.has p (xW _ j)).2⟩
def G8 (ts:List Tok) (K:Nat->Pr Ty) (c:Nat):Pr Ty:=Zi K (Zf (Zi (fun a=>Ze ts a [58]) (Zf (Zu ts c))))
theorem mZ:Qy ts K c=(G8 ts K c).go fun t b => .inl ((Vd (Zu ts c),t),b):=by
 unfold Qy G8
 cases Zu ts c with
 | inr e=>rfl
 | inl q =>
  obtain⟨s,b⟩:=q;show(Ze ts b [58]).go _=(Zi K (Zf (Ze ts b [58]))).go _
  cases Ze ts b [58] with
  | inr e=>rfl
  | inl q=>rfl
theorem jX (j:∀ a x b,K a = .inl (x,b)->a<=b) {t:Ty} (h:G8 ts K c = .inl (t,b)):c<=b:=by
 unfold G8 at h
 cases h1:Zu ts c with
 | inr e=>rw [h1] at h; cases h
 | inl q =>
  obtain⟨s,b1⟩:=q;rw [h1] at h;have u1:=Eb h1;replace h:Zi K (Zf (Ze ts b1 [58])) = .inl (t,b):=h
  cases h2:Ze ts b1 [58] with
  | inr e=>rw [h2] at h; cases h
  | inl q =>
   obtain⟨s2,b2⟩:=q;rw [h2] at h;have u2:=tH h2;have:=j _ _ _ h;omega
theorem zba (A:Ym ts) {x:bS×Ty} (h:Qy ts K c = .inl (x,b)):x.1.length<=70000:=by
 rw [mZ] at h
 unfold G8 at h
 cases h1:Zu ts c with
 | inr e=>rw [h1] at h; cases h
 | inl q =>
  rw [h1] at h
  have j:q.1.length<=70000:=by
   unfold Zu at h1
   split at h1
   ·injection h1 with h1; rw [<- h1]; exact A.txt c
   ·cases h1
  cases h2:Zi K (Zf (Zi (fun a=>Ze ts a [58]) (Zf (Sum.inl q:Pr (bS)))))with
  | inr e=>rw [h2] at h; cases h
  | inl z =>
   rw [h2] at h;injection h with h;injection h with h _;rw [<- h];exact j
def Ap (ts:List Tok) (K:Nat->Pr Ty) (Rm:Pr (List (bS×Ty))) (acc:List (bS×Ty)) (m c:Nat):Prop :=
 Rm=(Z9 ts (Qy ts K) [44] m c).go fun l b => .inl (acc ++ l,b)
theorem jW:Ap ts K (Z9 ts (Qy ts K) [44] m c) [] m c:=by
 unfold Ap
 cases Z9 ts (Qy ts K) [44] m c <;> rfl
theorem jV {Rm:Pr (List (bS×Ty))} {acc:List (bS×Ty)} (h:Ap ts K Rm acc (m+1) c) (j:Y2 ts (Zf (G8 ts K c)) [44]=true):∃ t b,G8 ts K c = .inl (t,b)/\Ap ts K Rm (acc ++ [(Vd (Zu ts c),t)]) m (b+1):=by
 unfold Ap at h ⊢
 rw [Z9,mZ] at h
 cases hR:G8 ts K c with
 | inr e=>rw [hR] at j; cases j
 | inl q =>
  obtain⟨t,b⟩:=q;rw [hR] at j h;refine⟨t,b,rfl,?_⟩;rw [h];show Pr.go (if Zg ts b [44] then _ else _) _=_;rw [if_pos (show Zg ts b [44]=true from j)]
  cases Z9 ts (Qy ts K) [44] m (b+1)with
  | inr e=>rfl
  | inl q =>
   show Sum.inl (acc ++ (_ :: q.1),q.2)=Sum.inl ((acc ++ [_]) ++ q.1,q.2);simp
theorem jU {Rm:Pr (List (bS×Ty))} {acc:List (bS×Ty)} (h:Ap ts K Rm acc (m+1) c) (j:Y2 ts (Zf (G8 ts K c)) [44]=false):(∃ t b,G8 ts K c = .inl (t,b)/\Rm = .inl (acc ++ [(Vd (Zu ts c),t)],b))∨∃ e,G8 ts K c = .inr e/\Rm = .inr e:=by
 unfold Ap at h
 rw [Z9,mZ] at h
 cases hR:G8 ts K c with
 | inr e=>rw [hR] at h; exact .inr ⟨e,rfl,h⟩
 | inl q =>
  obtain⟨t,b⟩:=q;rw [hR] at j h;refine .inl ⟨t,b,rfl,?_⟩;rw [h];show Pr.go (if Zg ts b [44] then _ else _) _=_;rw [if_neg (by rw [show Zg ts b [44]=false from j]; simp)];rfl
end
theorem Hc (w:wD) (b o:Nat) (v:vL):Zl b w (w.setCell (aP b o) v):=(Zl.refl b w).set o v
theorem zhp (pb tb cap d:Nat) (ts:List Tok) (ok:Ym ts) (K:Nat->Pr Ty) (f:Nat) (hf:ts.length<=f+1) (hu:∀ a x b,K a = .inl (x,b)->a<=b)
  (hK:∀ S w,Z2 w pb tb cap ts d S->Calls prog 73 #[qP pb] w (N0 pb tb cap ts d w (Zi K S)))
  (S:Yd) (w:wD) (h:Z2 w pb tb cap ts d S) :
  Calls prog 109 #[qP pb] w (N0 pb tb cap ts d w (Zi (Mw ts K (f+1)) S)):=by
 obtain⟨R,hR⟩:=xE (Zi (Mw ts K (f+1)) S)
 rw [<- hR]
 have HR:=Za hR
 have HK:=Za hK
 have HU:=Za hu
 have OK:=Za ok
 have X0:=Za (Hb h Ww)
 have X1:=Za (X0.o.alloc Av)
 clear h hK ok hR hu X0
 go_enter func109,ntmps109
 go_wp2_with fail
 have Z:=X1.o.hp
 have X1':xQ (RX pb tb cap ts w ((w.alloc Ww).alloc Av) d S [(w.heap.size+1,Av),(w.heap.size,Ww)]):=by
  have:=X1.o;rw [xS] at this;exact this
 clear X1
 go_loopw [4] (fun i wr=>∃ j:Nat,j<=5/\i=iP j/\xQ (RX pb tb cap ts w wr d S [(w.heap.size+1,Av),(w.heap.size,Ww)])/\xQ (∀ i:Nat,i<j->Y2 ts S (Xb i)=false)) (fun i _=>5 - (intOf i).toNat)
 case atStart=>exact⟨0,by omega,rfl,X1',fun i hi=>by omega⟩
 case round =>
  clear X1';obtain⟨j,hj,rfl,X,HN⟩:=hrel;by_cases hj5:j<5
  ·have hj5':(j:Int)<5:=by omega
   have Dh:=oD (X.o.box (p:=(w.heap.size+1,Av)) (by simp)) hj5
   obtain⟨Bj,hBj⟩:∃ Bj:ByteArray,Bj=⟨(Xb (j:Int)).toArray⟩:=⟨_,rfl⟩
   have HC:=Za (Vi pb tb cap d ts S (Xb (j:Int)) _ X.o.at_ OK.o);rw [<- hBj] at Dh;unfold uP at HC;rw [<- hBj] at HC;clear hBj;go_wp2_with fail;refine HC.o.mono ?_;rintro e w2 ⟨rfl,A,Y⟩;have X2:=Za (X.o.step A Y);clear A Y HC Dh X
   cases hs:Y2 ts S (Xb (j:Int))with
   | true =>
    rw [hs,if_pos rfl] at X2;obtain⟨a,rfl,hRa⟩:=zhr (K:=K) (f:=f+1) hj5 HN.o hs
    have F5:xQ (R = .inl (Y7 j [] [] [],a+1)):=by rw [HR.o]; exact hRa
    clear hs hRa;obtain⟨⟨r0,r1,r2,r3⟩,⟨f0,f1,f2,f3⟩,Xe⟩:=Yh (X2.o.box (p:=(w.heap.size,Ww)) (by simp));go_wp2_with fail;refine r94 rfl rfl (set4 (X2.o.box (p:=(w.heap.size,Ww)) (by simp)) _ _ _ _) rfl ⟨Q6 X2.o.st Z (xR) _ _ _ _,?_,j,⟨#[]⟩,none,0,0,none,0,0,rfl,?_⟩
    ·rw [F5.o]
     exact X2.o.at_.set4 Z _ _ _ _
    ·intro y c C
     rw [F5.o] at C;injection C with C;injection C with C _;rw [<- C];exact zX _ _ _ _ (by match j,hj5 with | 0,_ | 1,_ | 2,_ | 3,_ | 4,_=>rfl) (by decide)
   | false =>
    rw [hs,if_neg (by simp)] at X2
    have Vr:xQ (∀ i:Nat,i<j+1->Y2 ts S (Xb i)=false):=fun i hi=>by
     by_cases e:i=j
     ·rw [e]; exact hs
     ·exact HN.o i (by omega)
    clear hs;go_wp2_with fail
    go_roundw
    case rel=>exact⟨j+1,by omega,by go_num,X2,Vr⟩
    case measure=>simp [intOf]; omega
  ·have hj5':¬ (j:Int)<5:=by omega
   have V8:xQ (R=Zi (Eg ts K (f+1)) S):=by rw [HR.o]; exact zhq fun i hi=>HN.o i (by omega)
   clear HN;go_wp2_with fail;refine(Vi pb tb cap d ts S [40] _ X.o.at_ OK.o).mono ?_;rintro e w2 ⟨rfl,A,Y⟩;have X2:=Za (X.o.step A Y);clear A Y X
   cases hs:Y2 ts S [40] with
   | true =>
    rw [hs,if_pos rfl] at X2
    obtain⟨a,rfl⟩:∃ a,S = .inl a:=by cases S with
     | inl a=>exact⟨a,rfl⟩
     | inr p=>cases hs
    obtain⟨R1,Xj⟩:=xE (K (a+1))
    have F5:xQ (R=R1.go fun t a=>(Ze ts a [41]).go fun _ a => .inl (t,a)):=by
     rw [V8.o,Xj];show Eg ts K (f+1) a=_;unfold Eg;rw [if_pos (show Zg ts a [40]=true from hs)]
    have HC:=Za (HK.o _ _ X2.o.at_);have e1:Zi K (Nr (.inl a))=R1:=Xj.symm;rw [e1] at HC;clear hs Xj e1 V8 HR;go_wp2_with fail;refine HC.o.mono ?_;rintro e w3 ⟨A,Y,k1,F,J,I,N,O,M,H,rfl,hv⟩;have X3:=Za ((X2.o.step A Y).alloc (Z7 k1 F J I N O M H));have hwl:w.heap.size+1<=w2.heap.size:=xB (X2.o.box (p:=(w.heap.size,Ww)) (by simp));have F6:=Za ((hv.alloc (Z7 k1 F J I N O M H)).lower hwl)
    have hwl3:w.heap.size<w3.heap.size:=xT hwl A.size;clear A Y hv HC X2;go_wp2_with fail;generalize w3.alloc (Z7 k1 F J I N O M H)=W3 at X3 F6 ⊢;generalize w3.heap.size=tb2 at X3 hwl3 ⊢;refine(Td pb tb cap d ts (Zf R1) [41] _ X3.o.at_ OK.o).mono ?_;rintro e w4 ⟨rfl,A,Y⟩;have X4:=Za (X3.o.step A Y);have Kw:=Za (F6.o.stay A (by omega));clear A Y X3 F6;obtain⟨⟨r0,r1,r2,r3⟩,⟨f0,f1,f2,f3⟩,Xe⟩:=Yh (X4.o.box (p:=(w.heap.size,Ww)) (by simp))
    obtain⟨⟨t0,t1,t2,t3⟩,_,Ug⟩:=Yh (X4.o.box (p:=(tb2,Z7 k1 F J I N O M H)) (by simp))
    have Z1:¬ tb2=w.heap.size:=by omega
    go_wp2_with fail;refine r94 rfl rfl (set4 (X4.o.box (p:=(w.heap.size,Ww)) (by simp)) _ _ _ _) rfl ⟨Q6 X4.o.st Z (xR) _ _ _ _,?_,k1,F,J,I,N,O,M,H,rfl,?_⟩
    ·have:=X4.o.at_.set4 Z (iP k1) (.string F) (.slice J I N) (.slice O M H)
     have e2:Zf R=Zf (Zi (fun a=>Ze ts a [41]) (Zf R1)):=by
      rw [F5.o]
      cases R1 with
      | inr p=>rfl
      | inl q =>
       show Zf ((Ze ts q.2 [41]).go _)=Zf (Ze ts q.2 [41])
       cases Ze ts q.2 [41] <;> rfl
     rw [e2];exact this
    ·intro y c C
     rw [F5.o] at C
     cases Xj:R1 with
     | inr p=>rw [Xj] at C; cases C
     | inl q =>
      rw [Xj] at C;replace C:(Ze ts q.2 [41]).go (fun _ a => .inl (q.1,a)) = .inl (y,c):=C
      cases hw:Ze ts q.2 [41] with
      | inr p=>rw [hw] at C; cases C
      | inl z =>
       rw [hw] at C;injection C with C;injection C with C _;rw [<- C];exact Yk.lower (Yk.set4 (Kw.o q.1 q.2 Xj) (by omega) _ _ _ _) (by omega)
   | false =>
    rw [hs,if_neg (by simp)] at X2;have HNo:=Za hs;clear hs;go_wp2_with fail;refine(Vi pb tb cap d ts S [123] _ X2.o.at_ OK.o).mono ?_;rintro e w3 ⟨rfl,A,Y⟩;have X3:=Za (X2.o.step A Y);clear A Y X2
    cases hs:Y2 ts S [123] with
    | false =>
     rw [hs,if_neg (by simp)] at X3;obtain⟨R1,Xj⟩:=xE (Zi (Zu ts) S)
     have F5:xQ (R=R1.go fun s a => .inl (Y7 8 s [] [],a)):=by
      rw [V8.o,Xj]
      cases S with
      | inr p=>rfl
      | inl a =>
       show Eg ts K (f+1) a=_;unfold Eg;rw [if_neg (by rw [show Zg ts a [40]=false from HNo.o]; simp),if_neg (by rw [show Zg ts a [123]=false from hs]; simp)];rfl
     have HC:=Za (Gm pb tb cap d ts S _ X3.o.at_ OK.o);rw [<- Xj] at HC
     have Gz:xQ (∀ s b,R1 = .inl (s,b)->s.length<=70000):=fun s b e=>by
      rw [Xj] at e
      cases S with
      | inr p=>cases e
      | inl a =>
       have e':Zu ts a = .inl (s,b):=e;unfold Zu at e'
       split at e'
       ·injection e' with e'; injection e' with e' _; rw [<- e']; exact OK.o.txt a
       ·cases e'
     clear hs Xj V8 HR HNo;go_wp2_with fail;refine HC.o.mono ?_;rintro e w4 ⟨rfl,A,Y⟩;have X4:=Za (X3.o.step A Y);clear A Y HC X3;obtain⟨⟨r0,r1,r2,r3⟩,⟨f0,f1,f2,f3⟩,Xe⟩:=Yh (X4.o.box (p:=(w.heap.size,Ww)) (by simp));go_wp2_with fail;refine r94 rfl rfl (set4 (X4.o.box (p:=(w.heap.size,Ww)) (by simp)) _ _ _ _) rfl ⟨Q6 X4.o.st Z (xR) _ _ _ _,?_,8,_,none,0,0,none,0,0,rfl,?_⟩
     ·have:=X4.o.at_.set4 Z (iP 8) (.string ⟨(Vd R1).toArray⟩) nP nP
      have e2:Zf R=Zf R1:=by rw [F5.o]; cases R1 <;> rfl
      rw [e2];exact this
     ·intro y c C
      rw [F5.o] at C
      cases Xj:R1 with
      | inr p=>rw [Xj] at C; cases C
      | inl q =>
       rw [Xj] at C;injection C with C;injection C with C _;rw [<- C];exact zX _ _ _ _ (by decide) (Nat.le_trans (Gz.o q.1 q.2 Xj) (by decide))
    | true =>
     rw [hs,if_pos rfl] at X3
     obtain⟨a,rfl⟩:∃ a,S = .inl a:=by cases S with
      | inl a=>exact⟨a,rfl⟩
      | inr p=>cases hs
     have F5:xQ (R=if Zg ts (a+1) [125] then .inl (Y7 5 [] [] [],a+2)else(Z9 ts (Qy ts K) [44] (f+1) (a+1)).go fun l a=>(Ze ts a [125]).go fun _ a => .inl (Y7 5 [] (l.map (·.1)) (l.map (·.2)),a)):=by
      rw [V8.o];show Eg ts K (f+1) a=_;unfold Eg;rw [if_neg (by rw [show Zg ts a [40]=false from HNo.o]; simp),if_pos (show Zg ts a [123]=true from hs)]
     clear hs V8 HR HNo;have X4:=Za (X3.o.alloc (Z7 5 ⟨#[]⟩ none 0 0 none 0 0));have hwl3:w.heap.size<w3.heap.size:=xB (X3.o.box (p:=(w.heap.size,Ww)) (by simp));have hwl4:w.heap.size+1<w3.heap.size:=xB (X3.o.box (p:=(w.heap.size+1,Av)) (by simp));clear X3;go_wp2_with fail;generalize w3.alloc (Z7 5 ⟨#[]⟩ none 0 0 none 0 0)=W4 at X4 ⊢;generalize w3.heap.size=tb2 at X4 hwl3 hwl4 ⊢
     refine(Vi pb tb cap d ts (.inl (a+1)) [125] _ X4.o.at_ OK.o).mono ?_;rintro e w5 ⟨rfl,A,Y⟩;have X5:=Za (X4.o.step A Y);clear A Y X4
     cases hs:Y2 ts (.inl (a+1)) [125] with
     | true =>
      rw [hs,if_pos rfl] at X5
      have M1:xQ (R = .inl (Y7 5 [] [] [],a+2)):=by rw [F5.o,if_pos (show Zg ts (a+1) [125]=true from hs)]; exact rfl
      clear hs F5;obtain⟨⟨r0,r1,r2,r3⟩,⟨f0,f1,f2,f3⟩,Xe⟩:=Yh (X5.o.box (p:=(w.heap.size,Ww)) (by simp));obtain⟨⟨t0,t1,t2,t3⟩,_,Ug⟩:=Yh (X5.o.box (p:=(tb2,Z7 5 ⟨#[]⟩ none 0 0 none 0 0)) (by simp))
      have Z1:¬ tb2=w.heap.size:=by omega
      go_wp2_with fail;refine r94 rfl rfl (set4 (X5.o.box (p:=(w.heap.size,Ww)) (by simp)) _ _ _ _) rfl ⟨Q6 X5.o.st Z (xR) _ _ _ _,?_,5,⟨#[]⟩,none,0,0,none,0,0,rfl,?_⟩
      ·rw [M1.o]
       exact X5.o.at_.set4 Z _ _ _ _
      ·intro y c C
       rw [M1.o] at C;injection C with C;injection C with C _;rw [<- C];exact zX _ _ _ _ (by decide) (by decide)
     | false =>
      rw [hs,if_neg (by simp)] at X5
      have M1:xQ (R=(Z9 ts (Qy ts K) [44] (f+1) (a+1)).go fun l a=>(Ze ts a [125]).go fun _ a => .inl (Y7 5 [] (l.map (·.1)) (l.map (·.2)),a)):=by rw [F5.o,if_neg (by rw [show Zg ts (a+1) [125]=false from hs]; simp)]; exact rfl
      clear hs F5;obtain⟨Rm,M5⟩:=xE (Z9 ts (Qy ts K) [44] (f+1) (a+1));have HRm:=Za M5
      have HF0:xQ (Ap ts K Rm [] (f+1) (a+1)):=by rw [M5]; exact jW
      rw [<- M5] at M1;clear M5;obtain⟨i0,hi,Xr,Xg,Xw⟩:=info_parts Iy;obtain⟨s0,si,sz0,sz1,sz2⟩:=info_parts Ix;go_wp2_with fail
      go_loopg [] (ts.length) (fun gk wr=>∃ (c m:Nat) (acc:List (bS×Ty)) (na ka:oA) (nc kc:Nat) (cn ck:List (List vL)) (ns:List (bS)) (ks:List (Option Ty)),xQ (ns=acc.map (·.1)/\ks=acc.map (fun p=>some p.2))/\xQ (RX pb tb cap ts w wr d (.inl c) [(tb2,Z7 5 ⟨#[]⟩ na ns.length nc ka ks.length kc),(w.heap.size+1,Av),(w.heap.size,Ww)])/\xQ (Yq Mb (tb2+1) 9 1 (Value.slice ka ks.length kc).ownBlock wr (.slice na ns.length nc) cn ns)/\xQ (Yq Qm (tb2+1) 94 4 (Value.slice na ns.length nc).ownBlock wr (.slice ka ks.length kc) ck ks)/\xQ (Ap ts K Rm acc m c)/\xQ (ts.length<=c+m)/\xQ (acc.length<=c)/\xQ (ts.length - c<=gk))
      case atStart =>
       exact⟨a+1,f+1,[],none,none,0,0,[],[],[],[],⟨rfl,rfl⟩,X5,Ha _ _ _ _ _,Ha _ _ _ _ _,HF0,(by show _<=_; omega),xZ _,(by show _<=_; omega)⟩
      case round =>
       clear X5 HF0;obtain⟨c,m,acc,na,ka,nc,kc,cn,ck,ns,ks,Po,X,HN,HV,HF,HM,HA,HG⟩:=hrel
       have Xl:c<ts.length:=by
        obtain⟨a',ha⟩:=X.o.at_;have e1:=ha.live c rfl;have:=ha.lt;omega
       obtain⟨m,rfl⟩:∃ q,m=q+1:=⟨m - 1,by have:=HM.o; omega⟩
       have hlen:ts.length<=8193:=OK.o.len
       have Yb:ns.length<=8193:=by have:=HA.o; rw [Po.o.1,List.length_map]; omega
       have Z8:ks.length<=8193:=by have:=HA.o; rw [Po.o.2,List.length_map]; omega
       have Uf:tb2<wr.heap.size:=xB (X.o.box (p:=(tb2,Z7 5 ⟨#[]⟩ na ns.length nc ka ks.length kc)) (by simp))
       have V4:pb<tb2+1:=by omega
       obtain⟨nmv,Bn⟩:=xE (Vd (Zu ts c));obtain⟨R3,Mu⟩:=xE (G8 ts K c);have Na:=Za Bn;have Yz:=Za Mu;clear Bn Mu
       have U0:xQ (Calls prog 56 #[qP pb] wr fun r w'=>r = .returned (uP nmv)/\Zl pb wr w'/\Z2 w' pb tb cap ts d (Zf (Zu ts c))):=by
        rw [Na.o];exact Gm pb tb cap d ts (.inl c) wr X.o.at_ OK.o
       go_wp2_with fail;refine U0.o.mono ?_;rintro e w1 ⟨rfl,A,Y⟩;have X1:=Za (X.o.step A Y);have B1:=Za (HN.o.stay A V4);have HV1:=Za (HV.o.stay A V4);have htb1:tb2<w1.heap.size:=xT Uf A.size;clear A Y X HN HV U0;go_wp2_with fail;refine(Td pb tb cap d ts _ [58] _ X1.o.at_ OK.o).mono ?_;rintro e w2 ⟨rfl,A,Y⟩;have X2:=Za (X1.o.step A Y);have Vr:=Za (B1.o.stay A V4)
       have Lo:=Za (HV1.o.stay A V4);have htb2:tb2<w2.heap.size:=xT htb1 A.size;clear A Y X1 B1 HV1;have Nx:=Za (HK.o _ _ X2.o.at_);rw [show Zi K (Zf (Zi (fun a=>Ze ts a [58]) (Zf (Zu ts c))))=R3 from Yz.o.symm] at Nx;go_wp2_with fail;refine Nx.o.mono ?_;rintro e w3 ⟨A,Y,k1,F,J,I,N,O,M,H,rfl,hv⟩
       have hnO:∀ q,(Value.slice na ns.length nc).ownBlock=some q->tb2+1<=q/\q<w3.heap.size:=fun q hq=>(Vr.o.stay A V4).own q hq
       have hkO:∀ q,(Value.slice ka ks.length kc).ownBlock=some q->tb2+1<=q/\q<w3.heap.size:=fun q hq=>(Lo.o.stay A V4).own q hq
       have HNO:=Za hnO;have HKO:=Za hkO;have Dq:=A.trans ((Zl.refl pb w3).alloc (xT X2.o.at_.ltp A.size) (Z7 k1 F J I N O M H));have X3:=Za ((X2.o.step A Y).alloc (Z7 k1 F J I N O M H));have Lj:=Za (Vr.o.stay Dq V4);have F6:=Za (Lo.o.stay Dq V4);have Uj:=Za ((Xt.new (rep:=Qm) (B:=tb2+1) (wR hv) htb2 (G:=fun q=>(Value.slice ka ks.length kc).ownBlock=some q∨(Value.slice na ns.length nc).ownBlock=some q) fun q hq=>Lo.o.all q hq).stay ((Zl.refl pb w3).alloc (xT X2.o.at_.ltp A.size) (Z7 k1 F J I N O M H)) V4)
       have htb3:tb2<w3.heap.size:=xT htb2 A.size;clear A Y hv Nx X2 Vr Lo hnO hkO Dq
       have hwl:w3.heap.size<(w3.alloc (Z7 k1 F J I N O M H)).heap.size:=by simp
       obtain⟨⟨t0,t1,t2,t3⟩,⟨f0,f1,f2,f3⟩,Ug⟩:=Yh (X3.o.box (p:=(tb2,Z7 5 ⟨#[]⟩ na ns.length nc ka ks.length kc)) (by simp))
       have Uh:xQ (∀ j u,([uP nmv]:List vL)[j]?=some u->((w3.alloc (Z7 k1 F J I N O M H)).alloc (.cells #[uP nmv] 9)).cell? (((aP (w3.heap.size+1) 0):Addr).add j)=some u):=fun j u h=>by
        have:=V2 (w3.alloc (Z7 k1 F J I N O M H)) [uP nmv] 9 j u h;rw [xS] at this;exact this
       go_wp2_with(at_builtin; refine wpList_append_own_at _ rfl (.tmp 53) (.tmp 55) 25 rfl (tb2+1) 9 s0 _ 1 16 underlying25 si sz0 sz1 sz2 rfl (by decide) _ _ _ rfl (Lj.o.ow.alloc _) (aP _ 0) 1 1 [uP nmv] rfl rfl Uh.o (by simp [Value.oneCell']) (by unfold maxLen; omega) (by omega) (by simp; omega) ?_)
       intro vn' w4 Zr Zo _ Z4;have Bo:pb<(w3.alloc (Z7 k1 F J I N O M H)).heap.size:=X3.o.at_.ltp;have HN4:=Za (Lj.o.put (x:=nmv) (rep:=Mb) Zr Zo (Z4.imp_right fun e=>⟨_,e,by simp⟩) ((Zl.refl pb _).alloc Bo _) V4 rfl ((Xt.new (rep:=Mb) (lo:=w3.heap.size+1) (wx:=w3.alloc (Z7 k1 F J I N O M H)) rfl (by omega) fun q hq=>by have:=Lj.o.all q hq; simpa using this).stay ((Zl.refl pb _).alloc Bo _) V4))
       have Kw:=Za ((F6.o.stay ((Zl.refl pb _).alloc Bo (.cells #[uP nmv] 9)) V4).beside (o':=vn'.ownBlock) Zo (Z4.imp_right fun e=>⟨_,e,by simp,(Zr.lt _ e).2⟩) (by simp; omega))
       have HMd4:=Za ((Uj.o.stay ((Zl.refl pb _).alloc Bo (.cells #[uP nmv] 9)) V4).grown (G':=fun q=>(Value.slice ka ks.length kc).ownBlock=some q∨vn'.ownBlock=some q) Zo (fun q hq => .inr hq) fun q hq=>by
        rcases hq with hq | hq
        ·exact .inl (.inl hq)
        ·rcases Z4 with e | e
         ·exact .inl (.inr (e ▸ hq))
         ·rw [e] at hq; injection hq with hq; exact .inr (by rw [<- hq]; simp))
       have X4:=Za ((X3.o.alloc (.cells #[uP nmv] 9)).drop.grown Zo (fun q hq=>by have:=HNO.o q hq; omega) fun p Z q hq=>by
        have:=HNO.o q hq;simp only [List.mem_cons,List.not_mem_nil,or_false] at Z;rcases Z with rfl | rfl | rfl | rfl
        ·show q≠w3.heap.size; omega
        ·show q≠tb2; omega
        ·show q≠w.heap.size+1; omega
        ·show q≠w.heap.size; omega)
       obtain⟨T,V,rfl⟩:=Yt Zr;clear Zr Zo Z4 Uh t0 t1 t2 t3 f0 f1 f2 f3 Ug hwl Bo Lj F6 Uj X3 HNO HKO;generalize w3.heap.size=nb at X4 htb3 ⊢;obtain⟨⟨t0,t1,t2,t3⟩,⟨f0,f1,f2,f3⟩,Ug⟩:=Yh (X4.o.box (p:=(tb2,Z7 5 ⟨#[]⟩ na ns.length nc ka ks.length kc)) (by simp));obtain⟨⟨b0,b1,b2,b3⟩,_,Yo⟩:=Yh (X4.o.box (p:=(nb,Z7 k1 F J I N O M H)) (by simp))
       have Z1:¬ nb=tb2:=by omega
       have hne':¬ tb2=nb:=by omega
       have X5:xQ (RX pb tb cap ts w (w4.setCell (aP tb2 2) (.slice T (ns.length+1) V)) d (Zf R3) [(tb2,Z7 5 ⟨#[]⟩ T (ns.length+1) V ka ks.length kc),(nb,Z7 k1 F J I N O M H),(w.heap.size+1,Av),(w.heap.size,Ww)]):=by
        refine RX.put2 (na:=na) (nl:=ns.length) (nc:=nc) (X4.o.perm (fun p Z=>?_)) fun p Z=>?_
        ·simp only [List.mem_cons,List.not_mem_nil,or_false] at Z ⊢
         rcases Z with h | h | h | h
         ·exact .inr (.inl h)
         ·exact .inl h
         ·exact .inr (.inr (.inl h))
         ·exact .inr (.inr (.inr h))
        ·simp only [List.mem_cons,List.not_mem_nil,or_false] at Z
         rcases Z with rfl | rfl | rfl
         ·show nb≠tb2; omega
         ·show w.heap.size+1≠tb2; omega
         ·show w.heap.size≠tb2; omega
       have Hk:=Za (HN4.o.stay (Hc w4 tb2 2 (.slice T (ns.length+1) V)) (xU _));have Lp:=Za (Kw.o.stay (Hc w4 tb2 2 (.slice T (ns.length+1) V)) (xU _));have HMd5:=Za (HMd4.o.stay (Hc w4 tb2 2 (.slice T (ns.length+1) V)) (xU _));clear HN4 Kw HMd4 X4
       have Uh:xQ (∀ j u,([iP k1,.string F,.slice J I N,.slice O M H]:List vL)[j]?=some u->((w4.setCell (aP tb2 2) (.slice T (ns.length+1) V)).alloc (.cells #[iP k1,.string F,.slice J I N,.slice O M H] 94)).cell? ((aP w4.heap.size 0).add j)=some u):=fun j u h=>by
        have:=V2 (w4.setCell (aP tb2 2) (.slice T (ns.length+1) V)) [iP k1,.string F,.slice J I N,.slice O M H] 94 j u h;rw [Yg] at this;exact this
       go_wp2_with(at_builtin; refine wpList_append_own_at _ rfl (.tmp 59) (.tmp 61) 61 rfl (tb2+1) 94 i0 _ 4 72 underlying61 hi Xr Xg Xw rfl (by decide) _ _ _ rfl (Lp.o.ow.alloc _) (aP _ 0) 1 1 [iP k1,.string F,.slice J I N,.slice O M H] rfl rfl Uh.o (by simp [Value.oneCell']) (by unfold maxLen; omega) (by omega) (by simp; omega) ?_)
       intro vk' w6 Zr Zo _ Z4;have Bo:pb<(w4.setCell (aP tb2 2) (.slice T (ns.length+1) V)).heap.size:=X5.o.at_.ltp;have Hr:=Za (Lp.o.put (x:=Vy R3) (rep:=Qm) Zr Zo (Z4.imp_right fun e=>⟨_,e,by simp⟩) ((Zl.refl pb _).alloc Bo _) V4 rfl (HMd5.o.stay ((Zl.refl pb _).alloc Bo _) V4));have Hl:=Za ((Hk.o.stay ((Zl.refl pb _).alloc Bo (.cells #[iP k1,.string F,.slice J I N,.slice O M H] 94)) V4).beside (o':=vk'.ownBlock) Zo (Z4.imp_right fun e=>⟨_,e,by simp,(Zr.lt _ e).2⟩) (by simp; omega))
       have X6:xQ (RX pb tb cap ts w w6 d (Zf R3) [(tb2,Z7 5 ⟨#[]⟩ T (ns.length+1) V ka ks.length kc),(w.heap.size+1,Av),(w.heap.size,Ww)]):=by
        refine RX.grown (RX.perm (X5.o.alloc (.cells #[iP k1,.string F,.slice J I N,.slice O M H] 94)).drop fun p Z=>?_) Zo (fun q hq=>by have:=Lp.o.own q hq; omega) fun p Z q hq=>?_
        ·simp only [List.mem_cons,List.not_mem_nil,or_false] at Z ⊢
         rcases Z with h | h | h
         ·exact .inl h
         ·exact .inr (.inr (.inl h))
         ·exact .inr (.inr (.inr h))
        ·have:=Lp.o.own q hq
         simp only [List.mem_cons,List.not_mem_nil,or_false] at Z;rcases Z with rfl | rfl | rfl
         ·show q≠tb2; omega
         ·show q≠w.heap.size+1; omega
         ·show q≠w.heap.size; omega
       obtain⟨ka6,kc6,rfl⟩:=Yt Zr;clear Zr Zo Z4 Uh t0 t1 t2 t3 f0 f1 f2 f3 Ug Bo b0 b1 b2 b3 Yo Hk Lp HMd5 X5;obtain⟨⟨t0,t1,t2,t3⟩,⟨f0,f1,f2,f3⟩,Ug⟩:=Yh (X6.o.box (p:=(tb2,Z7 5 ⟨#[]⟩ T (ns.length+1) V ka ks.length kc)) (by simp))
       have X7:xQ (RX pb tb cap ts w (w6.setCell (aP tb2 3) (.slice ka6 (ks.length+1) kc6)) d (Zf R3) [(tb2,Z7 5 ⟨#[]⟩ T (ns.length+1) V ka6 (ks.length+1) kc6),(w.heap.size+1,Av),(w.heap.size,Ww)]):=by
        refine RX.put3 X6.o fun p Z=>?_
        simp only [List.mem_cons,List.not_mem_nil,or_false] at Z;rcases Z with rfl | rfl
        ·show w.heap.size+1≠tb2; omega
        ·show w.heap.size≠tb2; omega
       have Fy:=Za (Hl.o.stay (Hc w6 tb2 3 (.slice ka6 (ks.length+1) kc6)) (xU _));have Sh:=Za (Hr.o.stay (Hc w6 tb2 3 (.slice ka6 (ks.length+1) kc6)) (xU _));clear Hl Hr X6;go_wp2_with fail;refine(Vi pb tb cap d ts (Zf R3) [44] _ X7.o.at_ OK.o).mono ?_;rintro e w8 ⟨rfl,A,Y⟩;have X8:=Za (X7.o.step A Y);have Fz:=Za (Fy.o.stay A V4);have Hs:=Za (Sh.o.stay A V4);clear A Y X7 Fy Sh t0 t1 t2 t3 f0 f1 f2 f3 Ug
       have Xz:(ns ++ [nmv]).length=ns.length+1:=by simp
       have Uo:(ks ++ [Vy R3]).length=ks.length+1:=by simp
       cases hs:Y2 ts (Zf R3) [44] with
       | true =>
        rw [hs,if_pos rfl] at X8;rw [Yz.o] at hs;obtain⟨t,b,H9,Dm⟩:=jV HF.o hs;have Gv:=Za Dm;have hup:=jX HU.o H9
        have hS:Nr (Zf R3) = .inl (b+1):=by rw [Yz.o,H9]; rfl
        have Bk:Vy R3=some t:=by rw [Yz.o,H9]; rfl
        rw [hS,<- Xz,<- Uo] at X8;rw [<- Xz,<- Uo] at Fz Hs
        have HNS2:xQ (ns ++ [nmv]=(acc ++ [(Vd (Zu ts c),t)]).map (·.1)/\ks ++ [Vy R3]=(acc ++ [(Vd (Zu ts c),t)]).map (fun p=>some p.2)):=⟨by rw [Po.o.1,Na.o]; simp,by rw [Po.o.2,Bk]; simp⟩
        clear hs H9 Dm hS Bk Xz Uo;go_wp2_with fail
        go_roundg (ts.length - (b+1))
        case measure=>have:=HG.o; omega
        case rel=>exact⟨b+1,m,_,T,ka6,V,kc6,_,_,_,_,HNS2,X8,Fz,Hs,Gv,(by have:=HM.o; show _<=_; omega),(by have:=HA.o; show _<=_; simp; omega),xR⟩
       | false =>
        rw [hs,if_neg (by simp)] at X8;rw [Yz.o] at hs;have HE:=Za (jU HF.o hs);clear hs;go_wp2_with fail;refine(Td pb tb cap d ts (Zf R3) [125] _ X8.o.at_ OK.o).mono ?_;rintro e w9 ⟨rfl,A,Y⟩;have X9:=Za (X8.o.step A Y);have HN9:=Za (Fz.o.stay A V4);have HV9:=Za (Hs.o.stay A V4);clear A Y X8 Fz Hs;obtain⟨⟨r0,r1,r2,r3⟩,⟨f0,f1,f2,f3⟩,Xe⟩:=Yh (X9.o.box (p:=(w.heap.size,Ww)) (by simp))
        obtain⟨⟨t0,t1,t2,t3⟩,_,Ug⟩:=Yh (X9.o.box (p:=(tb2,Z7 5 ⟨#[]⟩ T (ns.length+1) V ka6 (ks.length+1) kc6)) (by simp))
        have Up:¬ tb2=w.heap.size:=by omega
        have Mz:=Za Xz;have Ny:=Za Uo;clear Xz Uo;go_wp2_with fail;refine r94 rfl rfl (set4 (X9.o.box (p:=(w.heap.size,Ww)) (by simp)) _ _ _ _) rfl ⟨Q6 X9.o.st Z (xR) _ _ _ _,?_,5,⟨#[]⟩,T,ns.length+1,V,ka6,ks.length+1,kc6,by simp,?_⟩
        ·have:=X9.o.at_.set4 Z (iP 5) sP (.slice T (ns.length+1) V) (.slice ka6 (ks.length+1) kc6)
         have e2:Zf R=Zf (Zi (fun a=>Ze ts a [125]) (Zf R3)):=by
          rw [M1.o,Yz.o];rcases HE.o with⟨t,b,e1,e2⟩ | ⟨e,e1,e2⟩
          ·rw [e1,e2]
           show Zf ((Ze ts b [125]).go _)=Zf (Ze ts b [125])
           cases Ze ts b [125] <;> rfl
          ·rw [e1,e2]
           rfl
         rw [e2]
         simpa using this
        ·intro y cc C
         rw [M1.o] at C;rcases HE.o with⟨t,b,e1,e2⟩ | ⟨e,e1,e2⟩
         ·rw [e2] at C
          replace C:(Ze ts b [125]).go (fun _ a => .inl (Y7 5 [] ((acc ++ [(Vd (Zu ts c),t)]).map (·.1)) ((acc ++ [(Vd (Zu ts c),t)]).map (·.2)),a)) = .inl (y,cc):=C
          cases hw:Ze ts b [125] with
          | inr p=>rw [hw] at C; cases C
          | inl z =>
           rw [hw] at C;injection C with C;injection C with C _;rw [<- C]
           have Bk:Vy R3=some t:=by rw [Yz.o,e1]; rfl
           have en:ns ++ [nmv]=(acc ++ [(Vd (Zu ts c),t)]).map (·.1):=by rw [Po.o.1,Na.o]; simp
           have ek:ks ++ [Vy R3]=((acc ++ [(Vd (Zu ts c),t)]).map (·.2)).map some:=by rw [Po.o.2,Bk]; simp
           have hN:=HN9.o;have hV:=HV9.o;rw [en] at hN;rw [ek] at hV
           have hll:(acc ++ [(Vd (Zu ts c),t)]).length<=8193:=by have:=HA.o; simp; omega
           obtain⟨a',c',a2,c2,ev,hE⟩:=eH (l:=acc ++ [(Vd (Zu ts c),t)]) (lo:=tb2+1) (w:=w9) ⟨_,_,_,_,rfl,hN,wJ hV⟩ hll (nL (fun a x b h=>zba OK.o h) (f+1) (HRm.o.symm.trans e2))
           have Jd:(acc ++ [(Vd (Zu ts c),t)]).length=ns.length+1:=by rw [<- Mz.o,en,List.length_map]
           have Np:(acc ++ [(Vd (Zu ts c),t)]).length=ks.length+1:=by rw [<- Ny.o,ek,List.length_map,List.length_map]
           injection ev with ev;injection ev with ev;injection ev with ev1 ev;injection ev with ev2 _;injection ev1 with g1 _ g2;injection ev2 with g3 _ g4;subst g1 g2 g3 g4
           have hE2:Yk (tb2+1) w9 (.agg #[iP 5,sP,.slice T (ns.length+1) V,.slice ka6 (ks.length+1) kc6]) (Y7 5 [] ((acc ++ [(Vd (Zu ts c),t)]).map (·.1)) ((acc ++ [(Vd (Zu ts c),t)]).map (·.2))):=by
            have:=hE;rw [show(Value.slice T (acc ++ [(Vd (Zu ts c),t)]).length V) = .slice T (ns.length+1) V by rw [Jd],show(Value.slice ka6 (acc ++ [(Vd (Zu ts c),t)]).length kc6) = .slice ka6 (ks.length+1) kc6 by rw [Np]] at this;exact this
           exact Yk.lower (Yk.set4 hE2 (by omega) _ _ _ _) (by omega)
         ·rw [e2] at C; cases C
def Qg:Nat->List (bS)
 | 0=>[[111,114]]
 | 1=>[[97,110,100]]
 | 3=>[[43,43]]
 | 4=>[[43],[45],[94]]
 | 5=>[[42],[47],[37],[38],[60,60],[62,62]]
 | _=>[]
def F7 (ts:List Tok) (L:List (bS)) (sub:Nat->Pr Ty) (R:Pr Ty) (lo nb:Nat) (S:Yd) (wr:wD) (y:NV) (i gk:Nat):Prop :=
 (∃ b m x,S = .inl b/\R=Uw ts L sub (m+1) x b/\ts.length<=b+m+1/\(∀ j (_:j<L.length),j<i->Zg ts b L[j]=false)/\Wb lo nb wr y x/\(ts.length - b)*(L.length+1)+(L.length - i)<=gk) ∨
 ∃ e,S = .inr e/\R = .inr e/\L.length - i<=gk
section
variable {ts : List Tok} {L : List (bS)} {sub : Nat -> Pr Ty} {R : Pr Ty} {lo nb i gk : Nat} {S : Yd} {wr wr' : wD} {y : NV}
theorem F7.keep (h:F7 ts L sub R lo nb S wr y i gk) (z:∀ x,Wb lo nb wr y x->Wb lo nb wr' y x):F7 ts L sub R lo nb S wr' y i gk:=by
 rcases h with⟨b,m,x,A,I,j,H,F,C⟩ | h
 ·exact .inl ⟨b,m,x,A,I,j,H,z x F,C⟩
 ·exact .inr h
theorem F7.next (h:F7 ts L sub R lo nb S wr y i gk) (hi:i<L.length) (C:Y2 ts S L[i]=false):∃ g',g'<gk/\F7 ts L sub R lo nb S wr y (i+1) g':=by
 rcases h with⟨b,m,x,rfl,z,A,H,F,h6⟩ | ⟨e,rfl,z,A⟩
 ·refine⟨(ts.length - b)*(L.length+1)+(L.length - (i+1)),by omega,.inl ⟨b,m,x,rfl,z,A,fun j I hji=>?_,F,xR⟩⟩
  by_cases e:j=i
  ·subst e; exact C
  ·exact H j I (by omega)
 ·exact⟨L.length - (i+1),by omega,.inr ⟨e,rfl,z,xR⟩⟩
theorem F7.done (h:F7 ts L sub R lo nb S wr y i gk) (hi:L.length<=i):Zf R=S/\∀ D b,R = .inl (D,b)->Wb lo nb wr y D:=by
 rcases h with⟨b,m,x,rfl,z,A,F,C,h6⟩ | ⟨e,rfl,z,A⟩
 ·have:R = .inl (x,b):=by
   rw [z];refine fI ?_;rw [List.any_eq_false];intro t H;obtain⟨j,I,rfl⟩:=List.mem_iff_getElem.1 H;rw [F j I (by omega)];simp
  rw [this];refine⟨rfl,fun D c e=>?_⟩;injection e with e;injection e with e _;rw [<- e];exact C
 ·rw [z]
  exact⟨rfl,fun D b e=>by cases e⟩
theorem F7.seen (h:F7 ts L sub R lo nb S wr y i gk) (M:i<L.length) (A:Y2 ts S L[i]=true) (C:∀ a x b,sub a = .inl (x,b)->a<=b):∃ b x,S = .inl b/\Wb lo nb wr y x/\(ts.length - b)*(L.length+1)<=gk /\
  ((∃ D2 b2,sub (b+1) = .inl (D2,b2)/\b+1<=b2/\(b2<ts.length->∃ m,R=Uw ts L sub (m+1) (Zp 14 L[i] 0 (Yj ts b) (Yi ts b) [] [] [x,D2]) b2/\ts.length<=b2+m+1))∨∃ e,sub (b+1) = .inr e/\R = .inr e):=by
 rcases h with⟨b,m,x,rfl,z,I,h4,F,h6⟩ | ⟨e,rfl,z,I⟩
 ·have j:Zg ts b L[i]=true:=A
  have J:(Zk ts b).text=L[i]:=by
   unfold Zg at j;simp only [Bool.and_eq_true,beq_iff_eq] at j;exact j.2
  rw [fJ (List.any_eq_true.2 ⟨L[i],List.getElem_mem M,j⟩),J] at z;refine⟨b,x,rfl,F,by omega,?_⟩
  cases hk:sub (b+1)with
  | inr e=>exact .inr ⟨e,rfl,by rw [z,hk]; rfl⟩
  | inl q =>
   obtain⟨D2,b2⟩:=q;have H:=C _ _ _ hk;refine .inl ⟨D2,b2,rfl,H,fun hl=>?_⟩
   obtain⟨m,rfl⟩:∃ q,m=q+1:=⟨m - 1,by omega⟩
   exact⟨m,by rw [z,hk]; rfl,by omega⟩
 ·cases A
end
theorem RX.put8 {pb tb cap d b:Nat} {ts:List Tok} {w0 w:wD} {S:Yd} {bx:List (Nat×Obj)} {x:NV} (h:RX pb tb cap ts w0 w d S ((b,x.obj) :: bx)) (F:∀ p ∈ bx,p.1≠b) (y:NV):RX pb tb cap ts w0 (put8 w b y) d S ((b,y.obj) :: bx):=by
 have C:=(h.has _ (xM)).2
 have A:=h.hp
 have j:=xT A C
 refine⟨Wy h.st A C y,(((((((h.at_.other j 0 _).other j 1 _).other j 2 _).other j 3 _).other j 4 _).other j 5 _).other j 6 _).other j 7 _,A,fun p z=>?_⟩
 rcases List.mem_cons.1 z with rfl | z
 ·exact⟨Wv (h.box (xM)),C⟩
 ·exact⟨(N7 (F p z)).trans (h.box (xW _ z)),(h.has p (xW _ z)).2⟩
theorem RX.far {pb tb cap d c:Nat} {ts:List Tok} {w0 w:wD} {S:Yd} {bx:List (Nat×Obj)} (h:RX pb tb cap ts w0 w d S bx) (z:w0.heap.size<=c) (A:∀ p ∈ bx,p.1≠c) (o:Nat) (u:vL):RX pb tb cap ts w0 (w.setCell (aP c o) u) d S bx :=
 ⟨h.st.own h.hp z o u,h.at_.other (xT h.hp z) o u,h.hp,fun p j=>⟨(xH (A p j)).trans (h.box j),(h.has p j).2⟩⟩
def Left (pb tb cap:Nat) (ts:List Tok) (w0:wD) (d:Nat) (S:Yd) (rb nb:Nat) (W Wf:wD) (x:NV) (n:Nat):Prop :=
 RX pb tb cap ts w0 Wf d S [(rb,x.obj)]/\(∀ c,c≠rb->c≠nb->c<W.heap.size->Wf.heap[c]?=W.heap[c]?)/\W.heap.size+n=Wf.heap.size
section
variable {pb tb cap d rb nb n : Nat} {ts : List Tok} {w0 W Wf : wD} {S : Yd} {bx : List (Nat × Obj)} {x : NV}
theorem I0 (h:RX pb tb cap ts w0 W d S bx) (hm:(rb,Zj.obj) ∈ bx) (nb:Nat) (x:NV):Left pb tb cap ts w0 d S rb nb W (put8 W rb x) x 0 :=
 ⟨RX.put8 (h.perm (bx':=[(rb,Zj.obj)]) (by intro p z; rw [List.mem_singleton.1 z]; exact hm)) (by simp) x,fun c j _ _=>N7 j,Nt.symm⟩
theorem J6 (h:RX pb tb cap ts w0 W d S bx) (hm:(rb,Zj.obj) ∈ bx) (C:w0.heap.size<=nb) (F:rb≠nb) (o:Nat) (v:vL) (x:NV):Left pb tb cap ts w0 d S rb nb W (put8 (W.setCell (aP nb o) v) rb x) x 0:=by
 have A:=(h.perm (bx':=[(rb,Zj.obj)]) (by intro p j; rw [List.mem_singleton.1 j]; exact hm)).far C (by intro p j; rw [List.mem_singleton.1 j]; exact F) o v
 exact⟨A.put8 (by simp) x,fun c H z _=>(N7 H).trans (xH z),by rw [Nt,Yg]; rfl⟩
theorem qM (h:RX pb tb cap ts w0 W d S bx) (hm:(rb,Zj.obj) ∈ bx) (A:w0.heap.size<=nb) (C:rb≠nb) (o:Nat) (v:vL) (o':Nat) (v':vL) (x:NV):Left pb tb cap ts w0 d S rb nb W (put8 ((W.setCell (aP nb o) v).setCell (aP nb o') v') rb x) x 0:=by
 have F:=((h.perm (bx':=[(rb,Zj.obj)]) (by intro p j; rw [List.mem_singleton.1 j]; exact hm)).far A (by intro p j; rw [List.mem_singleton.1 j]; exact C) o v).far A (by intro p j; rw [List.mem_singleton.1 j]; exact C) o' v'
 exact⟨F.put8 (by simp) x,fun c H z _=>(N7 H).trans ((xH z).trans (xH z)),by rw [Nt,Yg,Yg]; rfl⟩
theorem Dt (h:Left pb tb cap ts w0 d S rb nb W Wf x n) (o:Obj):Left pb tb cap ts w0 d S rb nb W (Wf.alloc o) x (n+1) :=
 ⟨(h.1.alloc o).drop,fun c z A j=>(xA (by have:=h.2.2; omega)).trans (h.2.1 c z A j),by rw [xS,<- h.2.2]; omega⟩
theorem zL (h:Left pb tb cap ts w0 d S rb nb W Wf x n) (o:Obj) {k:Nat} (j:k=W.heap.size+n):(Wf.alloc o).heap[k]?=some o:=by
 rw [j,h.2.2]
 exact xL _ _
end
theorem Bt {j:Func} {p:Tmp} {Q:Ending->wD->Prop} {a:Act} {W:wD} {rb:Nat} {x:NV} (h:j.results=#[.cell p 64]) (z:a.tmps.getD p undef=qP rb) (A:W.heap[rb]?=some x.obj) (F:a.defers=[]) (C:Q (.returned x.val) W):bodyPost prog j Q .ret a W :=
 bodyPost_ret (results_cell_row h _ _ rb 64 _ (0,0) _ z A underlying64 rfl (by kernel_rfl)) F C
abbrev Bv (x y:NV):Obj := .cells #[iP x.k,.string x.tx,iP x.N,iP x.li,iP x.co,.slice x.ta x.tl x.tc,.slice x.na x.nl x.nc,.slice x.ka x.kl x.kc,iP y.k,.string y.tx,iP y.N,iP y.li,iP y.co,.slice y.ta y.tl y.tc,.slice y.na y.nl y.nc,.slice y.ka y.kl y.kc] 64
abbrev Vb (L:List (bS)):Obj := .cells (L.map fun s=>(uP s)).toArray 9
theorem tB {w:wD} {b i:Nat} {L:List (bS)} (h:w.heap[b]?=some (Vb L)) (j:i<L.length):w.cell? (aP b i)=some (.string ⟨L[i].toArray⟩):=by
 rw [cell_of_row _ _ _ _ _ _ h]
 simp [j]
abbrev Gp (n:Nat):Obj := .cells #[lP (n+1) 1 1,lP (n+1+1) 1 1,lP (n+1+1+1) 0 0,lP (n+1+1+1+1) 1 1,lP (n+1+1+1+1+1) 3 3,lP (n+1+1+1+1+1+1) 6 6] 25
theorem uR (pb tb cap d:Nat) (ts:List Tok) (ok:Ym ts) (k:Nat) (hk:k<=5) (Tt:k≠2) (sub:Nat->Pr Ty) (hu:∀ a x b,sub a = .inl (x,b)->a<=b) (f:Nat) (hf:ts.length<=f+1)
  (hP:∀ S w,Z2 w pb tb cap ts d S->Calls prog 98 #[qP pb,iP (k+1:Nat)] w (V0 pb tb cap ts d w (Zi sub S)))
  (S:Yd) (w:wD) (h:Z2 w pb tb cap ts d S) :
  Calls prog 98 #[qP pb,iP k] w (V0 pb tb cap ts d w (Zi (fun a=>(sub a).go fun x a=>Uw ts (Qg k) sub (f+1) x a) S)):=by
 have e6:((k:Int) == 6)=false:=by simp; omega
 have e2:((k:Int) == 2)=false:=by simp; omega
 have N4:(k:Int)+1<=9223372036854775807:=by omega
 have HP:xQ (∀ S w,Z2 w pb tb cap ts d S->Calls prog 98 #[qP pb,iP ((k:Int)+1)] w (V0 pb tb cap ts d w (Zi sub S))):=hP
 have HU:=Za hu
 have OK:=Za ok
 have X0:=Za ((((((((Hb h Zj.obj).alloc (Vb (Qg 0))).alloc (Vb (Qg 1))).alloc (Vb (Qg 2))).alloc (Vb (Qg 3))).alloc (Vb (Qg 4))).alloc (Vb (Qg 5))).alloc (Gp w.heap.size))
 simp only [xS] at X0
 obtain⟨H,Pq,hgb1,hgb2,HO⟩:∃ H,xQ (RX pb tb cap ts w ((((((((w.alloc Zj.obj).alloc (Vb (Qg 0))).alloc (Vb (Qg 1))).alloc (Vb (Qg 2))).alloc (Vb (Qg 3))).alloc (Vb (Qg 4))).alloc (Vb (Qg 5))).alloc (Gp w.heap.size)) d S [(w.heap.size,Zj.obj),(w.heap.size+1+1+1+1+1+1+1,Gp w.heap.size),(H,Vb (Qg k))])/\w.heap.size+1<=H/\H<w.heap.size+7/\xQ (∀ W:wD,W.heap[w.heap.size+1+1+1+1+1+1+1]?=some (Gp w.heap.size)->W.cell? (aP (w.heap.size+1+1+1+1+1+1+1) k)=some (lP H (Qg k).length (Qg k).length)):=by
  have hh:k=0∨k=1∨k=3∨k=4∨k=5:=by omega
  rcases hh with rfl | rfl | rfl | rfl | rfl
  ·exact⟨w.heap.size+1,X0.o.perm (by simp),by omega,by omega,fun W M=>by rw [cell_of_row _ _ _ _ _ _ M]; rfl⟩
  ·exact⟨w.heap.size+1+1,X0.o.perm (by simp),by omega,by omega,fun W M=>by rw [cell_of_row _ _ _ _ _ _ M]; rfl⟩
  ·exact⟨w.heap.size+1+1+1+1,X0.o.perm (by simp),by omega,by omega,fun W M=>by rw [cell_of_row _ _ _ _ _ _ M]; rfl⟩
  ·exact⟨w.heap.size+1+1+1+1+1,X0.o.perm (by simp),by omega,by omega,fun W M=>by rw [cell_of_row _ _ _ _ _ _ M]; rfl⟩
  ·exact⟨w.heap.size+1+1+1+1+1+1,X0.o.perm (by simp),by omega,by omega,fun W M=>by rw [cell_of_row _ _ _ _ _ _ M]; rfl⟩
 obtain⟨L,hL⟩:=xE (Qg k)
 obtain⟨R,hR⟩:=xE (Zi (fun a=>(sub a).go fun x a=>Uw ts (Qg k) sub (f+1) x a) S)
 rw [<- hR]
 rw [<- hL] at hR Pq HO
 have Ui:xQ (L.length<=6):=by
  have hh:k=0∨k=1∨k=3∨k=4∨k=5:=by omega
  rw [hL]
  rcases hh with rfl | rfl | rfl | rfl | rfl <;> (show(Qg _).length<=6; decide)
 have V8:=Za hR
 have hLl:=Ui.o
 clear hP h X0 hR hL hu ok
 go_enter func98,ntmps98
 go_wp2_with fail
 refine(HP.o _ _ Pq.o.at_).mono ?_
 rintro e w1 ⟨A,I,x0,rfl,hv⟩
 obtain⟨R1,Xj⟩:=xE (Zi sub S)
 rw [<- Xj] at I hv
 have X1:=Za ((Pq.o.step A I).alloc x0.obj)
 have Xq:=A.size
 simp only [xS] at Xq hv
 obtain⟨nb,Vc⟩:=xE w1.heap.size
 have P7:xQ (F7 ts L sub R (w.heap.size+1) nb (Zf R1) (w1.alloc x0.obj) x0 0 (ts.length*(L.length+1)+L.length)):=by
  cases S with
  | inr p=>exact .inr ⟨p,by rw [Xj]; rfl,V8.o,by omega⟩
  | inl a =>
   have e1:R1=sub a:=Xj
   have e2:R=(sub a).go fun x a=>Uw ts L sub (f+1) x a:=V8.o
   rw [<- e1] at e2
   cases hs:R1 with
   | inr p=>exact .inr ⟨p,rfl,by rw [e2,hs]; rfl,by omega⟩
   | inl q =>
    obtain⟨D,b⟩:=q;refine .inl ⟨b,f,D,rfl,by rw [e2,hs]; rfl,by omega,(fun j _ hj=>absurd hj (Nat.not_lt_zero _)),?_,?_⟩
    ·rw [Vc]
     exact qY ((hv D b hs).lower (by omega)) _
    ·have:(ts.length - b)*(L.length+1)<=ts.length*(L.length+1):=Nat.mul_le_mul_right _ (Nat.sub_le _ _)
     omega
 rw [<- Vc] at X1 Xq
 clear A I hv Xj V8 Pq
 go_wp2_with fail
 rw [<- Vc]
 clear Vc
 obtain⟨J,hob⟩:=xE (w.heap.size+1+1+1+1+1+1+1)
 rw [<- hob] at X1 HO ⊢
 have V:w.heap.size+7=J:=by omega
 rw [V] at hgb2
 have hobn:J<nb:=by omega
 have hwob:w.heap.size+1<=J:=by omega
 clear hob V Xq
 go_loopg [7] (ts.length*(L.length+1)+L.length) (fun gk v wr=>∃ (S:Yd) (i:Nat) (y:NV),v=iP i/\i<=L.length/\xQ (RX pb tb cap ts w wr d S [(nb,y.obj),(w.heap.size,Zj.obj),(J,Gp w.heap.size),(H,Vb L)])/\xQ (F7 ts L sub R (w.heap.size+1) nb S wr y i gk))
 case atStart=>exact⟨_,0,x0,rfl,xZ _,X1,P7⟩
 case round =>
  clear X1 P7;obtain⟨S',i,y,rfl,hi,X,HI⟩:=hrel;have c0:=HO.o wr (X.o.box (p:=(J,Gp w.heap.size)) (by simp));have hlob:=xB (X.o.box (p:=(J,Gp w.heap.size)) (by simp));by_cases Zt:i<L.length
  ·have Um:(i:Int)<(L.length:Int):=by omega
   go_wp2_with fail;refine(zR pb tb cap d ts S' 14 _ X.o.at_).mono ?_;rintro e w2 ⟨li,co,rfl,Bl,A,I⟩;have O:=Za ((X.o.step A I).alloc (Yf 14 li co).obj);have Yb:=xB (X.o.box (p:=(nb,y.obj)) (by simp));have hp:=X.o.hp
   have Hj:xQ (∀ b,w.heap.size+1<=b->b<wr.heap.size->(w2.alloc (Yf 14 li co).obj).heap[b]?=wr.heap[b]?):=fun b C F=>(xA (xT F A.size)).trans (A.keep b (by omega) F)
   have HbT:xQ (∀ b,S' = .inl b->b<ts.length):=fun b e=>by
    obtain⟨a,ha⟩:=I;have:=ha.live b e;have:=ha.lt;omega
   have N9:=Za Bl;have Wj:=A.size;clear A I Bl X;have c1:=HO.o _ (O.o.box (p:=(J,Gp w.heap.size)) (by simp));have c2:=tB (O.o.box (p:=(H,Vb L)) (by simp)) Zt;have hlg:=xB (O.o.box (p:=(H,Vb L)) (by simp));have Ut:=xB (O.o.box (p:=(J,Gp w.heap.size)) (by simp))
   have Vn:xQ (w2.heap.size<(w2.alloc (Yf 14 li co).obj).heap.size):=by show _<_; rw [xS]; omega
   go_wp2_with fail;obtain⟨mb,Bm⟩:=xE w2.heap.size;rw [<- Bm] at O Wj Vn ⊢;clear Bm;generalize w2.alloc (.cells #[iP 14,sP,iP 0,iP li,iP co,nP,nP,nP] 64)=W2 at O Hj c1 c2 hlg Ut Vn ⊢
   have Mj:nb<mb:=by omega
   refine(Vi pb tb cap d ts S' L[i] W2 O.o.at_ OK.o).mono ?_;rintro e w3 ⟨rfl,A,I⟩;have Z:=Za (O.o.step A I);have hnl2:=xB (O.o.box (p:=(nb,y.obj)) (by simp))
   have Li:xQ (∀ b,w.heap.size+1<=b->b<wr.heap.size->w3.heap[b]?=wr.heap[b]?):=fun b C F=>(A.keep b (by omega) (by have:=Vn.o; omega)).trans (Hj.o b C F)
   have Vs:xQ (mb<w3.heap.size):=xT Vn.o A.size;clear A I O Hj c0 c1 c2 hlg Ut
   cases hs:Y2 ts S' L[i] with
   | false =>
    rw [hs,if_neg (by simp)] at Z;obtain⟨g',Qp,Dm⟩:=(HI.o.keep (wr':=w3) fun x hx=>hx.keep Yb (by have:=Wj; have:=Vs.o; omega) fun b C F _=>Li.o b C F).next Zt hs;have HN:=Za Dm;clear hs Dm;go_wp2_with fail
    go_roundg g'
    case measure=>exact Qp
    case rel=>exact⟨S',i+1,y,by go_num,by omega,Z.o.perm (by simp),HN⟩
   | true =>
    rw [hs,if_pos rfl] at Z;obtain⟨b,x,Mg,hx,Pw,hor⟩:=HI.o.seen Zt hs HU.o;have HX:=Za hx;have HOr:=Za hor;obtain⟨hl,hc⟩:=N9.o b Mg;have Xp:=Za (And.intro hl hc);have HSb:=Za Mg;have HGK:=Za Pw;have HC:=Za (HP.o _ _ Z.o.at_)
    have e4:Zi sub (Nr S')=sub (b+1):=by rw [Mg]; rfl
    rw [e4] at HC;have hbT:=HbT.o b Mg;clear hs hx hor hl hc Mg Pw e4 N9 HI;obtain⟨s,Sy⟩:=xE (L[i]);have HSL:=Za Sy
    have HTX:xQ (∀ W:wD,W.heap[H]?=some (Vb L)->W.cell? (aP H i)=some (uP s)):=fun W M=>by rw [Sy]; exact tB M Zt
    rw [<- Sy];clear Sy;go_wp2_with fail;refine HC.o.mono ?_;rintro e w4 ⟨A,I,z,rfl,hv⟩;have Y:=Za (Z.o.step A I);have hnl3:=xB (Z.o.box (p:=(nb,y.obj)) (by simp))
    have M9:xQ (∀ b,w.heap.size+1<=b->b<wr.heap.size->w4.heap[b]?=wr.heap[b]?):=fun b C F=>(A.keep b (by omega) (by have:=Vs.o; omega)).trans (Li.o b C F)
    have HLv:xQ (∀ D2 b2,sub (b+1) = .inl (D2,b2)->b2<ts.length):=fun D2 b2 e=>by
     obtain⟨a,ha⟩:=I;have:=ha.live b2 (by rw [e]; rfl);have:=ha.lt;omega
    have HZ4:xQ (Wl (mb+1) w4 z (sub (b+1))):=hv.lower (xB (Z.o.box (p:=(mb,(Yf 14 li co).obj)) (by simp)));have hm4:=xB (Y.o.box (p:=(mb,(Yf 14 li co).obj)) (by simp));clear A I hv HC Z;obtain⟨⟨n0,n1,n2,n3,n4,n5,n6,n7⟩,⟨f0,f1,f2,f3,f4,f5,f6,f7⟩,yY⟩:=Zn (Y.o.box (p:=(nb,y.obj)) (by simp));obtain⟨⟨m0,m1,m2,m3,m4,m5,m6,m7⟩,⟨g0,g1,g2,g3,g4,g5,g6,g7⟩,Rx⟩:=Zn (Y.o.box (p:=(mb,(Yf 14 li co).obj)) (by simp))
    have c1:=HO.o w4 (Y.o.box (p:=(J,Gp w.heap.size)) (by simp));have c2:=HTX.o w4 (Y.o.box (p:=(H,Vb L)) (by simp));have hlg:=xB (Y.o.box (p:=(H,Vb L)) (by simp));have Ut:=xB (Y.o.box (p:=(J,Gp w.heap.size)) (by simp))
    have Ub:¬ mb=nb:=by omega
    have Up:¬ nb=mb:=by omega
    have Sv:¬ H=mb:=by omega
    have Cf:¬ J=mb:=by omega
    go_wp2_with fail;obtain⟨Wf,Zm⟩:=xE ((((((((((((w4.setCell (aP mb 1) (uP s)).setCell (aP mb 7) (lP (w4.heap.size+1) 2 2)).setCell (aP nb 0) (iP 14)).setCell (aP nb 1) (uP s)).setCell (aP nb 2) (iP 0)).setCell (aP nb 3) (iP li)).setCell (aP nb 4) (iP co)).setCell (aP nb 5) nP).setCell (aP nb 6) nP).setCell (aP nb 7) (lP (w4.heap.size+1) 2 2)).alloc (.cells #[iP z.k,.string z.tx,iP z.N,iP z.li,iP z.co,.slice z.ta z.tl z.tc,.slice z.na z.nl z.nc,.slice z.ka z.kl z.kc] 64)).alloc (.cells #[iP y.k,.string y.tx,iP y.N,iP y.li,iP y.co,.slice y.ta y.tl y.tc,.slice y.na y.nl y.nc,.slice y.ka y.kl y.kc,iP z.k,.string z.tx,iP z.N,iP z.li,iP z.co,.slice z.ta z.tl z.tc,.slice z.na z.nl z.nc,.slice z.ka z.kl z.kc] 64))
    have Tv:(put8 ((w4.setCell (aP mb 1) (uP s)).setCell (aP mb 7) (lP (w4.heap.size+1) 2 2)) nb ⟨14,⟨s.toArray⟩,0,li,co,none,0,0,none,0,0,some (aP (w4.heap.size+1) 0),2,2⟩).heap.size=w4.heap.size:=by rw [Nt,Yg,Yg]
    have Zw:xQ (RX pb tb cap ts w Wf d (Zf (sub (b+1))) [(nb,NV.obj ⟨14,⟨s.toArray⟩,0,li,co,none,0,0,none,0,0,some (aP (w4.heap.size+1) 0),2,2⟩),(w.heap.size,Zj.obj),(J,Gp w.heap.size),(H,Vb L)]):=by
     have C:=(Y.o.perm (bx':=[(nb,y.obj),(w.heap.size,Zj.obj),(J,Gp w.heap.size),(H,Vb L)]) (by simp))
     have F:=((C.far (c:=mb) (by omega) (by simp; omega) 1 (uP s)).far (c:=mb) (by omega) (by simp; omega) 7 (lP (w4.heap.size+1) 2 2))
     rw [Zm];exact(((F.put8 (by simp; omega) ⟨14,⟨s.toArray⟩,0,li,co,none,0,0,none,0,0,some (aP (w4.heap.size+1) 0),2,2⟩).alloc z.obj).drop.alloc (Bv y z)).drop
    have Xd:∀ c,c≠nb->c≠mb->c<w4.heap.size->Wf.heap[c]?=w4.heap[c]?:=fun c C F h3=>by
     rw [Zm];exact(xA (by rw [xS,Tv]; omega)).trans ((xA (by rw [Tv]; exact h3)).trans ((N7 (x:=⟨14,⟨s.toArray⟩,0,li,co,none,0,0,none,0,0,some (aP (w4.heap.size+1) 0),2,2⟩) C).trans ((xH F).trans (xH F))))
    have Yu:Wf.heap[w4.heap.size+1]?=some (Bv y z):=by
     have:=Bg (put8 ((w4.setCell (aP mb 1) (uP s)).setCell (aP mb 7) (lP (w4.heap.size+1) 2 2)) nb ⟨14,⟨s.toArray⟩,0,li,co,none,0,0,none,0,0,some (aP (w4.heap.size+1) 0),2,2⟩) z.obj (Bv y z);rw [Tv] at this;rw [Zm];exact this
    have Tm:w4.heap.size+2=Wf.heap.size:=by rw [Zm,xS,xS]; simp only [Yg]
    have HLF:xQ (∃ g',g'<gk/\F7 ts L sub R (w.heap.size+1) nb (Zf (sub (b+1))) Wf ⟨14,⟨s.toArray⟩,0,li,co,none,0,0,none,0,0,some (aP (w4.heap.size+1) 0),2,2⟩ 0 g'):=by
     have Pw:=HGK.o;rcases HOr.o with⟨D2,b2,C,F,h3⟩ | ⟨er,C,F⟩
     ·have Z5:=HLv.o D2 b2 C
      obtain⟨m,h4,h5⟩:=h3 Z5;have T:(ts.length - b2+1)*(L.length+1)<=(ts.length - b)*(L.length+1):=Nat.mul_le_mul_right _ (by omega);rw [Nat.succ_mul] at T;refine⟨(ts.length - b2)*(L.length+1)+L.length,by omega,.inl ⟨b2,m,_,by rw [C]; rfl,h4,by omega,(fun j _ hj=>absurd hj (Nat.not_lt_zero _)),fun o=>?_,by omega⟩⟩
      have hy:Wb (w.heap.size+1) nb Wf y x:=HX.o.keep Yb (by omega) fun c h6 h7 h8=>(Xd c h8 (by omega) (by omega)).trans (M9.o c h6 h7)
      have hz:Wb (w.heap.size+1) nb Wf z D2:=qX (lo':=mb+1) ((HZ4.o D2 b2 C).keep (by omega) fun c h6 h7=>Xd c (by omega) (by omega) h7) (by omega) (by omega);have:=Dv (kb:=w4.heap.size+1) (hy o) (hz o) ((Rg o (by omega)).trans Yu) (by omega) ⟨14,⟨s.toArray⟩,0,li,co,none,0,0,none,0,0,some (aP (w4.heap.size+1) 0),2,2⟩ [] [] ⟨rfl,rfl⟩ ⟨rfl,xZ _,0,.inl rfl⟩ ⟨rfl,xZ _,.inl rfl⟩
      rw [<- HSL.o,<- Xp.o.1,<- Xp.o.2];exact this
     ·have T:1*(L.length+1)<=(ts.length - b)*(L.length+1):=Nat.mul_le_mul_right _ (by omega)
      exact⟨L.length,by omega,.inr ⟨er,by rw [C]; rfl,F,by omega⟩⟩
    rw [<- Zm];clear Zm Yu Xd Tm Tv;obtain⟨g',Qp,hL⟩:=HLF.o
    go_roundg g'
    case measure=>exact Qp
    case rel=>exact⟨_,0,_,rfl,xZ _,Zw,hL⟩
  ·have Um:¬ (i:Int)<(L.length:Int):=by omega
   obtain⟨n8,_,Yb⟩:=Zn (X.o.box (p:=(nb,y.obj)) (by simp));obtain⟨n0,n1,n2,n3,n4,n5,n6,n7⟩:=n8;obtain⟨⟨r0,r1,r2,r3,r4,r5,r6,r7⟩,⟨f0,f1,f2,f3,f4,f5,f6,f7⟩,Yw⟩:=Zn (X.o.box (p:=(w.heap.size,Zj.obj)) (by simp))
   have Z1:¬ nb=w.heap.size:=by omega
   have HD:=Za (HI.o.done (by omega));have hp:=X.o.hp;go_wp2_with fail;refine r64 rfl rfl (Wv (x:=y) (X.o.box (p:=(w.heap.size,Zj.obj)) (by simp))) rfl ⟨Wy X.o.st hp (xR) y,?_,y,rfl,fun D b e=>?_⟩
   ·rw [HD.o.1]
    exact(RX.put8 (X.o.perm (bx':=[(w.heap.size,Zj.obj)]) (by simp)) (by simp) y).at_
   ·exact(((HD.o.2 D b e).now Yb).put8 (xU _) y).lower (Nat.le_succ _)
end Go.Proofs.YtoppemkjhhlegaaGreatDoor
