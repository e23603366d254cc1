/- Part. -/
import Derived.Test.YtoppemkjhhlegaaGreatDoorPart20
set_option maxRecDepth 100000
set_option maxHeartbeats 4000000
namespace Go.Proofs.YtoppemkjhhlegaaGreatDoor
open Go.Proofs.Tryz
open Go.RowKit
def Zi {α:Type} (K:Nat->Pr α):Yd->Pr α
 | .inl a=>K a
 | .inr p => .inr p
def Zf {α:Type}:Pr α->Yd
 | .inl (_,b) => .inl b
 | .inr p => .inr p
def Nr:Yd->Yd
 | .inl a => .inl (a+1)
 | .inr p => .inr p
def Im (ts:List Tok) (e:Int):Yd->Yd
 | .inl a => .inr (e,(Zk ts a).line,(Zk ts a).col)
 | .inr p => .inr p
def Z2 (w:wD) (pb tb cap:Nat) (ts:List Tok) (d:Nat) (S:Yd):Prop:=∃ a,Ma w pb tb cap ts d S a
theorem Z2.below {w w1:wD} {pb tb cap d:Nat} {ts:List Tok} {S:Yd} (h:Z2 w pb tb cap ts d S) (j:Below w.heap.size w w1):Z2 w1 pb tb cap ts d S:=by
 obtain⟨a,h⟩:=h
 exact⟨a,h.below j⟩
section
variable {w : wD} {pb tb cap a b d : Nat} {ts : List Tok}
theorem Ma.setAt (h:Ma w pb tb cap ts d (.inl a) a) (j:b<ts.length):Ma (w.setCell (aP pb 1) (iP b)) pb tb cap ts d (.inl b) b :=
 ⟨Y1 h.blk,j,(fun _ e=>Sum.inl.inj e.symm),(fun _ e=>nomatch e),h.tlt,Lf h.toks (xH (by show tb≠pb; have:=h.tlt; omega))⟩
theorem Ma.setDeep {S:Yd} (h:Ma w pb tb cap ts d S a) (n:Nat):Ma (w.setCell (aP pb 2) (iP n)) pb tb cap ts n S a :=
 ⟨Y1 h.blk,h.lt,h.live,h.bad,h.tlt,Lf h.toks (xH (by show tb≠pb; have:=h.tlt; omega))⟩
theorem Ma.failed (h:Ma w pb tb cap ts d (.inl a) a) {e:Int} (A:e≠0) (l c:Nat):Ma (((w.setCell (aP pb 3) (iP e)).setCell (aP pb 4) (iP l)).setCell (aP pb 5) (iP c)) pb tb cap ts d (.inr (e,l,c)) a:=by
 have j:tb≠pb:=by have:=h.tlt; omega
 have z:=Y1 (o:=3) (u:=iP e) h.blk
 have H:=Y1 (o:=4) (u:=iP l) z
 have F:=Y1 (o:=5) (u:=iP c) H
 refine⟨by simpa [eS,lS,cS] using F,h.lt,(fun _ e=>nomatch e),(fun p C=>?_),h.tlt,Lf h.toks ?_⟩
 ·obtain rfl:=Sum.inr.inj C
  exact A
 ·rw [xH j,xH j,xH j]
end
theorem Vi (pb tb cap d:Nat) (ts:List Tok) (S:Yd) (s:bS) (w:wD) (h:Z2 w pb tb cap ts d S) (I:Ym ts) :
  Calls prog 55 #[qP pb,uP s] w fun e w'=>e = .returned (.bool (Y2 ts S s))/\Zl pb w w'/\Z2 w' pb tb cap ts d (if Y2 ts S s then Nr S else S):=by
 obtain⟨a,h⟩:=h
 have z:=Za (zhu pb tb cap a d ts S s w h)
 have H:=Za h
 have A:=Za I
 clear h I
 cases hq:Y2 ts S s with
 | false =>
  rw [hq] at z;clear hq;go_enter func55,ntmps55;go_wp2_with fail;refine z.o.mono ?_;rintro e w1 ⟨rfl,j⟩;have F:=Za j;clear j;go_wp2_with fail;go_ret;exact⟨rfl,Zl.of H.o.ltp F.o,a,H.o.below F.o⟩
 | true =>
  have J:S = .inl a/\a+1<ts.length:=by
   cases S with
   | inr p=>cases hq
   | inl b =>
    have e:=H.o.live b rfl;subst e;exact⟨rfl,Xx A.o.ends H.o.lt hq⟩
  obtain⟨rfl,N⟩:=J;rw [hq] at z;clear hq
  have ha9:a<8193:=by have:=A.o.len; omega
  go_enter func55,ntmps55;go_wp2_with fail;refine z.o.mono ?_;rintro e w1 ⟨rfl,j⟩;have C:=Za (H.o.below j);have M:=Za (Zl.of H.o.ltp j);clear j;obtain⟨⟨c0,c1,c2,c3,c4,c5⟩,f1,f2,f3,f4,f5⟩:=C.o.cells;go_wp2_with fail;go_ret;exact⟨rfl,M.o.set 1 _,a+1,C.o.setAt (b:=a+1) N⟩
theorem wH (pb tb cap d:Nat) (ts:List Tok) (S:Yd) (e:Int) (j:e≠0) (w:wD) (h:Z2 w pb tb cap ts d S) :
  Calls prog 62 #[qP pb,iP e] w fun r w'=>r = .returned (.tuple #[])/\Zl pb w w'/\Z2 w' pb tb cap ts d (Im ts e S):=by
 obtain⟨a,h⟩:=h
 have H:=Za h
 obtain⟨⟨c0,c1,c2,c3,c4,c5⟩,f1,f2,f3,f4,f5⟩:=h.cells
 obtain⟨q0,q1,q2,q3⟩:=h.toks a h.lt
 have Bf:(a:Int)<(ts.length:Int):=by have:=h.lt; omega
 have Ys:=h.ltp
 have Ug:=Nat.lt_trans h.tlt h.ltp
 have Z1:¬ tb=pb:=by have:=h.tlt; omega
 cases S with
 | inr p =>
  have Qf:(p.1 == 0)=false:=by have:=h.bad p rfl; simpa using this
  simp only [eS,lS,cS] at c3 c4 c5;clear h;go_enter func62,ntmps62;go_wp2_with fail
  go_end0
  exact⟨rfl,Zl.refl _ _,a,H.o⟩
 | inl b =>
  have z:=h.live b rfl;subst z;simp only [eS,lS,cS] at c3 c4 c5;clear h;go_enter func62,ntmps62;go_wp2_with fail;go_region
  all_goals
   go_wp2_with fail;go_region
   all_goals
    go_wp2_with fail
    go_end0
    exact⟨rfl,((((Zl.refl pb w).set 3 _).set 4 _).set 5 _).drew.drew,b,((H.o.failed j _ _).drew).drew⟩
theorem Td (pb tb cap d:Nat) (ts:List Tok) (S:Yd) (s:bS) (w:wD) (h:Z2 w pb tb cap ts d S) (I:Ym ts) :
  Calls prog 57 #[qP pb,uP s] w fun r w'=>r = .returned (.tuple #[])/\Zl pb w w'/\Z2 w' pb tb cap ts d (Zf (Zi (fun a=>Ze ts a s) S)):=by
 have C:=Za (Vi pb tb cap d ts S s w h I)
 have F:Zf (Zi (fun a=>Ze ts a s) S)=if Y2 ts S s then Nr S else Im ts 7 S:=by
  cases S with
  | inr p=>rfl
  | inl a =>
   show Zf (if Zg ts a s then _ else _)=if Zg ts a s then _ else _
   cases Zg ts a s <;> rfl
 rw [F]
 clear h I F
 cases hq:Y2 ts S s with
 | true =>
  rw [hq,if_pos rfl] at C;clear hq;go_enter func57,ntmps57;go_wp2_with fail;refine C.o.mono ?_;rintro e w1 ⟨rfl,z,j⟩;have A:=Za (And.intro z j);clear z j;go_wp2_with fail
  go_end0
  exact⟨rfl,A.o.1,A.o.2⟩
 | false =>
  rw [hq,if_neg (by simp)] at C;clear hq;go_enter func57,ntmps57;go_wp2_with fail;refine C.o.mono ?_;rintro e w1 ⟨rfl,z,j⟩;have A:=Za (And.intro z j);clear z j;go_wp2_with fail;refine(wH pb tb cap d ts S 7 (by decide) w1 A.o.2).mono ?_;rintro e w2 ⟨rfl,z,j⟩;have H:=Za (And.intro (A.o.1.trans z) j);clear z j;go_wp2_with fail
  go_end0
  exact⟨rfl,H.o.1,H.o.2⟩
def Vd:Pr (bS)->bS
 | .inl (s,_)=>s
 | .inr _=>[]
theorem Gm (pb tb cap d:Nat) (ts:List Tok) (S:Yd) (w:wD) (h:Z2 w pb tb cap ts d S) (ok:Ym ts) :
  Calls prog 56 #[qP pb] w fun r w'=>r = .returned (.string ⟨(Vd (Zi (Zu ts) S)).toArray⟩)/\Zl pb w w'/\Z2 w' pb tb cap ts d (Zf (Zi (Zu ts) S)):=by
 obtain⟨a,h⟩:=h
 have H:=Za h
 have OK:=Za ok
 obtain⟨⟨c0,c1,c2,c3,c4,c5⟩,f1,f2,f3,f4,f5⟩:=h.cells
 obtain⟨q0,q1,q2,q3⟩:=h.toks a h.lt
 have Bf:(a:Int)<(ts.length:Int):=by have:=h.lt; omega
 have Ys:=h.ltp
 have Z:=Nat.lt_trans h.tlt h.ltp
 have hS:(∃ b,S = .inl b/\b=a)∨∃ p,S = .inr p/\(p.1 == 0)=false:=by
  cases S with
  | inl b=>exact .inl ⟨b,rfl,h.live b rfl⟩
  | inr p=>exact .inr ⟨p,rfl,by have:=h.bad p rfl; simpa using this⟩
 obtain⟨t,ht⟩:=xE (Zk ts a)
 rw [<- ht] at q0 q1 q2 q3
 obtain⟨es,A⟩:=xE (eS S)
 rw [<- A] at c3
 have D5:=Za A
 have HT:=Za ht
 clear ht A
 have HS:xQ (∀ W,Below w.heap.size w W->W.cell? (aP pb 0)=some (lP tb ts.length cap)/\W.cell? (aP pb 1)=some (iP a)/\d4 W tb (a*4) (iP t.kind) (uP t.text) (iP t.line) (iP t.col)):=fun W C =>
  ⟨(C.cell (p:=aP pb 0) Ys).trans c0,(C.cell (p:=aP pb 1) Ys).trans c1,(C.cell (p:=(aP tb (a*4))) Z).trans q0,(C.cell (p:=(aP tb (a*4+1))) Z).trans q1,(C.cell (p:=(aP tb (a*4+2))) Z).trans q2,(C.cell (p:=(aP tb (a*4+3))) Z).trans q3⟩
 have Mf:=HS.o w.drew (Below.refl _ _).drew
 have Y5:xQ (∀ o,_):=fun o=>HS.o ((w.alloc o).drew) (Zq w o).drew
 obtain⟨R,hR⟩:=xE (Zi (Zu ts) S)
 rw [<- hR]
 have HR:=Za hR
 have Uk:=Za hS
 clear c0 c1 c2 c3 c4 c5 q0 q1 q2 q3 h ok hR hS f1 f2 f3 f4 f5
 go_enter func56,ntmps56
 go_wp2_with fail
 go_region_held (fun W=>W.cell? (aP pb 0)=some (lP tb ts.length cap)/\W.cell? (aP pb 1)=some (iP a)/\d4 W tb (a*4) (iP t.kind) (uP t.text) (iP t.line) (iP t.col)) (first | with_reducible assumption | with_reducible exact Y5.o _) (fail)
 have J:xQ (Below w.heap.size w (w.alloc (Z3 t)).drew):=(Zq w _).drew
 have O:xQ ((w.alloc (Z3 t)).drew.heap[w.heap.size]?=some (Z3 t)):=xL _ _
 generalize (w.alloc (Z3 t)).drew=W1 at J O ⊢
 clear Mf Y5 HS
 have F:=Za (H.o.below J.o)
 obtain⟨⟨t0,t1,t2,t3⟩,_,Iw⟩:=Yh O.o
 obtain⟨⟨c0,c1,c2,c3,c4,c5⟩,f1,f2,f3,f4,f5⟩:=F.o.cells
 rw [<- D5.o] at c3
 rcases Uk.o with⟨b,Y,rfl⟩ | ⟨p,j,Qf⟩
 ·obtain rfl:es=0:=by rw [D5.o,Y]; rfl
  have Yy:xQ (R=if t.kind == 1 then .inl (t.text,b+1)else Vj ts 7 b):=by rw [HR.o,Y,HT.o]; exact rfl
  have I:=Za Y;clear Y c4 c5
  cases hk:(t.kind == 1)with
  | true =>
   have Yo:b+1<ts.length:=by
    have:=Af OK.o.ends F.o.lt;unfold Zu at this;rw [<- HT.o,hk] at this;exact this
   have hb9:b<8193:=by have:=OK.o.len; omega
   have N:xQ (R = .inl (t.text,b+1)):=by rw [Yy.o,hk]; rfl
   go_wp2_with fail;go_ret;rw [N.o];have z:=F.o;rw [I.o] at z;exact⟨rfl,(Zl.of H.o.ltp J.o).set 1 _,b+1,z.setAt (b:=b+1) Yo⟩
  | false =>
   have N:xQ (R=Vj ts 7 b):=by rw [Yy.o,hk]; rfl
   go_wp2_with fail;refine(wH pb tb cap d ts S 7 (by decide) W1 ⟨_,F.o⟩).mono ?_;rintro e w2 ⟨rfl,V,M⟩;have T:=Za (And.intro ((Zl.of H.o.ltp J.o).trans V) M);clear V M;go_wp2_with fail;go_ret;rw [N.o];have z:=T.o.2;rw [I.o] at z;exact⟨rfl,T.o.1,z⟩
 ·have:es=p.1:=by rw [D5.o,j]; rfl
  rw [<- this] at Qf
  have N:xQ (R = .inr p):=by rw [HR.o,j]; rfl
  have HSp:=Za j;clear j this c4 c5;go_wp2_with fail;refine(wH pb tb cap d ts S 7 (by decide) W1 ⟨_,F.o⟩).mono ?_;rintro e w2 ⟨rfl,V,M⟩;have T:=Za (And.intro ((Zl.of H.o.ltp J.o).trans V) M);clear V M;go_wp2_with fail;go_ret;rw [N.o];have z:=T.o.2;rw [HSp.o] at z;exact⟨rfl,T.o.1,z⟩
def Hz (d:Nat):Yd->Bool
 | .inl _=>decide (d<100)
 | .inr _=>false
def Bd (ts:List Tok) (d:Nat) (S:Yd):Yd:=if 100<=d then Im ts 6 S else S
theorem bK (pb tb cap d:Nat) (ts:List Tok) (S:Yd) (hd:d<=1000) (w:wD) (h:Z2 w pb tb cap ts d S) :
  Calls prog 75 #[qP pb] w fun r w'=>r = .returned (.bool (Hz d S))/\Zl pb w w'/\Z2 w' pb tb cap ts (if Hz d S then d+1 else d) (Bd ts d S):=by
 obtain⟨a,h⟩:=h
 have H:=Za h
 obtain⟨⟨c0,c1,c2,c3,c4,c5⟩,f1,f2,f3,f4,f5⟩:=h.cells
 by_cases F:100<=d
 ·have hge:(100:Int)<=(d:Int):=by omega
  have A:Bd ts d S=Im ts 6 S:=if_pos F
  have z:Hz d S=false:=by cases S <;> simp [Hz]; omega
  have I:∀ w',Z2 w' pb tb cap ts d (Im ts 6 S)->∃ a x l c,Ma w' pb tb cap ts d (.inr (x,l,c)) a/\(x == 0)=false/\Im ts 6 S = .inr (x,l,c):=by
   rintro w' ⟨a,j⟩
   cases hf:Im ts 6 S with
   | inl b=>cases S <;> cases hf
   | inr p =>
    rw [hf] at j;obtain⟨x,l,c⟩:=p;exact⟨a,x,l,c,j,by have:=j.bad _ rfl; simpa using this,rfl⟩
  rw [A,z,if_neg (by simp)];have T:=Za I;clear A z I h;go_enter func75,ntmps75;go_wp2_with fail;refine(wH pb tb cap d ts S 6 (by decide) w ⟨_,H.o⟩).mono ?_;rintro e w2 ⟨rfl,M,C⟩;obtain⟨b,x,l,c,j,hx,O⟩:=T.o w2 C;have J:=Za (And.intro M C);obtain⟨⟨g0,g1,g2,N,g4,g5⟩,_⟩:=j.cells;simp only [eS] at N;clear M C j O;go_wp2_with fail;go_ret;exact⟨rfl,J.o.1,J.o.2⟩
 ·have Zt:¬ (100:Int)<=(d:Int):=by omega
  have A:Bd ts d S=S:=if_neg F;rw [A];clear A
  cases S with
  | inr p =>
   have Qf:(p.1 == 0)=false:=by have:=h.bad p rfl; simpa using this
   simp only [eS] at c3
   show Calls _ _ _ _ fun r w'=>r = .returned (.bool false)/\Zl pb w w'/\Z2 w' pb tb cap ts d (.inr p)
   clear h;go_enter func75,ntmps75;go_wp2_with fail;go_ret;exact⟨rfl,Zl.refl _ _,a,H.o⟩
  | inl b =>
   have z:Hz d (.inl b)=true:=by simp [Hz]; omega
   rw [z,if_pos rfl];simp only [eS] at c3;clear h z;go_enter func75,ntmps75;go_wp2_with fail;go_ret;exact⟨rfl,(Zl.refl _ _).set 2 _,a,H.o.setDeep (d+1)⟩
section
attribute [local go_sem ↓] Go.wp_at_zero Go.wp_at_succ
def K3 (lo:Nat) (w:wD) (v:vL) (R:Pr Ty):Prop:=∀ x b,R = .inl (x,b)->Yk lo w v x
section
variable {lo lo' pb b o : Nat} {w w' : wD} {v : vL} {R : Pr Ty}
theorem K3.keep (h:K3 lo w v R) (j:w.heap.size<=w'.heap.size) (z:∀ b,lo<=b->b<w.heap.size->w'.heap[b]?=w.heap[b]?):K3 lo w' v R:=fun x b e=>(h x b e).keep j z
theorem K3.lower (h:K3 lo w v R) (j:lo'<=lo):K3 lo' w v R:=fun x b e=>(h x b e).lower j
theorem K3.stay (h:K3 lo w v R) (z:Zl pb w w') (j:pb<lo):K3 lo w' v R:=fun x b e=>(h x b e).stay z j
theorem K3.alloc (h:K3 lo w v R) (o:Obj):K3 lo (w.alloc o) v R:=fun x b e=>(h x b e).alloc o
end
def N0 (pb tb cap:Nat) (ts:List Tok) (d:Nat) (w:wD) (R:Pr Ty) (e:Ending) (w':wD):Prop :=
 Zl pb w w'/\Z2 w' pb tb cap ts d (Zf R)/\∃ (k:Int) (nm:bA) (na:oA) (nl nc:Nat) (ka:oA) (kl kc:Nat),e = .returned (.agg #[iP k,.string nm,.slice na nl nc,.slice ka kl kc])/\K3 w.heap.size w' (.agg #[iP k,.string nm,.slice na nl nc,.slice ka kl kc]) R
theorem Z2.alloc {w:wD} {pb tb cap d:Nat} {ts:List Tok} {S:Yd} (h:Z2 w pb tb cap ts d S) (o:Obj):Z2 (w.alloc o) pb tb cap ts d S:=h.below (Zq _ _)
theorem Z2.drew {w:wD} {pb tb cap d:Nat} {ts:List Tok} {S:Yd} (h:Z2 w pb tb cap ts d S):Z2 w.drew pb tb cap ts d S:=h.below (Below.refl _ _).drew
theorem Z2.ltp {w:wD} {pb tb cap d:Nat} {ts:List Tok} {S:Yd} (h:Z2 w pb tb cap ts d S):pb<w.heap.size:=by
 obtain⟨a,h⟩:=h
 exact h.ltp
theorem Z2.other {w:wD} {pb tb cap d b:Nat} {ts:List Tok} {S:Yd} (h:Z2 w pb tb cap ts d S) (hb:pb<b) (o:Nat) (u:vL):Z2 (w.setCell (aP b o) u) pb tb cap ts d S:=by
 obtain⟨a,h⟩:=h
 exact⟨a,(xH (by show pb≠b; omega)).trans h.blk,h.lt,h.live,h.bad,h.tlt,Lf h.toks (xH (by show tb≠b; have:=h.tlt; omega))⟩
theorem Z2.setDeep {w:wD} {pb tb cap d:Nat} {ts:List Tok} {S:Yd} (h:Z2 w pb tb cap ts d S) (n:Nat):Z2 (w.setCell (aP pb 2) (iP n)) pb tb cap ts n S:=by
 obtain⟨a,h⟩:=h
 exact⟨a,h.setDeep n⟩
theorem Z2.deep {w:wD} {pb tb cap d:Nat} {ts:List Tok} {S:Yd} (h:Z2 w pb tb cap ts d S):w.cell? (aP pb 2)=some (iP d)/\w.frozen? (aP pb 2)=false:=by
 obtain⟨a,h⟩:=h
 exact⟨h.cells.1.2.2.1,h.cells.2.2.1⟩
structure RX (pb tb cap:Nat) (ts:List Tok) (w0 w:wD) (d:Nat) (S:Yd) (bx:List (Nat×Obj)):Prop where
 st:Zl pb w0 w
 at_:Z2 w pb tb cap ts d S
 hp:pb<w0.heap.size
 has:∀ p ∈ bx,w.heap[p.1]?=some p.2/\w0.heap.size<=p.1
section
variable {pb tb cap d d' b : Nat} {ts : List Tok} {w0 w w' : wD} {S S' : Yd} {bx : List (Nat × Obj)} {o : Obj}
theorem Hb (h:Z2 w0 pb tb cap ts d S) (o:Obj):RX pb tb cap ts w0 (w0.alloc o) d S [(w0.heap.size,o)] :=
 ⟨Zl.of h.ltp (Zq _ _),h.alloc _,h.ltp,fun p j=>by rw [List.mem_singleton.1 j]; exact⟨xL _ _,xR⟩⟩
theorem RX.step (h:RX pb tb cap ts w0 w d S bx) (z:Zl pb w w') (A:Z2 w' pb tb cap ts d' S'):RX pb tb cap ts w0 w' d' S' bx :=
 ⟨h.st.trans z,A,h.hp,fun p j=>⟨(z.keep p.1 (by have:=(h.has p j).2; have:=h.hp; omega) (xB (h.has p j).1)).trans (h.has p j).1,(h.has p j).2⟩⟩
theorem RX.alloc (h:RX pb tb cap ts w0 w d S bx) (o:Obj):RX pb tb cap ts w0 (w.alloc o) d S ((w.heap.size,o) :: bx):=by
 have j:=h.step (Zl.of h.at_.ltp (Zq w o)) (h.at_.alloc o)
 refine⟨j.st,j.at_,j.hp,fun p z=>?_⟩
 rcases List.mem_cons.1 z with rfl | z
 ·exact⟨xL _ _,h.st.size⟩
 ·exact j.has p z
theorem RX.drew (h:RX pb tb cap ts w0 w d S bx):RX pb tb cap ts w0 w.drew d S bx:=⟨h.st.drew,h.at_.drew,h.hp,h.has⟩
theorem RX.deep (h:RX pb tb cap ts w0 w d S bx) (n:Nat):RX pb tb cap ts w0 (w.setCell (aP pb 2) (iP n)) n S bx :=
 ⟨h.st.set 2 _,h.at_.setDeep n,h.hp,fun p j=>⟨(xH (by show p.1≠pb; have:=(h.has p j).2; have:=h.hp; omega)).trans (h.has p j).1,(h.has p j).2⟩⟩
theorem RX.box (h:RX pb tb cap ts w0 w d S bx) {p:Nat×Obj} (j:p ∈ bx):w.heap[p.1]?=some p.2:=(h.has p j).1
end
theorem Z2.set4 {w:wD} {pb tb cap d b:Nat} {ts:List Tok} {S:Yd} (h:Z2 w pb tb cap ts d S) (j:pb<b) (z C F A:vL):Z2 ((((w.setCell (aP b 0) z).setCell (aP b 1) C).setCell (aP b 2) F).setCell (aP b 3) A) pb tb cap ts d S :=
 (((h.other j 0 _).other j 1 _).other j 2 _).other j 3 _
theorem rkids2 {lo g:Nat} {w:wD} {N F M A z I C H:vL} {D1 D2:Ty} {V:TypeId} (j:Yk lo w (.agg #[N,F,M,A]) D1) (J:Yk lo w (.agg #[z,I,C,H]) D2) (h:w.heap[g]?=some (.cells #[N,F,M,A,z,I,C,H] V)) (Y:lo<=g):∃ m,Qk w lo m (some (aP g 0)) [D1,D2]:=by
 obtain⟨Z,j⟩:=j
 obtain⟨O,J⟩:=J
 refine⟨max Z O,.inr ⟨g,0,rfl,Y,⟨_,_,h⟩,fun i T=>?_⟩⟩
 match i,T with
 | 0,_=>exact⟨N,F,M,A,by rw [cell_of_row _ _ _ _ _ _ h]; rfl,by rw [cell_of_row _ _ _ _ _ _ h]; rfl,by rw [cell_of_row _ _ _ _ _ _ h]; rfl,by rw [cell_of_row _ _ _ _ _ _ h]; rfl,Rf j (Nat.le_max_left _ _)⟩
 | 1,_=>exact⟨z,I,C,H,by rw [cell_of_row _ _ _ _ _ _ h]; rfl,by rw [cell_of_row _ _ _ _ _ _ h]; rfl,by rw [cell_of_row _ _ _ _ _ _ h]; rfl,by rw [cell_of_row _ _ _ _ _ _ h]; rfl,Rf J (Nat.le_max_right _ _)⟩
theorem bR {lo:Nat} {w:wD} {k:Int} {ka:oA} {kc m:Nat} {ks:List Ty} (A:(Lit.int .i64 k).wf=true) (h:Qk w lo m ka ks) (j:ks.length<=kc) (z:ks.length<=100000):Yk lo w (.agg #[iP k,sP,nP,.slice ka ks.length kc]) (Y7 k [] [] ks) :=
 ⟨m+1,k,⟨#[]⟩,none,0,ka,kc,[],ks,rfl,rfl,A,by decide,(fun _ h=>nomatch h),⟨xR,xZ _⟩,⟨j,Nat.le_trans z (by decide)⟩,.inl rfl,h⟩
theorem vR (d:Nat):((d+1:Nat):Int) - 1=(d:Int):=by omega
theorem zhc (pb tb cap d:Nat) (ts:List Tok) (ok:Ym ts) (A K:Nat->Pr Ty) (hd:d<=1000)
  (hA:d<100->∀ S w,Z2 w pb tb cap ts (d+1) S->Calls prog 96 #[qP pb] w (N0 pb tb cap ts (d+1) w (Zi A S)))
  (hK:d<100->∀ S w,Z2 w pb tb cap ts (d+1) S->Calls prog 73 #[qP pb] w (N0 pb tb cap ts (d+1) w (Zi K S)))
  (S:Yd) (w:wD) (h:Z2 w pb tb cap ts d S) :
  Calls prog 73 #[qP pb] w (N0 pb tb cap ts d w (Zi (fun a=>if 100<=d then Vj ts 6 a else(A a).go fun t a=>if Zg ts a [45,62] then(K (a+1)).go fun r a => .inl (Y7 6 [] [] [t,r],a)else .inl (t,a)) S)):=by
 obtain⟨R,hR⟩:∃ R:Pr Ty,R=Zi (fun a=>if 100<=d then Vj ts 6 a else(A a).go fun t a=>if Zg ts a [45,62] then(K (a+1)).go fun r a => .inl (Y7 6 [] [] [t,r],a)else .inl (t,a)) S:=⟨_,rfl⟩
 rw [<- hR]
 have HR:=Za hR
 have HA:=Za hA
 have HK:=Za hK
 have OK:=Za ok
 have X0:=Za (Hb h Ww)
 have P6:=Za (fun wx hx=>bK pb tb cap d ts S hd wx hx)
 clear h hA hK ok hR
 cases U4:Hz d S with
 | false =>
  have HS:xQ (Zf R=Bd ts d S/\∀ x b,R ≠ .inl (x,b)):=by
   show _/\_;rw [HR.o]
   cases S with
   | inr p =>
    refine⟨?_,fun x b e=>by cases e⟩;show Sum.inr p=Bd ts d (.inr p);unfold Bd
    split <;> rfl
   | inl a =>
    have Nj:100<=d:=by simp [Hz] at U4; exact U4
    refine⟨?_,fun x b e=>?_⟩
    ·show Zf (if 100<=d then _ else _)=Bd ts d (.inl a)
     unfold Bd;rw [if_pos Nj,if_pos Nj];rfl
    ·have:(if 100<=d then(Vj ts 6 a:Pr Ty)else _) = .inl (x,b):=e
     rw [if_pos Nj] at this;cases this
  rw [U4] at P6;clear U4;go_enter func73,ntmps73;go_wp2_with fail;refine(P6.o _ X0.o.at_).mono ?_;rintro e w1 ⟨rfl,Zb,Zd⟩;have X1:=Za (X0.o.step Zb Zd);clear Zb Zd;obtain⟨⟨r0,r1,r2,r3⟩,⟨f0,f1,f2,f3⟩,Xe⟩:=Yh (X1.o.box (p:=(w.heap.size,Ww)) (by simp));go_wp2_with fail;refine r94 rfl rfl (set4 (X1.o.box (p:=(w.heap.size,Ww)) (by simp)) _ _ _ _) rfl ⟨Q6 X1.o.st X1.o.hp (xR) _ _ _ _,?_,0,⟨#[]⟩,none,0,0,none,0,0,rfl,fun x b e=>absurd e (HS.o.2 x b)⟩
  rw [HS.o.1];exact X1.o.at_.set4 X1.o.hp _ _ _ _
 | true =>
  obtain⟨a,rfl⟩:∃ a,S = .inl a:=by cases S with
   | inl a=>exact⟨a,rfl⟩
   | inr p=>cases U4
  have Nj:¬ 100<=d:=by simp [Hz] at U4; omega
  replace HA:=Za (HA.o (by omega));replace HK:=Za (HK.o (by omega))
  have Kc:xQ (R=(A a).go fun t a=>if Zg ts a [45,62] then(K (a+1)).go fun r a => .inl (Y7 6 [] [] [t,r],a)else .inl (t,a)):=by rw [HR.o]; exact if_neg Nj
  have e1:Bd ts d (.inl a) = .inl a:=if_neg Nj;rw [U4,e1] at P6;clear U4 e1 HR;go_enter func73,ntmps73;go_wp2_with fail;refine(P6.o _ X0.o.at_).mono ?_;rintro e w1 ⟨rfl,Zb,Zd⟩;have X1:=Za (X0.o.step Zb Zd);clear Zb Zd;go_wp2_with fail;refine(HA.o _ _ X1.o.at_).mono ?_;rintro e w2 ⟨Zb,Zd,k1,j,F,C,I,J,H,z,rfl,hv⟩;have X2:=Za (X1.o.step Zb Zd);have Lo:=Za hv
  clear Zb Zd hv;obtain⟨R1,Xj⟩:=xE (A a);have Yl:=Za Xj;have e2:Zi A (.inl a)=R1:=Xj.symm;rw [e2] at X2 Lo
  have Ic:xQ (R=R1.go fun t a=>if Zg ts a [45,62] then(K (a+1)).go fun r a => .inl (Y7 6 [] [] [t,r],a)else .inl (t,a)):=by rw [Yl.o]; exact Kc.o
  clear Xj e2 Kc X0;have X3:=Za (X2.o.alloc (Z7 k1 j F C I J H z))
  have HV:xQ (∀ wz,w2.heap.size<=wz.heap.size->(∀ b,w.heap.size+1<=b->b<w2.heap.size->wz.heap[b]?=w2.heap[b]?)->K3 (w.heap.size+1) wz (.agg #[iP k1,.string j,.slice F C I,.slice J H z]) R1):=fun wz h1 h2=>(Lo.o.lower (xB (X1.o.box (p:=(w.heap.size,Ww)) (by simp)))).keep h1 h2
  have Li:xQ (∀ b,w.heap.size+1<=b->b<w2.heap.size->(w2.alloc (Z7 k1 j F C I J H z)).heap[b]?=w2.heap[b]?):=fun b _ hl=>xA hl
  have Yo:w.heap.size<w2.heap.size:=xB (X2.o.box (p:=(w.heap.size,Ww)) (by simp));clear X1 X2 Lo;go_wp2_with fail;generalize w2.alloc (Z7 k1 j F C I J H z)=W3 at X3 Li ⊢;generalize w2.heap.size=tb2 at X3 Yo Li HV ⊢;refine(Vi pb tb cap (d+1) ts (Zf R1) [45,62] W3 X3.o.at_ OK.o).mono ?_;rintro e w4 ⟨rfl,Zb,Zd⟩;have X4:=Za (X3.o.step Zb Zd);have hT3:=xB (X3.o.box (p:=(tb2,Z7 k1 j F C I J H z)) (by simp))
  have M9:xQ (∀ b,w.heap.size+1<=b->b<tb2->w4.heap[b]?=w2.heap[b]?):=fun b h1 h2=>(Zb.keep b (by have:=X3.o.hp; omega) (by omega)).trans (Li.o b h1 h2)
  clear Zb Zd X3 Li hT3;obtain⟨⟨r0,r1,r2,r3⟩,⟨f0,f1,f2,f3⟩,Xe⟩:=Yh (X4.o.box (p:=(w.heap.size,Ww)) (by simp));obtain⟨⟨t0,t1,t2,t3⟩,⟨g0,g1,g2,g3⟩,Ug⟩:=Yh (X4.o.box (p:=(tb2,Z7 k1 j F C I J H z)) (by simp));obtain⟨Tj,Ki⟩:=X4.o.at_.deep;have hpw:=X4.o.hp
  have Ub:¬ tb2=w.heap.size:=by omega
  have Up:¬ pb=w.heap.size:=by omega
  have Sv:¬ pb=tb2:=by omega
  have hdk:((d+1:Nat):Int) - 1=(d:Int):=vR d
  cases hs:Y2 ts (Zf R1) [45,62] with
  | false =>
   rw [hs,if_neg (by simp)] at X4
   have HE:xQ (R=R1):=by
    show _=_;rw [Ic.o]
    cases R1 with
    | inr p=>rfl
    | inl q =>
     show(if Zg ts q.2 [45,62] then _ else _)=_;rw [show Zg ts q.2 [45,62]=false from hs];rfl
   clear hs;go_wp2_with fail;have XD:=X4.o.deep d;rw [HE.o];refine r94 rfl rfl (set4 (XD.box (p:=(w.heap.size,Ww)) (by simp)) _ _ _ _) rfl ⟨Q6 XD.st XD.hp (xR) _ _ _ _,XD.at_.set4 XD.hp _ _ _ _,k1,j,F,C,I,J,H,z,rfl,?_⟩;refine(HV.o _ (by simp only [Yg]; omega) fun b h1 h2=>?_).lower (by omega);exact(Q1 (by omega) _ _ _ _).trans ((xH (by show b≠pb; omega)).trans (M9.o b h1 h2))
  | true =>
   rw [hs,if_pos rfl] at X4
   obtain⟨D1,b1,Xj⟩:∃ D1 b1,R1 = .inl (D1,b1):=by
    cases R1 with
    | inr p=>cases hs
    | inl q=>exact⟨q.1,q.2,rfl⟩
   have Zy:xQ (R=(K (b1+1)).go fun r a => .inl (Y7 6 [] [] [D1,r],a)):=by
    rw [Ic.o,Xj];show(if Zg ts b1 [45,62] then _ else _)=_;rw [Xj] at hs;rw [show Zg ts b1 [45,62]=true from hs];rfl
   have HV1:xQ (∀ wz,tb2<=wz.heap.size->(∀ b,w.heap.size+1<=b->b<tb2->wz.heap[b]?=w2.heap[b]?)->Yk (w.heap.size+1) wz (.agg #[iP k1,.string j,.slice F C I,.slice J H z]) D1):=fun wz h1 h2=>HV.o wz h1 h2 _ _ Xj
   have e3:Nr (Zf R1) = .inl (b1+1):=by rw [Xj]; rfl
   rw [e3] at X4;clear hs Xj e3 Ic Yl HV r0 r1 r2 r3 f0 f1 f2 f3 Xe t0 t1 t2 t3 g0 g1 g2 g3 Ug Tj Ki;obtain⟨R2,Tg⟩:=xE (K (b1+1))
   have HRe:xQ (R=R2.go fun r a => .inl (Y7 6 [] [] [D1,r],a)):=by rw [Tg]; exact Zy.o
   have e4:Zi K (.inl (b1+1))=R2:=Tg.symm;have HC:=Za (HK.o _ _ X4.o.at_);rw [e4] at HC;clear Tg e4 Zy;go_wp2_with fail;refine HC.o.mono ?_;rintro e M ⟨Zb,Zd,k2,T,V,Z,Y,O,N,kc2,rfl,hv⟩;have X5:=Za (X4.o.step Zb Zd);have hT4:=xB (X4.o.box (p:=(tb2,Z7 k1 j F C I J H z)) (by simp))
   have HF5:xQ (∀ b,w.heap.size+1<=b->b<tb2->M.heap[b]?=w2.heap[b]?):=fun b h1 h2=>(Zb.keep b (by omega) (by omega)).trans (M9.o b h1 h2)
   have Lp:xQ (∀ wz,M.heap.size<=wz.heap.size->(∀ b,tb2+1<=b->b<M.heap.size->wz.heap[b]?=M.heap[b]?)->K3 (w.heap.size+1) wz (.agg #[iP k2,.string T,.slice V Z Y,.slice O N kc2]) R2):=fun wz h1 h2=>((hv.lower (show tb2+1<=w4.heap.size from hT4)).keep h1 h2).lower (by omega)
   clear Zb Zd hv HC X4 M9 hT4;obtain⟨⟨r0,r1,r2,r3⟩,⟨f0,f1,f2,f3⟩,Xe⟩:=Yh (X5.o.box (p:=(w.heap.size,Ww)) (by simp));obtain⟨⟨t0,t1,t2,t3⟩,⟨g0,g1,g2,g3⟩,Ug⟩:=Yh (X5.o.box (p:=(tb2,Z7 k1 j F C I J H z)) (by simp));obtain⟨Tj,Ki⟩:=X5.o.at_.deep;have Ys:=X5.o.at_.ltp;have htl5:tb2<M.heap.size:=Ug;have hwl5:w.heap.size<M.heap.size:=Xe;go_wp2_with fail
   have Wr:M.heap[w.heap.size]?=some Ww:=X5.o.box (p:=(w.heap.size,Ww)) (by simp)
   have b2:(((((M.setCell (aP tb2 0) (iP 6)).setCell (aP tb2 1) sP).setCell (aP tb2 2) nP).setCell (aP tb2 3) (lP (M.heap.size+1) 2 2)).setCell (aP pb 2) (iP d)).heap[w.heap.size]?=some Ww :=
    (xH (by show w.heap.size≠pb; omega)).trans ((Q1 (by omega) _ _ _ _).trans Wr)
   have Zb:=(((Q6 ((Q6 X5.o.st hpw (show w.heap.size<=tb2 by omega) (iP 6) sP nP (lP (M.heap.size+1) 2 2)).set 2 (iP d)) hpw (xR) (iP 6) sP nP (lP (M.heap.size+1) 2 2)).alloc hpw (.cells #[iP k2,.string T,.slice V Z Y,.slice O N kc2] 94)).alloc hpw (.cells #[iP k1,.string j,.slice F C I,.slice J H z,iP k2,.string T,.slice V Z Y,.slice O N kc2] 94))
   have Zd:=((((X5.o.at_.set4 (show pb<tb2 by omega) (iP 6) sP nP (lP (M.heap.size+1) 2 2)).setDeep d).set4 hpw (iP 6) sP nP (lP (M.heap.size+1) 2 2)).alloc (.cells #[iP k2,.string T,.slice V Z Y,.slice O N kc2] 94)).alloc (.cells #[iP k1,.string j,.slice F C I,.slice J H z,iP k2,.string T,.slice V Z Y,.slice O N kc2] 94);have hbf:=(Below.heap_alloc (((((((((((M.setCell (aP tb2 0) (iP 6)).setCell (aP tb2 1) sP).setCell (aP tb2 2) nP).setCell (aP tb2 3) (lP (M.heap.size+1) 2 2)).setCell (aP pb 2) (iP d)).setCell (aP w.heap.size 0) (iP 6)).setCell (aP w.heap.size 1) sP).setCell (aP w.heap.size 2) nP).setCell (aP w.heap.size 3) (lP (M.heap.size+1) 2 2))).alloc (.cells #[iP k2,.string T,.slice V Z Y,.slice O N kc2] 94)) (.cells #[iP k1,.string j,.slice F C I,.slice J H z,iP k2,.string T,.slice V Z Y,.slice O N kc2] 94) w.heap.size (by rw [xS]; simp only [Yg]; omega)).trans ((Below.heap_alloc _ (.cells #[iP k2,.string T,.slice V Z Y,.slice O N kc2] 94) w.heap.size (by simp only [Yg]; omega)).trans (set4 b2 (iP 6) sP nP (lP (M.heap.size+1) 2 2)))
   have Yu:=Bg ((((((((((M.setCell (aP tb2 0) (iP 6)).setCell (aP tb2 1) sP).setCell (aP tb2 2) nP).setCell (aP tb2 3) (lP (M.heap.size+1) 2 2)).setCell (aP pb 2) (iP d)).setCell (aP w.heap.size 0) (iP 6)).setCell (aP w.heap.size 1) sP).setCell (aP w.heap.size 2) nP).setCell (aP w.heap.size 3) (lP (M.heap.size+1) 2 2))) (.cells #[iP k2,.string T,.slice V Z Y,.slice O N kc2] 94) (.cells #[iP k1,.string j,.slice F C I,.slice J H z,iP k2,.string T,.slice V Z Y,.slice O N kc2] 94)
   simp only [Yg] at Yu;generalize Zm:((((((((((((M.setCell (aP tb2 0) (iP 6)).setCell (aP tb2 1) sP).setCell (aP tb2 2) nP).setCell (aP tb2 3) (lP (M.heap.size+1) 2 2)).setCell (aP pb 2) (iP d)).setCell (aP w.heap.size 0) (iP 6)).setCell (aP w.heap.size 1) sP).setCell (aP w.heap.size 2) nP).setCell (aP w.heap.size 3) (lP (M.heap.size+1) 2 2)).alloc (.cells #[iP k2,.string T,.slice V Z Y,.slice O N kc2] 94)).alloc (.cells #[iP k1,.string j,.slice F C I,.slice J H z,iP k2,.string T,.slice V Z Y,.slice O N kc2] 94)))=Wf at Zb Zd hbf Yu ⊢
   have hsz:M.heap.size<=Wf.heap.size:=by rw [<- Zm,xS,xS]; simp only [Yg]; omega
   have hke:∀ b,b≠tb2->b≠pb->b≠w.heap.size->b<M.heap.size->Wf.heap[b]?=M.heap[b]?:=fun b h1 h2 h3 h4=>by
    rw [<- Zm,xA (by rw [xS]; simp only [Yg]; omega),xA (by simp only [Yg]; omega),Q1 h3,xH h2,Q1 h1]
   clear Zm;refine r94 rfl rfl hbf rfl ⟨Zb,?_,6,⟨#[]⟩,none,0,0,some (aP (M.heap.size+1) 0),2,2,rfl,?_⟩
   ·rw [HRe.o]
    cases R2 with
    | inr q=>exact Zd
    | inl q=>exact Zd
   ·intro y c e
    rw [HRe.o] at e
    cases Tg:R2 with
    | inr q=>rw [Tg] at e; cases e
    | inl q =>
     rw [Tg] at e;injection e with e;injection e with e _;rw [<- e]
     have g1:=HV1.o Wf (by omega) fun b h1 h2=>(hke b (by omega) (by omega) (by omega) (by omega)).trans (HF5.o b h1 h2)
     have g2:=Lp.o Wf hsz (fun b h1 h2=>hke b (by omega) (by omega) (by omega) h2) q.1 q.2 (by rw [Tg]);obtain⟨m,hk⟩:=rkids2 g1 g2 Yu (by omega);exact(bR (by decide) hk (by simp) (by simp)).lower (by omega)
def Qm (lo:Nat) (w:wD) (c:List vL) (x:Option Ty):Prop:=(∃ (k:Int) (nm:bA) (na:oA) (nl nc:Nat) (ka:oA) (kl kc:Nat),c=[iP k,.string nm,.slice na nl nc,.slice ka kl kc])/\∀ t,x=some t->Kf lo w c t
theorem eK:B5 Qm where
 keep:=fun h z A=>⟨h.1,fun t e=>mA.keep (h.2 t e) z A⟩
 lower:=fun h j=>⟨h.1,fun t e=>mA.lower (h.2 t e) j⟩
def Vy {α:Type}:Pr α->Option α
 | .inl (x,_)=>some x
 | .inr _=>none
theorem wR {lo:Nat} {w:wD} {k:Int} {nm:bA} {na:oA} {nl nc:Nat} {ka:oA} {kl kc:Nat} {R:Pr Ty} (h:K3 lo w (.agg #[iP k,.string nm,.slice na nl nc,.slice ka kl kc]) R):Qm lo w [iP k,.string nm,.slice na nl nc,.slice ka kl kc] (Vy R) :=
 ⟨⟨k,nm,na,nl,nc,ka,kl,kc,rfl⟩,fun t e=>by
  cases R with
  | inr p=>cases e
  | inl q =>
   obtain⟨x,b⟩:=q;injection e with e;rw [<- e]
   exact h x b rfl⟩
def Ok (ts:List Tok) (one:Nat->Pr Ty) (sep:bS) (Rm:Pr (List Ty)) (S:Yd) (acc:List (Option Ty)) (gk:Nat):Prop :=
 (∃ b l m,S = .inl b/\acc=l.map some/\F8 ts one sep Rm l m b/\ts.length<=b+(m+1)/\l.length<=b+1/\ts.length - b<=gk)∨∃ e,S = .inr e/\Rm = .inr e/\acc.length<=8195
theorem RX.drop {pb tb cap d:Nat} {ts:List Tok} {w0 w:wD} {S:Yd} {p:Nat×Obj} {bx:List (Nat×Obj)} (h:RX pb tb cap ts w0 w d S (p :: bx)):RX pb tb cap ts w0 w d S bx:=⟨h.st,h.at_,h.hp,fun q j=>h.has q (xW _ j)⟩
theorem Ok.len {ts:List Tok} {one:Nat->Pr Ty} {sep:bS} {Rm:Pr (List Ty)} {S:Yd} {acc:List (Option Ty)} {gk:Nat} (h:Ok ts one sep Rm S acc gk) (j:∀ b,S = .inl b->b<8193):acc.length<=8195:=by
 rcases h with⟨b,l,m,e,rfl,_,_,h1,_⟩ | ⟨e,_,_,h⟩
 ·have:=j b e
  rw [List.length_map];omega
 ·exact h
theorem iC (ts:List Tok) (one:Nat->Pr Ty) (sep:bS) (f:Nat) (S:Yd) (j:∀ a x b,one a = .inl (x,b)->a<=b) (z:∀ a,S = .inl a->ts.length<=a+(f+1)) :
  Ok ts one sep (Zi (fun a=>Z9 ts one sep (f+1) a) S) (Zf (Zi one S)) [Vy (Zi one S)] ts.length:=by
 cases S with
 | inr p=>exact .inr ⟨p,rfl,rfl,by show 1<=8195; decide⟩
 | inl a =>
  cases h:one a with
  | inr e=>exact .inr ⟨e,by show Zf (one a)=_; rw [h]; rfl,by show Z9 ts one sep (f+1) a=_; exact qO h,by show 1<=8195; decide⟩
  | inl q =>
   obtain⟨x,b⟩:=q;have:=j a x b h;have:=z a rfl;exact .inl ⟨b,[x],f,by show Zf (one a)=_; rw [h]; rfl,by show [Vy (one a)]=_; rw [h]; rfl,qT h,by omega,by show 1<=b+1; omega,by omega⟩
theorem iA {ts:List Tok} {one:Nat->Pr Ty} {sep:bS} {Rm:Pr (List Ty)} {S:Yd} {acc:List (Option Ty)} {gk:Nat} (h:Ok ts one sep Rm S acc gk) (j:Y2 ts S sep=true) (A:∀ b,S = .inl b->b+1<ts.length) (ok:ts.length<=8193) (z:∀ a x b,one a = .inl (x,b)->a<=b) :
  ∃ b,S = .inl b/\(∃ g',g'<gk/\Ok ts one sep Rm (Zf (Zi one (Nr S))) (acc ++ [Vy (Zi one (Nr S))]) g'):=by
 rcases h with⟨b,l,m,rfl,rfl,hm,h1,h2,h3⟩ | ⟨e,rfl,_⟩
 ·have Yo:=A b rfl
  obtain⟨m,rfl⟩:∃ q,m=q+1:=⟨m - 1,by omega⟩
  refine⟨b,rfl,?_⟩
  cases h:one (b+1)with
  | inr e=>exact⟨0,by omega,.inr ⟨e,by show Zf (one (b+1))=_; rw [h]; rfl,qR hm j h,by simp; omega⟩⟩
  | inl q =>
   obtain⟨x,c⟩:=q;have:=z _ _ _ h;exact⟨ts.length - c,by omega,.inl ⟨c,l ++ [x],m,by show Zf (one (b+1))=_; rw [h]; rfl,by show _ ++ [Vy (one (b+1))]=_; rw [h]; simp [Vy],qS hm j h,by omega,by simp; omega,xR⟩⟩
 ·cases j
theorem cX {ts:List Tok} {one:Nat->Pr Ty} {sep:bS} {Rm:Pr (List Ty)} {S:Yd} {acc:List (Option Ty)} {gk:Nat} (h:Ok ts one sep Rm S acc gk) (j:Y2 ts S sep=false):(∃ b l,S = .inl b/\acc=l.map some/\Rm = .inl (l,b))∨∃ e,S = .inr e/\Rm = .inr e:=by
 rcases h with⟨b,l,m,rfl,rfl,hm,_⟩ | ⟨e,rfl,h,_⟩
 ·exact .inl ⟨b,l,rfl,rfl,qQ hm j⟩
 ·exact .inr ⟨e,rfl,h⟩
theorem wJ {B et:Nat} {o:Option Nat} {wx:wD} {v:vL} {cs:List (List vL)} {l:List Ty} (h:Yq Qm B et 4 o wx v cs (l.map some)):Yq Kf B et 4 o wx v cs l:=by
 refine⟨by rw [h.len,List.length_map],h.each,by have:=h.ow; rwa [List.length_map] at this,h.apart,h.olt,fun i z C=>?_⟩
 obtain⟨j,lo,F,A⟩:=h.made i z (by rw [List.length_map]; exact C)
 exact⟨j,lo,F.2 _ (by rw [List.getElem_map]),A⟩
theorem ralt_c (pb tb cap d:Nat) (ts:List Tok) (ok:Ym ts) (one:Nat->Pr Ty) (f:Nat) (hf:ts.length<=f+1) (hu:∀ a x b,one a = .inl (x,b)->a<=b)
  (hP:∀ S w,Z2 w pb tb cap ts d S->Calls prog 109 #[qP pb] w (N0 pb tb cap ts d w (Zi one S)))
  (S:Yd) (w:wD) (h:Z2 w pb tb cap ts d S) :
  Calls prog 96 #[qP pb] w (N0 pb tb cap ts d w ((Zi (fun a=>Z9 ts one [124] (f+1) a) S).go fun l a=>match l with | [t] => .inl (t,a) | l => .inl (Y7 7 [] [] l,a))):=by
 have H0:=Za (iC ts one [124] f S hu (fun a _=>by omega))
 obtain⟨Rm,M5⟩:=xE (Zi (fun a=>Z9 ts one [124] (f+1) a) S)
 rw [<- M5] at H0 ⊢
 have HP:=Za hP
 have HU:=Za hu
 have OK:=Za ok
 have X0:=Za (Hb h Ww)
 obtain⟨i0,hi,Xr,Xg,Xw⟩:=info_parts Iy
 clear h hP ok M5 hu
 go_enter func96,ntmps96
 go_wp2_with fail
 refine(HP.o _ _ X0.o.at_).mono ?_
 rintro e w1 ⟨T,Zd,k1,nm1,na1,nl1,nc1,ka1,kl1,kc1,rfl,hv⟩
 have X1:=Za (X0.o.step T Zd)
 have Yl:=Za (zT (B:=w.heap.size+1) (et:=94) (k:=4) (rep:=Qm) (c:=[iP k1,.string nm1,.slice na1 nl1 nc1,.slice ka1 kl1 kc1]) (wR hv) (by simp) (by have:=T.size; simp at this; omega) rfl)
 have X2:=Za (X1.o.alloc (.cells #[iP k1,.string nm1,.slice na1 nl1 nc1,.slice ka1 kl1 kc1] 94))
 clear T Zd hv X0 X1
 go_wp2_with fail
 go_loopg [3] (ts.length) (fun gk s wr=>∃ (S:Yd) (cs:List (List vL)) (acc:List (Option Ty)),xQ (RX pb tb cap ts w wr d S [(w.heap.size,Ww)])/\xQ (Yq Qm (w.heap.size+1) 94 4 none wr s cs acc)/\xQ (Ok ts one [124] Rm S acc gk)/\1<=acc.length)
 case atStart=>exact⟨_,_,_,X2.o.drop,Yl,H0,Nat.le_refl 1⟩
 case round =>
  clear X2 Yl H0;obtain⟨S',cs,acc,X,RW,HA,yR⟩:=hrel
  have Lw:acc.length<=8195:=HA.o.len fun b e=>by
   obtain⟨a,ha⟩:=X.o.at_;have:=ha.live b e;have:=ha.lt;have:=OK.o.len;omega
  go_wp2_with fail;refine(Vi pb tb cap d ts S' [124] _ X.o.at_ OK.o).mono ?_;rintro e w2 ⟨rfl,T,Zd⟩;have O:=Za (X.o.step T Zd);have RT:=Za (RW.o.stay T (by have:=X.o.hp; omega));clear T Zd RW
  cases hs:Y2 ts S' [124] with
  | false =>
   rw [hs,if_neg (by simp)] at O;have HE:=Za (cX HA.o hs);clear hs HA X;obtain⟨av,cv,rfl,hcv,hform⟩:=RT.o.form eK
   obtain⟨g,rfl,hgB,hgc,Fd⟩:∃ g,av=some (aP g 0)/\w.heap.size+1<=g/\Hg w2 g/\∀ i (hi:i<acc.length),∃ c:List vL,c.length=4/\(∀ j,j<4->w2.cell? (aP g (i*4+j))=c[j]?)/\Qm (w.heap.size+1) w2 c acc[i]:=by
    rcases hform with e | h
    ·rw [e] at yR; exact absurd yR (by simp)
    ·exact h
   obtain⟨c,_,hcj,⟨k0,nm0,na0,nl0,nc0,ka0,kl0,kc0,rfl⟩,hcq⟩:=Fd 0 yR;have q0:=hcj 0 (by decide);have q1:=hcj 1 (by decide);have q2:=hcj 2 (by decide);have q3:=hcj 3 (by decide);have HCQ:=Za hcq;simp only [Nat.zero_mul,Nat.zero_add] at q0 q1 q2 q3;have Gb:=Lq hgc;clear hcj hcq Fd hform hgc;have Wr:=O.o.box (p:=(w.heap.size,Ww)) (by simp);obtain⟨⟨r0,r1,r2,r3⟩,⟨f0,f1,f2,f3⟩,Xe⟩:=Yh Wr
   have Jp:=Za Wr;clear Wr
   have Z1:¬ g=w.heap.size:=by omega
   have hp:=O.o.hp;by_cases h1:acc.length=1
   ·have Mz:=Za h1
    have h1':((acc.length:Int) == 1)=true:=by rw [h1]; rfl
    clear h1;go_wp2_with fail
    have Y:∀ l:List Ty,acc=l.map some->∃ t,l=[t]:=fun l e=>by
     have:=Mz.o;rw [e,List.length_map] at this;exact List.length_eq_one_iff.1 this
    refine r94 rfl rfl (set4 Jp.o _ _ _ _) rfl ⟨Q6 O.o.st hp (xR) _ _ _ _,?_,k0,nm0,na0,nl0,nc0,ka0,kl0,kc0,rfl,?_⟩
    ·have:=O.o.at_.set4 hp (iP k0) (.string nm0) (.slice na0 nl0 nc0) (.slice ka0 kl0 kc0)
     rcases HE.o with⟨b,l,rfl,N,V⟩ | ⟨e,rfl,V⟩
     ·obtain⟨t,rfl⟩:=Y l N
      rw [V]; exact this
     ·rw [V]; exact this
    ·intro y cc z
     rcases HE.o with⟨b,l,rfl,N,V⟩ | ⟨e,rfl,V⟩
     ·obtain⟨t,rfl⟩:=Y l N
      rw [V] at z;injection z with z;injection z with z _;rw [<- z];have hq:=HCQ.o t (by simp only [N,List.map_cons,List.getElem_cons_zero]);exact Yk.lower (Yk.set4 (show Yk (w.heap.size+1) w2 _ t from hq) (by omega) _ _ _ _) (by omega)
     ·rw [V] at z; cases z
   ·have h1':((acc.length:Int) == 1)=false:=by rw [beq_eq_false_iff_ne]; omega
    have Mz:=Za h1;clear h1;go_wp2_with fail;refine r94 rfl rfl (set4 Jp.o _ _ _ _) rfl ⟨Q6 O.o.st hp (xR) _ _ _ _,?_,7,⟨#[]⟩,none,0,0,some (aP g 0),acc.length,cv,rfl,?_⟩
    ·have:=O.o.at_.set4 hp (iP 7) sP nP (lP g acc.length cv)
     rcases HE.o with⟨b,l,rfl,N,V⟩ | ⟨e,rfl,V⟩
     ·rw [V]
      match l,N with
      | [],_=>exact this
      | [t],N=>exact absurd (by rw [N]; rfl) Mz.o
      | _ :: _ :: _,_=>exact this
     ·rw [V]; exact this
    ·intro y cc z
     rcases HE.o with⟨b,l,rfl,N,V⟩ | ⟨e,rfl,V⟩
     ·have hy:y=Y7 7 [] [] l:=by
       rw [V] at z
       match l,N,z with
       | [],_,z=>injection z with z; injection z with z _; exact z.symm
       | [t],N,_=>exact absurd (by rw [N]; rfl) Mz.o
       | _ :: _ :: _,_,z=>injection z with z; injection z with z _; exact z.symm
      rw [hy];have hr:=RT.o;rw [N] at hr;obtain⟨a',cap',m,ea,Xl,hk⟩:=Ek (wJ hr);rw [List.length_map] at ea;injection ea with ea _ ec;subst ea ec
      have hl8:l.length<=8195:=by rw [N,List.length_map] at Lw; exact Lw
      have Tt:=L4 hk (w':=((((w2.setCell (aP w.heap.size 0) (iP 7)).setCell (aP w.heap.size 1) sP).setCell (aP w.heap.size 2) nP).setCell (aP w.heap.size 3) (lP g acc.length cv))) (by rw [Ak]; exact xR) fun b hb _=>Q1 (by omega) _ _ _ _
      have:=bR (k:=7) (by decide) Tt Xl (by omega);rw [N,List.length_map];rw [N,List.length_map] at this;refine Yk.lower this ?_;omega
     ·rw [V] at z; cases z
  | true =>
   have Dn:∀ b,S' = .inl b->b+1<ts.length:=fun b e=>by
    obtain⟨a,ha⟩:=X.o.at_;have hb:=ha.live b e;subst hb;rw [e] at hs;exact Xx OK.o.ends ha.lt hs
   obtain⟨b,Mg,g',Qp,Dm⟩:=iA HA.o hs Dn OK.o.len HU.o;have HN:=Za Dm;rw [hs,if_pos rfl] at O;clear hs HA X Dn Mg Dm;obtain⟨R2,Tg⟩:=xE (Zi one (Nr S'));have HC:=Za (HP.o _ _ O.o.at_);rw [<- Tg] at HN HC;clear Tg;obtain⟨av,cv,rfl⟩:=Yt RT.o.ow;go_wp2_with fail;refine HC.o.mono ?_;rintro e w3 ⟨T,Zd,Z,F,H,J,I,C,A,M,rfl,hv⟩;have X3:=Za (((O.o.step T Zd).alloc (.cells #[iP Z,.string F,.slice H J I,.slice C A M] 94)).drop)
   have HQ:=Za (wR hv);have Fj:=T.size;have RW3:=Za (RT.o.stay (T.trans ((Zl.refl pb w3).alloc (xT O.o.at_.ltp T.size) (.cells #[iP Z,.string F,.slice H J I,.slice C A M] 94))) (by have:=O.o.hp; omega));have Uj:=Za ((Xt.new (rep:=Qm) (B:=w.heap.size+1) (wR hv) (xB (O.o.box (p:=(w.heap.size,Ww)) (by simp))) fun q hq=>RT.o.all q hq).stay ((Zl.refl pb w3).alloc (xT O.o.at_.ltp T.size) (.cells #[iP Z,.string F,.slice H J I,.slice C A M] 94)) (by have:=O.o.hp; omega))
   have hwl:w.heap.size<w3.heap.size:=xT (xB (O.o.box (p:=(w.heap.size,Ww)) (by simp))) T.size
   have Uh:xQ (∀ j u,([iP Z,.string F,.slice H J I,.slice C A M]:List vL)[j]?=some u->((w3.alloc (.cells #[iP Z,.string F,.slice H J I,.slice C A M] 94)).alloc (.cells #[iP Z,.string F,.slice H J I,.slice C A M] 94)).cell? (((aP (w3.heap.size+1) 0):Addr).add j)=some u):=fun j u h=>by
    have:=V2 (w3.alloc (.cells #[iP Z,.string F,.slice H J I,.slice C A M] 94)) [iP Z,.string F,.slice H J I,.slice C A M] 94 j u h;rw [xS] at this;exact this
   clear T Zd hv HC
   go_wp2_with(at_builtin; refine wpList_append_own_at _ rfl (.tmp 15) (.tmp 17) 61 rfl (w.heap.size+1) 94 i0 _ 4 72 underlying61 hi Xr Xg Xw rfl (by decide) _ _ _ rfl (RW3.o.ow.alloc _) (aP _ 0) 1 1 [iP Z,.string F,.slice H J I,.slice C A M] rfl rfl Uh.o (by simp [Value.oneCell']) (by unfold maxLen; omega) (by omega) (by simp; omega) ?_)
   intro v' w4 Zr Zo _ Z4
   have Xn:xQ (Yq Qm (w.heap.size+1) 94 4 none w4 v' (cs ++ [[iP Z,.string F,.slice H J I,.slice C A M]]) (acc ++ [Vy R2])) :=
    RW3.o.put Zr Zo (Z4.imp_right fun e=>⟨_,e,by simp⟩) ((Zl.refl pb _).alloc X3.o.at_.ltp _) (by have:=X3.o.hp; omega) rfl (Uj.o.stay ((Zl.refl pb _).alloc X3.o.at_.ltp _) (by have:=X3.o.hp; omega))
   have Nz:xQ (RX pb tb cap ts w w4 d (Zf R2) [(w.heap.size,Ww)]):=by
    have hX:=(X3.o.alloc (.cells #[iP Z,.string F,.slice H J I,.slice C A M] 94)).drop
    have Zt:∀ q,(Value.slice av acc.length cv).ownBlock=some q->w.heap.size+1<=q:=fun q hq=>(RW3.o.own q hq).1
    refine⟨hX.st.grown Zo hX.hp fun q hq=>by have:=Zt q hq; omega,?_,hX.hp,fun p hp=>?_⟩
    ·obtain⟨a,ha⟩:=hX.at_
     have hp:=hX.hp;exact⟨a,(Zo.block _ ha.ltp (fun e=>by have:=Zt _ e.symm; omega)).trans ha.blk,ha.lt,ha.live,ha.bad,ha.tlt,Lf ha.toks (Zo.block _ (Nat.lt_trans ha.tlt ha.ltp) (fun e=>by have:=Zt _ e.symm; have:=ha.tlt; omega))⟩
    ·rw [List.mem_singleton.1 hp]
     exact⟨(Zo.block _ (xB (hX.box (p:=(w.heap.size,Ww)) (by simp))) (fun e=>by have:=Zt _ e.symm; omega)).trans (hX.box (p:=(w.heap.size,Ww)) (by simp)),xR⟩
   clear Zr Zo Z4;go_wp2_with fail
   go_roundg g'
   case measure=>exact Qp
   case rel=>exact⟨_,_,_,Nz,Xn,HN,by simp⟩
def Wl (lo:Nat) (w:wD) (x:NV) (R:Pr Ty):Prop:=∀ D b,R = .inl (D,b)->Y0 lo w x D
section
variable {lo lo' pb b o : Nat} {w w' : wD} {x : NV} {R : Pr Ty}
theorem Wl.keep (h:Wl lo w x R) (j:w.heap.size<=w'.heap.size) (z:∀ b,lo<=b->b<w.heap.size->w'.heap[b]?=w.heap[b]?):Wl lo w' x R:=fun D b e=>(h D b e).keep j z
theorem Wl.lower (h:Wl lo w x R) (j:lo'<=lo):Wl lo' w x R:=fun D b e=>(h D b e).lower j
theorem Wl.stay (h:Wl lo w x R) (z:Zl pb w w') (j:pb<lo):Wl lo w' x R:=fun D b e=>(h D b e).stay z j
theorem Wl.below (h:Wl lo w x R) (j:Below w.heap.size w w'):Wl lo w' x R:=fun D b e=>(h D b e).below j
end
def V0 (pb tb cap:Nat) (ts:List Tok) (d:Nat) (w:wD) (R:Pr Ty) (e:Ending) (w':wD):Prop :=
 Zl pb w w'/\Z2 w' pb tb cap ts d (Zf R)/\∃ x:NV,e = .returned x.val/\Wl w.heap.size w' x R
abbrev Yf (k:Int) (li co:Nat):NV:=⟨k,⟨#[]⟩,0,li,co,none,0,0,none,0,0,none,0,0⟩
theorem zR (pb tb cap d:Nat) (ts:List Tok) (S:Yd) (k:Int) (w:wD) (h:Z2 w pb tb cap ts d S) :
  Calls prog 97 #[qP pb,iP k] w fun r w'=>∃ li co,r = .returned (Yf k li co).val/\(∀ a,S = .inl a->li=Yj ts a/\co=Yi ts a)/\Zl pb w w'/\Z2 w' pb tb cap ts d S:=by
 obtain⟨a,h⟩:=h
 have Bf:(a:Int)<(ts.length:Int):=by have:=h.lt; omega
 have V:=h.ltp
 have Ug:=Nat.lt_trans h.tlt h.ltp
 have T:=Za h.live
 have J:=Za h
 have j:=(h.alloc Zj.obj).drew
 obtain⟨⟨c0,c1,c2,c3,c4,c5⟩,N,O,Z,f4,Y⟩:=j.cells
 obtain⟨H,I,z,A⟩:=j.toks a j.lt
 obtain⟨t,C⟩:=xE (Zk ts a)
 rw [<- C] at H I z A
 have F:=Za C
 have Mf:=And.intro c0 (And.intro c1 (And.intro z A))
 clear C c0 c1 c2 c3 c4 c5 H I z A h j N O Z f4 Y
 have M:xQ (∀ o,((w.alloc o).drew).cell? (aP pb 0)=some (lP tb ts.length cap)/\((w.alloc o).drew).cell? (aP pb 1)=some (iP a)/\((w.alloc o).drew).cell? (aP tb (a*4+2))=some (iP t.line)/\((w.alloc o).drew).cell? (aP tb (a*4+3))=some (iP t.col)):=fun o=>by
  have j:=(J.o.alloc o).drew;rw [F.o];exact⟨j.cells.1.1,j.cells.1.2.1,(j.toks a j.lt).2.2.1,(j.toks a j.lt).2.2.2⟩
 go_enter func97,ntmps97
 go_wp2_with fail
 go_region_held (fun W=>W.cell? (aP pb 0)=some (lP tb ts.length cap)/\W.cell? (aP pb 1)=some (iP a)/\W.cell? (aP tb (a*4+2))=some (iP t.line)/\W.cell? (aP tb (a*4+3))=some (iP t.col)) (first | with_reducible assumption | with_reducible exact M.o _) (fail)
 go_wp2_with fail
 refine r64 rfl rfl (xL w _) rfl ?_
 refine⟨t.line,t.col,rfl,fun b e=>?_,(Zl.of V (Zq w _)).drew,a,(J.o.alloc _).drew⟩
 rw [T.o b e,F.o]
 exact⟨rfl,rfl⟩
def lQ (lo:Nat) (w':wD) (R:Pr (List Ty)) (e:Ending):Prop :=
 (e = .returned nP/\∀ l b,R = .inl (l,b)->l=[]) ∨
 ∃ (g:Nat) (k:Int) (nm:bA) (na:oA) (nl nc:Nat) (ka:oA) (kl kc:Nat) (x:Option Ty),e = .returned (lP g 1 1)/\Yq Qm lo 94 4 none w' (lP g 1 1) [[iP k,.string nm,.slice na nl nc,.slice ka kl kc]] [x]/\∀ l b,R = .inl (l,b)->∃ t,l=[t]/\x=some t
theorem bN (pb tb cap d:Nat) (ts:List Tok) (ok:Ym ts) (K:Nat->Pr Ty)
  (hK:∀ S w,Z2 w pb tb cap ts d S->Calls prog 73 #[qP pb] w (N0 pb tb cap ts d w (Zi K S)))
  (S:Yd) (w:wD) (h:Z2 w pb tb cap ts d S) :
  Calls prog 74 #[qP pb] w fun e w'=>Zl pb w w'/\Z2 w' pb tb cap ts d (Zf (Zi (Vp ts K) S))/\lQ w.heap.size w' (Zi (Vp ts K) S) e:=by
 have Y:=Za (Vi pb tb cap d ts S [58] w h ok)
 have HK:=Za hK
 have Ys:=h.ltp
 obtain⟨R,hR⟩:=xE (Zi (Vp ts K) S)
 rw [<- hR]
 have HR:=Za hR
 clear h ok hK hR
 cases hq:Y2 ts S [58] with
 | false =>
  rw [hq,if_neg (by simp)] at Y
  have HS:xQ (Zf R=S/\∀ l b,R = .inl (l,b)->l=[]):=by
   show _/\_;rw [HR.o]
   cases S with
   | inr p=>exact⟨rfl,fun l b e=>by cases e⟩
   | inl a =>
    have V:Vp ts K a = .inl ([],a):=by unfold Vp; rw [show Zg ts a [58]=false from hq]; rfl
    exact⟨by show Zf (Vp ts K a)=_; rw [V]; rfl,fun l b e=>by
     have N:Vp ts K a = .inl (l,b):=e;rw [V] at N;injection N with N;injection N with N _
     exact N.symm⟩
  clear hq;go_enter func74,ntmps74;go_wp2_with fail;refine Y.o.mono ?_;rintro e w1 ⟨rfl,M,J⟩;have O:=Za (And.intro M J);clear M J;go_wp2_with fail;go_ret;rw [HS.o.1];exact⟨O.o.1,O.o.2,.inl ⟨rfl,HS.o.2⟩⟩
 | true =>
  rw [hq,if_pos rfl] at Y
  obtain⟨a,rfl⟩:∃ a,S = .inl a:=by cases S with
   | inl a=>exact⟨a,rfl⟩
   | inr p=>cases hq
  have Yy:xQ (R=(K (a+1)).go fun t a => .inl ([t],a)):=by
   rw [HR.o];show Vp ts K a=_;unfold Vp;rw [show Zg ts a [58]=true from hq];rfl
  clear hq;go_enter func74,ntmps74;go_wp2_with fail;refine Y.o.mono ?_;rintro e w1 ⟨rfl,M,J⟩;have O:=Za (And.intro M J);clear M J;go_wp2_with fail;refine(HK.o _ _ O.o.2).mono ?_;rintro e w2 ⟨M,J,T,C,j,I,z,F,H,A,rfl,hv⟩;have Z:=Za (And.intro (O.o.1.trans M) J);have HV:=Za (wR (hv.lower O.o.1.size));clear M J hv;go_wp2_with fail;go_ret;refine⟨(Z.o.1.alloc Ys _).alloc Ys _,?_,.inr ⟨w2.heap.size+1,T,C,j,I,z,F,H,A,Vy (K (a+1)),rfl,?_,fun l b e=>?_⟩⟩
  ·have:=(Z.o.2.alloc (Z7 T C j I z F H A)).alloc (Z7 T C j I z F H A)
   rw [Yy.o]
   have V:Zf ((K (a+1)).go fun t a => .inl ([t],a))=Zf (Zi K (Nr (.inl a))):=by
    show _=Zf (K (a+1))
    cases K (a+1) <;> rfl
   rw [V];exact this
  ·have Wj:=Z.o.1.size
   have:=zT (B:=w.heap.size) (et:=94) (k:=4) (rep:=Qm) (wx:=w2.alloc (Z7 T C j I z F H A)) (lo:=w.heap.size) (c:=[iP T,.string C,.slice j I z,.slice F H A]) (x:=Vy (K (a+1))) (eK.keep HV.o (by rw [xS]; omega) fun b _ hl=>xA hl) (xR) (by rw [xS]; omega) rfl;rw [xS] at this;exact this
  ·rw [Yy.o] at e
   cases hk:K (a+1)with
   | inr p=>rw [hk] at e; cases e
   | inl q =>
    obtain⟨t,c⟩:=q;rw [hk] at e;injection e with e;injection e with e _;exact⟨t,e.symm,rfl⟩
end
end Go.Proofs.YtoppemkjhhlegaaGreatDoor
