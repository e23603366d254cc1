/- Part. -/
import Derived.Deep.LoopGhost
import Derived.Test.YtoppemkjhhlegaaGreatDoorPart2
set_option maxRecDepth 100000
set_option maxHeartbeats 4000000
namespace Go.Proofs.YtoppemkjhhlegaaGreatDoor
open Go.Proofs.Tryz
open Go.RowKit
theorem bX (a b c d:vL) (w:wD):(Instr.field 121 (.agg #[a,b,c,d]) 0).run prog w = .ok a w:=by simp [Instr.field,go_sem,asAgg]
theorem zjn (a b c d:vL) (w:wD):(Instr.field 121 (.agg #[a,b,c,d]) 1).run prog w = .ok b w:=by simp [Instr.field,go_sem,asAgg]
def Nv (t:Tok) (L:List (bS)):Int:=if t.kind=2∨t.kind=5 then Ac L t.text else -1
def Hw (w:wD) (xb:Nat) (L:List (bS)):Prop:=xb<w.heap.size/\∀ i (h:i<L.length),w.cell? (aP xb i)=some (.string ⟨L[i].toArray⟩)
theorem Hw.below {w w1:wD} {j:Nat} {L:List (bS)} (h:Hw w j L) (z:Below w.heap.size w w1):Hw w1 j L :=
 ⟨xT h.1 z.size,fun i A=>(z.cell (p:=aP j i) h.1).trans (h.2 i A)⟩
theorem zkx (J O:Nat) (t:Tok) (L:List (bS)) (pb:Nat) (w:wD) (I:Calls prog 81 #[qP pb] w fun e w'=>e = .returned (Cv t)/\Below w.heap.size w w') (N:Hw w J L) (V:L.length<=100) :
  Calls prog 83 #[qP pb,lP J L.length O] w fun e w'=>e = .returned (iP (Nv t L))/\Below w.heap.size w w':=by
 have H:=Za I
 have T:=Za N
 clear I N
 obtain⟨k,x,li,co⟩:=t
 have M:=Za (fun w1 (j:Below w.heap.size w w1)=>zcd J O L x w1 (T.o.below j).2 V)
 by_cases z:k=2
 ·have n2:(k != 2)=false:=by simp [z]
  have F:xQ (Nv ⟨k,x,li,co⟩ L=Ac L x):=by rw [Nv,if_pos (.inl z)]; exact rfl
  clear z;go_enter func83,ntmps83;go_wp2_with fail;refine H.o.mono ?_;rintro e w1 ⟨rfl,j⟩;have A:=Za j;clear j;go_wp2_with fail;refine(M.o _ (by first | exact Zz A.o (Zq _ _) | skip)).mono ?_;rintro e w2 ⟨rfl,q,rfl⟩;go_wp2_with fail;go_ret;refine⟨by rw [F.o]; rfl,?_⟩;exact below_drewN (Zz A.o (Zq _ _)) _
 ·by_cases C:k=5
  ·have n2:(k != 2)=true:=by simp [z]
   have Y:(k != 5)=false:=by simp [C]
   have F:xQ (Nv ⟨k,x,li,co⟩ L=Ac L x):=by rw [Nv,if_pos (.inr C)]; exact rfl
   clear z C;go_enter func83,ntmps83;go_wp2_with fail;refine H.o.mono ?_;rintro e w1 ⟨rfl,j⟩;have A:=Za j;clear j;go_wp2_with fail;refine(M.o _ (by first | exact Zz A.o (Zq _ _) | skip)).mono ?_;rintro e w2 ⟨rfl,q,rfl⟩;go_wp2_with fail;go_ret;refine⟨by rw [F.o]; rfl,?_⟩;exact below_drewN (Zz A.o (Zq _ _)) _
  ·have n2:(k != 2)=true:=by simp [z]
   have Y:(k != 5)=true:=by simp [C]
   have F:xQ (Nv ⟨k,x,li,co⟩ L = -1):=by rw [Nv,if_neg (by rintro(h | h); exact z h; exact C h)]; exact rfl
   clear z C;go_enter func83,ntmps83;go_wp2_with fail;refine H.o.mono ?_;rintro e w1 ⟨rfl,j⟩;have A:=Za j;clear j;go_wp2_with fail;go_ret;refine⟨by rw [F.o]; rfl,?_⟩;exact Zz A.o (Zq _ _)
theorem cI (pb tb cap a j z:Nat) (ts:List Tok) (L:List (bS)) (w:wD) (h:Rk w pb tb cap ts a) (C:Hw w j L) (A:L.length<=100) :
  Calls prog 83 #[qP pb,lP j L.length z] w fun e w'=>e = .returned (iP (Nv (Zk ts a) L))/\Below w.heap.size w w' :=
 zkx j z _ L pb w (sF pb tb cap a ts w h) C A
theorem lG (ts:List Tok) (a:Nat) (L:List (bS)):decide (0<=Nv (Zk ts a) L)=L.any fun s=>Zg ts a s:=by
 unfold Nv Zg
 by_cases j:(Zk ts a).kind=2∨(Zk ts a).kind=5
 ·rw [if_pos j]
  have z:((Zk ts a).kind == 2 || (Zk ts a).kind == 5)=true:=by rcases j with h | h <;> simp [h]
  simp only [z,Bool.true_and]
  cases he:L.any fun s=>(Zk ts a).text == s with
  | true =>
   obtain⟨s,F,H⟩:=List.any_eq_true.1 he
   have:(L.findIdx? (· == (Zk ts a).text)).isSome=true:=by
    rw [List.findIdx?_isSome,List.any_eq_true];exact⟨s,F,by rw [beq_iff_eq.1 H]; simp⟩
   obtain⟨i,A⟩:=Option.isSome_iff_exists.1 this;rw [Ac,A];simp
  | false =>
   have:L.findIdx? (· == (Zk ts a).text)=none:=List.findIdx?_eq_none_iff.2 fun x C=>by
    have:=List.any_eq_false.1 he x C
    exact beq_eq_false_iff_ne.2 fun e=>this (by rw [e]; simp)
   rw [Ac,this];simp
 ·rw [if_neg j]
  have z:((Zk ts a).kind == 2 || (Zk ts a).kind == 5)=false:=by simpa using j
  simp [z]
theorem is_r (pb tb cap a j A:Nat) (ts:List Tok) (L:List (bS)) (w:wD) (h:Rk w pb tb cap ts a) (z:Hw w j L) (H:L.length<=100) :
  Calls prog 67 #[qP pb,lP j L.length A] w fun e w'=>e = .returned (.bool (L.any fun s=>Zg ts a s))/\Below w.heap.size w w':=by
 have F:=Za (cI pb tb cap a j A ts L w h z H)
 clear h z
 go_enter func67,ntmps67
 go_wp2_with fail
 refine F.o.mono ?_
 rintro e w1 ⟨rfl,C⟩
 go_wp2_with fail
 go_ret
 exact⟨congrArg (fun b=>Ending.returned (.bool b)) (lG ts a L),C⟩
theorem zV (w:wD) (L:List (bS)) (t:TypeId) (h:Nat) (z:h=w.heap.size):Hw (w.alloc (.cells (L.map fun s=>uP s).toArray t)) h L:=by
 subst z
 refine⟨by simp,fun i j=>?_⟩
 rw [cell_of_row _ _ _ _ _ _ (xL w _)]
 simp [j]
theorem V5 (pb tb cap a j z:Nat) (ts:List Tok) (L:List (bS)) (w:wD) (t:TypeId) (h:Rk w pb tb cap ts a) (A:j=w.heap.size) (F:L.length<=100) :
  Calls prog 67 #[qP pb,lP j L.length z] (w.alloc (.cells (L.map fun s=>uP s).toArray t)) fun e w'=>e = .returned (.bool (L.any fun s=>Zg ts a s))/\Below w.heap.size w w' :=
 (is_r pb tb cap a j z ts L _ (h.below (Zq _ _)) (zV w L t j A) F).mono fun _ _ ⟨C,H⟩=>⟨C,Zz (Zq _ _) H⟩
theorem cH (pb tb cap a j z:Nat) (ts:List Tok) (L:List (bS)) (w:wD) (t:TypeId) (h:Rk w pb tb cap ts a) (A:j=w.heap.size) (F:L.length<=100) :
  Calls prog 83 #[qP pb,lP j L.length z] (w.alloc (.cells (L.map fun s=>uP s).toArray t)) fun e w'=>e = .returned (iP (Nv (Zk ts a) L))/\Below w.heap.size w w' :=
 (cI pb tb cap a j z ts L _ (h.below (Zq _ _)) (zV w L t j A) F).mono fun _ _ ⟨C,H⟩=>⟨C,Zz (Zq _ _) H⟩
theorem T0 (ts:List Tok) (a:Nat) (s:bS):([s].any fun s=>Zg ts a s)=Zg ts a s:=by simp
theorem Ta (pb tb cap a d:Nat) (ts:List Tok) (s:bS) (w:wD) (h:Ps w pb tb cap ts a d) (I:Ym ts) :
  Calls prog 87 #[qP pb,uP s] w fun e w'=>e = .returned (.bool (Zg ts a s))/\Zl pb w w'/\Ps w' pb tb cap ts (if Zg ts a s then a+1 else a) d:=by
 have H:=Za h
 have C:=Za I
 clear h I
 cases hs:Zg ts a s with
 | true =>
  have z:=Za hs;rw [if_pos rfl];clear hs;go_enter func87,ntmps87;go_wp2_with fail;refine(V5 pb tb cap a _ 1 ts [s] w _ H.o.rd rfl (by simp)).mono ?_;rw [T0,z.o];rintro e w1 ⟨rfl,j⟩;have P1:=Za (H.o.below j);have A:=Za j;clear j;go_wp2_with fail;refine(Jj pb tb cap a d ts _ P1.o (Xx C.o.ends H.o.lt z.o) C.o.len).mono ?_;rintro e w2 ⟨rfl,J,F⟩;have N:=Za F;have M:=Za J
  clear J F;go_wp2_with fail;go_ret;exact⟨rfl,(Zl.of H.o.ltp A.o).trans M.o,N.o⟩
 | false =>
  have z:=Za hs;rw [if_neg (by simp)];clear hs;go_enter func87,ntmps87;go_wp2_with fail;refine(V5 pb tb cap a _ 1 ts [s] w _ H.o.rd rfl (by simp)).mono ?_;rw [T0,z.o];rintro e w1 ⟨rfl,j⟩;have P1:=Za (H.o.below j);have A:=Za j;clear j;go_wp2_with fail;go_ret;exact⟨rfl,Zl.of H.o.ltp A.o,P1.o⟩
abbrev j9 (t:Tok) (e:Int):Ending := .returned (Da t.line t.col e)
theorem zjm {w w2:wD} {T:Tok} {j A C z:vL} (h:w2.heap[w.heap.size]?=some (.cells #[j,A,C,z] 121)) :
  ((((w2.setCell (aP w.heap.size 0) (iP T.kind)).setCell (aP w.heap.size 1) (uP T.text)).setCell (aP w.heap.size 2) (iP T.line)).setCell (aP w.heap.size 3) (iP T.col)).heap[w.heap.size]?=some (.cells #[iP T.kind,uP T.text,iP T.line,iP T.col] 121):=set4 h _ _ _ _
theorem Q6 {w w2:wD} {pb b:Nat} (h:Zl pb w w2) (j:pb<w.heap.size) (z:w.heap.size<=b) (A F H C:vL):Zl pb w ((((w2.setCell (aP b 0) A).setCell (aP b 1) F).setCell (aP b 2) H).setCell (aP b 3) C) :=
 (((h.own j z 0 _).own j z 1 _).own j z 2 _).own j z 3 _
theorem Jk {w:wD} {pb tb cap a d b:Nat} {ts:List Tok} (h:Ps w pb tb cap ts a d) (j:pb<b) (z C F A:vL):Ps ((((w.setCell (aP b 0) z).setCell (aP b 1) C).setCell (aP b 2) F).setCell (aP b 3) A) pb tb cap ts a d :=
 (((h.other j 0 _).other j 1 _).other j 2 _).other j 3 _
theorem Uy (pb tb cap a d:Nat) (ts:List Tok) (s:bS) (w:wD) (h:Ps w pb tb cap ts a d) (O:Ym ts) :
  Calls prog 84 #[qP pb,uP s] w (Ya pb tb cap ts d w (fun _ _ v _=>v=Cv (Zk ts a)) (Ze ts a s)):=by
 have H:=Za h
 have I:=Za O
 clear h O
 unfold Ze
 cases hs:Zg ts a s with
 | true =>
  have z:=Za hs;rw [if_pos rfl];clear hs;go_enter func84,ntmps84;go_wp2_with fail;refine(V5 pb tb cap a _ 1 ts [s] (w.alloc _) _ (H.o.alloc _).rd (by simp) (by simp)).mono ?_;rw [T0,z.o];rintro e w1 ⟨rfl,j⟩;have P1:=Za ((H.o.alloc _).below j);have C:=Za (Zz (Zq _ _) j);have M:=Za ((j.block w.heap.size (by simp)).trans (xL w _));clear j;go_wp2_with fail;refine(Jj pb tb cap a d ts _ P1.o (Xx I.o.ends H.o.lt z.o) I.o.len).mono ?_
  rintro e w2 ⟨rfl,F,N⟩;have A:=(F.keep _ H.o.ltp (xB M.o)).trans M.o;obtain⟨⟨r0,r1,r2,r3⟩,⟨f0,f1,f2,f3⟩,Yw⟩:=Yh A;have Z:=Za A;have Y:=Za N;have V:=Za ((Zl.of H.o.ltp C.o).trans F);clear F N A;go_wp2_with fail;refine bodyPost_ret (results_cell_row rfl _ _ w.heap.size 121 _ (0,0) _ rfl (zjm Z.o) underlying121 rfl (by kernel_rfl)) rfl ⟨?_,?_,_,rfl,rfl⟩
  ·exact Q6 V.o H.o.ltp (xR) _ _ _ _
  ·exact Jk Y.o H.o.ltp _ _ _ _
 | false =>
  have z:=Za hs;rw [if_neg (by simp)];clear hs;go_enter func84,ntmps84;go_wp2_with fail;refine(V5 pb tb cap a _ 1 ts [s] (w.alloc _) _ (H.o.alloc _).rd (by simp) (by simp)).mono ?_;rw [T0,z.o];rintro e w1 ⟨rfl,j⟩;have P1:=Za ((H.o.alloc _).below j);have C:=Za (Zz (Zq _ _) j);clear j;go_wp2_with fail;refine(yA pb tb cap a d ts _ P1.o 7).mono ?_;rintro e w2 ⟨rfl,J⟩;have T:=Za (Zz C.o J)
  clear J;go_wp2_with fail;exact⟨rfl,Zl.of H.o.ltp T.o,rfl⟩
theorem Dx (pb tb cap a d:Nat) (ts:List Tok) (w:wD) (h:Ps w pb tb cap ts a d) (C:Ym ts) :
  Calls prog 85 #[qP pb] w (Ya pb tb cap ts d w (fun _ _ v x=>v=uP x) (Zu ts a)):=by
 have H:=Za h
 have OK:=Za C
 have I:=Za (J7 pb tb cap a d ts w h)
 have M:=Za (fun wx (F:Ps wx pb tb cap ts a d) (hb:a+1<ts.length)=>Jj pb tb cap a d ts wx F hb C.len)
 have V:xQ ((Zk ts a).kind=1->a+1<ts.length):=fun e=>C.ends a h.lt (by rw [e]; decide)
 have J:xQ (∀ wx (F:Ps wx pb tb cap ts a d),Calls prog 82 #[qP pb,iP 7] wx fun e w'=>e=j9 (Zk ts a) 7/\Below wx.heap.size wx w'):=fun wx F=>yA pb tb cap a d ts wx F 7
 clear h C
 unfold Zu Vj
 obtain⟨t,T⟩:=xE (Zk ts a)
 rw [<- T] at I M J V ⊢
 clear T
 obtain⟨k,x,li,co⟩:=t
 have hf0:=bX
 have hf1:=zjn
 by_cases j:k=1
 ·have n1:(k != 1)=false:=by simp [j]
  rw [if_pos (by simp [j])];have B1:=Za (V.o j);clear j;go_enter func85,ntmps85;go_wp2_with fail;refine I.o.mono ?_;rintro e w1 ⟨rfl,A⟩;have z:=Za A;clear A;go_wp2_with fail;refine(M.o _ (by first | exact H.o.below z.o | exact(H.o.below z.o).alloc _) B1.o).mono ?_;rintro e w2 ⟨rfl,Y,O⟩;have Gw:=Za O;have Zx:=Za Y;clear Y O;go_wp2_with fail;go_ret;exact⟨(Zl.of H.o.ltp z.o).trans Zx.o,Gw.o,_,rfl,rfl⟩
 ·have n1:(k != 1)=true:=by simp [j]
  rw [if_neg (by simp [j])];clear j;go_enter func85,ntmps85;go_wp2_with fail;refine I.o.mono ?_;rintro e w1 ⟨rfl,A⟩;have z:=Za A;clear A;go_wp2_with fail;refine(J.o _ (H.o.below z.o)).mono ?_;rintro e w2 ⟨rfl,N⟩;have Z:=Za (Zz z.o N);clear N;go_wp2_with fail;exact⟨rfl,Zl.of H.o.ltp Z.o,rfl⟩
theorem end_c (pb tb cap a d:Nat) (ts:List Tok) (w:wD) (h:Ps w pb tb cap ts a d) :
  Calls prog 66 #[qP pb] w (Ya pb tb cap ts d w (fun _ _ v _=>v = .tuple #[]) (if (Zk ts a).kind == 0 then .inl ((),a)else Vj ts 7 a:Pr Unit)):=by
 have H:=Za h
 have C:=Za (J7 pb tb cap a d ts w h)
 have F:xQ (∀ wx (M:Ps wx pb tb cap ts a d),Calls prog 82 #[qP pb,iP 7] wx fun e w'=>e=j9 (Zk ts a) 7/\Below wx.heap.size wx w'):=fun wx M=>yA pb tb cap a d ts wx M 7
 clear h
 unfold Vj
 obtain⟨t,J⟩:=xE (Zk ts a)
 rw [<- J] at C F ⊢
 clear J
 obtain⟨k,x,li,co⟩:=t
 have hf0:=bX
 by_cases j:k=0
 ·have n1:(k != 0)=false:=by simp [j]
  rw [if_pos (by simp [j])];clear j;go_enter func66,ntmps66;go_wp2_with fail;refine C.o.mono ?_;rintro e w1 ⟨rfl,A⟩;have z:=Za A;clear A;go_wp2_with fail
  go_end0
  exact⟨Zl.of H.o.ltp z.o,H.o.below z.o,_,rfl,rfl⟩
 ·have n1:(k != 0)=true:=by simp [j]
  rw [if_neg (by simp [j])];clear j;go_enter func66,ntmps66;go_wp2_with fail;refine C.o.mono ?_;rintro e w1 ⟨rfl,A⟩;have z:=Za A;clear A;go_wp2_with fail;refine(F.o _ (H.o.below z.o)).mono ?_;rintro e w2 ⟨rfl,I⟩;have N:=Za (Zz z.o I);clear I;go_wp2_with fail;exact⟨rfl,Zl.of H.o.ltp N.o,rfl⟩
def Rr (ts:List Tok) (a:Nat) (f s:bS):Pr Bool:=if Zg ts a f then .inl (true,a+1)else(Ze ts a s).go fun _ b => .inl (false,b)
theorem gA (pb tb cap a d:Nat) (ts:List Tok) (f s:bS) (w:wD) (h:Ps w pb tb cap ts a d) (M:Ym ts) :
  Calls prog 138 #[qP pb,uP f,uP s] w (Ya pb tb cap ts d w (fun _ _ v b=>v = .bool b) (Rr ts a f s)):=by
 have H:=Za h
 have A:=Za (Ta pb tb cap a d ts f w h M)
 have I:=Za (fun wx (O:Ps wx pb tb cap ts a d)=>Uy pb tb cap a d ts s wx O M)
 clear h M
 unfold Rr
 cases hs:Zg ts a f with
 | true =>
  rw [if_pos rfl];rw [hs,if_pos rfl] at A;clear hs;go_enter func138,ntmps138;go_wp2_with fail;refine A.o.mono ?_;rintro e w1 ⟨rfl,j,z⟩;have C:=Za j;have F:=Za z;clear j z;go_wp2_with fail;go_ret;exact⟨C.o,F.o,_,rfl,rfl⟩
 | false =>
  rw [if_neg (by simp)];rw [hs,if_neg (by simp)] at A;clear hs
  cases hw:Ze ts a s with
  | inl x =>
   obtain⟨_,b⟩:=x;rw [hw] at I;clear hw;go_enter func138,ntmps138;go_wp2_with fail;refine A.o.mono ?_;rintro e w1 ⟨rfl,j,z⟩;have C:=Za j;have F:=Za z;clear j z;go_wp2_with fail;refine(I.o _ F.o).mono ?_;rintro e w2 ⟨j,z,v,rfl,hv⟩;have J:=Za (C.o.trans j);have N:=Za z;clear j z;go_wp2_with fail;go_ret;exact⟨J.o,N.o,_,rfl,rfl⟩
  | inr x =>
   obtain⟨er,li,co⟩:=x;rw [hw] at I;clear hw;go_enter func138,ntmps138;go_wp2_with fail;refine A.o.mono ?_;rintro e w1 ⟨rfl,j,z⟩;have C:=Za j;have F:=Za z;clear j z;go_wp2_with fail;refine(I.o _ F.o).mono ?_;rintro e w2 ⟨j,rfl⟩;have J:=Za (C.o.trans j);clear j;go_wp2_with fail;exact⟨rfl,J.o,rfl⟩
theorem rd_new {w1:wD} {pb tb cap a d:Nat} {ts:List Tok} (h:Ps w1 pb tb cap ts a d) (j:a+1<ts.length) :
  Rk ((w1.alloc (.cells #[lP tb ts.length cap,iP ((a:Int)+1)] 131)).drew) w1.heap.size tb cap ts (a+1) where
 c0:=by show(w1.alloc _).cell? _=_; rw [cell_of_row _ _ _ _ _ _ (xL w1 _)]; rfl
 c1:=by show(w1.alloc _).cell? _=_; rw [cell_of_row _ _ _ _ _ _ (xL w1 _)]; rfl
 ltp:=by simp
 tlt:=by have:=h.rd.tlt; simp; omega
 toks:=Lf h.toks (xA h.rd.tlt)
 lt:=j
theorem lY (pb tb cap a d:Nat) (ts:List Tok) (w:wD) (h:Ps w pb tb cap ts a d) (F:Ym ts) :
  Calls prog 149 #[qP pb] w fun e w'=>e = .returned (.bool ((Zk ts a).kind == 1 && Zg ts (a+1) [58]))/\Below w.heap.size w w':=by
 have H:=Za h
 have T:=Za F
 have A:=Za (J7 pb tb cap a d ts w h)
 have N:xQ ((Zk ts a).kind=1->a+1<ts.length):=fun e=>F.ends a h.lt (by rw [e]; decide)
 clear h F
 obtain⟨t,M⟩:=xE (Zk ts a)
 rw [<- M] at A N ⊢
 clear M
 obtain⟨k,x,li,co⟩:=t
 have hf0:=bX
 by_cases j:k=1
 ·have n1:(k != 1)=false:=by simp [j]
  have I:(k == 1)=true:=by simp [j]
  have V:=Za (N.o j);clear j;rw [I,Bool.true_and];go_enter func149,ntmps149;go_wp2_with fail;refine A.o.mono ?_;rintro e w1 ⟨rfl,z⟩;have P1:=Za (H.o.below z);have C:=Za z;obtain⟨c0,c1,c2⟩:=P1.o.cells;have Mk:=P1.o.ltp
  have ha:a<=8193:=by have:=T.o.len; have:=H.o.lt; omega
  clear z;go_wp2_with fail;go_region
  all_goals
   go_wp2_with fail;refine(V5 w1.heap.size tb cap (a+1) _ 1 ts [[58]] _ _ (rd_new P1.o V.o) (by simp) (by simp)).mono ?_;rw [T0];rintro e w2 ⟨rfl,J⟩;have O:=Za J;clear J;go_wp2_with fail;go_ret;exact⟨rfl,Zz C.o (Zz (Zq _ _).drew O.o)⟩
 ·have n1:(k != 1)=true:=by simp [j]
  have I:(k == 1)=false:=by simp [j]
  clear j;rw [I,Bool.false_and];go_enter func149,ntmps149;go_wp2_with fail;refine A.o.mono ?_;rintro e w1 ⟨rfl,z⟩;have C:=Za z;clear z;go_wp2_with fail;go_ret;exact⟨rfl,C.o⟩
def Yk (lo:Nat) (w:wD) (v:vL) (D:Ty):Prop:=∃ m,K0 w lo m v D
def Kf (lo:Nat) (w:wD) (c:List vL) (D:Ty):Prop:=Yk lo w (.agg c.toArray) D
theorem mA:B5 Kf where
 keep:=fun⟨m,h⟩ z A=>⟨m,mB h z A⟩
 lower:=fun⟨m,h⟩ j=>⟨m,lA h j⟩
theorem Yk.cells {lo:Nat} {w:wD} {v:vL} {D:Ty} (h:Yk lo w v D):∃ (k:Int) (nm:bA) (na:oA) (nl nc:Nat) (ka:oA) (kl kc:Nat),v = .agg #[iP k,.string nm,.slice na nl nc,.slice ka kl kc]:=by
 obtain⟨m,h⟩:=h
 obtain⟨k,nm,na,nl,nc,ka,kl,kc,e,_⟩:=eJ h
 exact⟨k,nm,na,nl,nc,ka,kl,kc,e⟩
theorem kB {lo:Nat} {w:wD}:∀ (l:List (vL×Ty)),(∀ p ∈ l,Yk lo w p.1 p.2)->∃ m,∀ p ∈ l,K0 w lo m p.1 p.2
 | [],_=>⟨0,fun _ h=>nomatch h⟩
 | p :: l,h=>by
  obtain⟨F,z⟩:=h p (xM ..)
  obtain⟨A,C⟩:=kB l fun q j=>h q (xW _ j)
  refine⟨max F A,fun q j=>?_⟩;rcases List.mem_cons.1 j with rfl | j
  ·exact Rf z (Nat.le_max_left _ _)
  ·exact Rf (C q j) (Nat.le_max_right _ _)
theorem Ek {B et:Nat} {wx:wD} {v:vL} {cs:List (List vL)} {xs:List Ty} {o:Option Nat} (h:Yq Kf B et 4 o wx v cs xs):∃ (a:oA) (cap m:Nat),v = .slice a xs.length cap/\xs.length<=cap/\Qk wx B m a xs:=by
 obtain⟨a,cap,e,Y,hr⟩:=h.form mA
 have N:∀ p ∈ (cs.map fun c=>(Value.agg c.toArray)).zip xs,Yk B wx p.1 p.2:=by
  intro p O;obtain⟨i,F,rfl⟩:=List.mem_iff_getElem.1 O;simp only [List.getElem_zip,List.getElem_map];simp only [List.length_zip,List.length_map] at F;exact(h.made i (by omega) (by omega)).now mA
 obtain⟨m,hm⟩:=kB _ N
 refine⟨a,cap,m,e,Y,?_⟩
 rcases h.ow.2 with⟨A,V⟩ | ⟨g,cap2,cur,A,T,M,_⟩
 ·exact .inl (List.length_eq_zero_iff.1 V)
 ·rw [e] at A
  injection A with e3 e4 e5;refine .inr ⟨g,0,e3,T,⟨_,_,M⟩,fun i F=>?_⟩
  have J:i<cs.length:=by rw [h.len]; exact F
  have C:=h.each _ (List.getElem_mem J)
  have H:K0 wx B m (.agg cs[i].toArray) xs[i]:=by
   refine hm (.agg cs[i].toArray,xs[i]) (List.mem_iff_getElem.2 ⟨i,by simp; omega,by simp⟩)
  have z:∀ j,j<4->wx.cell? (aP g (0+i*4+j))=cs[i][j]?:=by
   intro j Z;have I:=h.ow;rw [e,e3] at I;rw [show 0+i*4+j=i*4+j by omega,I.cellAt (i*4+j) (by omega)];exact Ij cs h.each i J j Z
  match J2:cs[i],C with
  | [c0,c1,c2,c3],_ =>
   rw [J2] at z H;exact⟨c0,c1,c2,c3,z 0 (by omega),z 1 (by omega),z 2 (by omega),z 3 (by omega),H⟩
def F8 {α:Type} (ts:List Tok) (one:Nat->Pr α) (sep:bS) (R:Pr (List α)) (acc:List α) (f a:Nat):Prop :=
 R=if Zg ts a sep then(Z9 ts one sep f (a+1)).go fun l b => .inl (acc ++ l,b)else .inl (acc,a)
theorem qT {α:Type} {ts:List Tok} {one:Nat->Pr α} {sep:bS} {f a b:Nat} {x:α} (h:one a = .inl (x,b)):F8 ts one sep (Z9 ts one sep (f+1) a) [x] f b:=by
 unfold F8
 rw [Z9,h]
 rfl
theorem qO {α:Type} {ts:List Tok} {one:Nat->Pr α} {sep:bS} {f a:Nat} {e:Int×Nat×Nat} (h:one a = .inr e):Z9 ts one sep (f+1) a = .inr e:=by
 rw [Z9,h]
 rfl
theorem qS {α:Type} {ts:List Tok} {one:Nat->Pr α} {sep:bS} {R:Pr (List α)} {acc:List α} {f a b:Nat} {x:α} (h:F8 ts one sep R acc (f+1) a) (A:Zg ts a sep=true) (z:one (a+1) = .inl (x,b)):F8 ts one sep R (acc ++ [x]) f b:=by
 unfold F8 at h ⊢
 rw [h,if_pos A,Z9,z]
 show Pr.go (Pr.go (.inl (x,b)) _) _=_
 unfold Pr.go
 by_cases j:Zg ts b sep=true
 ·rw [if_pos j]
  simp only [j,if_true]
  cases Z9 ts one sep f (b+1)with
  | inl p=>simp
  | inr e=>rfl
 ·simp only [j]
  simp
theorem qR {α:Type} {ts:List Tok} {one:Nat->Pr α} {sep:bS} {R:Pr (List α)} {acc:List α} {f a:Nat} {e:Int×Nat×Nat} (h:F8 ts one sep R acc (f+1) a) (z:Zg ts a sep=true) (j:one (a+1) = .inr e):R = .inr e:=by
 unfold F8 at h
 rw [h,if_pos z,Z9,j]
 rfl
theorem qQ {α:Type} {ts:List Tok} {one:Nat->Pr α} {sep:bS} {R:Pr (List α)} {acc:List α} {f a:Nat} (h:F8 ts one sep R acc f a) (j:Zg ts a sep=false):R = .inl (acc,a):=by
 unfold F8 at h
 rw [h,if_neg (by simp [j])]
abbrev Lh (g pb:Nat):Prop:=∀ w,(callFunc g #[qP pb]).run prog w = .ok (.enter g #[qP pb]) w
def TysE (lo:Nat) (w:wD) (v:vL) (xs:List Ty):Prop:=∃ cs,Yq Kf lo 94 4 none w v cs xs
structure Xs {α:Type} (pb tb cap d:Nat) (ts:List Tok) (rep:Nat->wD->vL->α->Prop) (g:Nat) (one:Nat->Pr α):Prop where
 calls:∀ a w,Ps w pb tb cap ts a d->Calls prog g #[qP pb] w (Ya pb tb cap ts d w rep (one a))
 enters:Lh g pb
 up:∀ a x b,one a = .inl (x,b)->a<=b
theorem fU (pb tb cap d:Nat) (ts:List Tok) (sep:bS) (g:Nat) (one:Nat->Pr Ty) (hg:Xs pb tb cap d ts Yk g one)
  (f a:Nat) (hf:ts.length<=a+(f+1)) (w:wD) (h:Ps w pb tb cap ts a d) (ok:Ym ts) :
  Calls prog 128 #[qP pb,uP sep,.func (.func g) #[] #[]] w (Ya pb tb cap ts d w TysE (Z9 ts one sep (f+1) a)):=by
 have H:=Za h
 have OK:=Za ok
 have HG:=Za hg
 have U4:=hg.enters
 clear h ok hg
 have T:=Za (HG.o.calls a w H.o)
 have HF:=Za hf
 clear hf
 cases ho:one a with
 | inr x =>
  obtain⟨er,li,co⟩:=x;rw [qO ho];rw [ho] at T;clear ho;go_enter func128,ntmps128;go_wp2_with fail;refine T.o.mono ?_;rintro e w1 ⟨j,rfl⟩;have O:=Za j;clear j;go_wp2_with fail;exact⟨rfl,O.o,rfl⟩
 | inl x =>
  obtain⟨D0,a1⟩:=x;have HM:=Za (qT (ts:=ts) (sep:=sep) (f:=f) ho);have HU:=Za (HG.o.up _ _ _ ho);rw [ho] at T;clear ho;obtain⟨R,hR⟩:=xE (Z9 ts one sep (f+1) a);rw [<- hR] at HM ⊢;clear hR;obtain⟨i0,hi,Xr,Xg,Xw⟩:=info_parts Iy;go_enter func128,ntmps128;go_wp2_with fail;refine T.o.mono ?_;rintro e w1 ⟨j,N,v,rfl,hv⟩;obtain⟨Y,z,F,C,J,M,I,A,rfl⟩:=hv.cells
  have Yl:=Za (zT (B:=w.heap.size) (et:=94) (k:=4) (rep:=Kf) (c:=[iP Y,.string z,.slice F C J,.slice M I A]) hv (xR) j.size rfl);have O:=Za (j.alloc H.o.ltp (.cells #[iP Y,.string z,.slice F C J,.slice M I A] 94));have HP:=Za (N.alloc (.cells #[iP Y,.string z,.slice F C J,.slice M I A] 94));clear j N hv
  have Ku:xQ (ts.length<=a1+(f+1)):=by have:=HF.o; have:=HU.o; show _<=_; omega
  go_wp2_with fail
  go_loopg [7] (ts.length - a1) (fun gk s wr=>∃ (b m:Nat) (cs:List (List vL)) (acc:List Ty),xQ (Yq Kf w.heap.size 94 4 none wr s cs acc)/\xQ (Zl pb w wr)/\xQ (Ps wr pb tb cap ts b d)/\xQ (F8 ts one sep R acc m b)/\xQ (ts.length<=b+(m+1))/\xQ (acc.length<=b+1)/\ts.length - b<=gk)
  case atStart=>exact⟨a1,f,_,_,Yl,O,HP,HM,Ku,(show 1<=a1+1 by omega),xR⟩
  case round =>
   clear Yl O HP HM Ku HU T;obtain⟨b,m,cs,acc,Hn,Xc,Qt,Gu,Qs,Nw,Pw⟩:=hrel;have HT:=Za (Ta pb tb cap b d ts sep wr Qt.o OK.o)
   cases hs:Zg ts b sep with
   | false =>
    have HE:=Za (qQ Gu.o hs);rw [hs,if_neg (by simp)] at HT;clear hs;go_wp2_with fail;refine HT.o.mono ?_;rintro e w2 ⟨rfl,j,N⟩;have O:=Za (Xc.o.trans j);have Nb:=Za N;have Z:=Za (Hn.o.stay j H.o.ltp);clear j N;go_wp2_with fail;go_ret;rw [HE.o];exact⟨O.o,Nb.o,_,rfl,_,Z.o⟩
   | true =>
    have Yo:b+1<ts.length:=Xx OK.o.ends Qt.o.lt hs
    obtain⟨m,rfl⟩:∃ q,m=q+1:=⟨m - 1,by have:=Qs.o; omega⟩
    have Uk:=Za hs;rw [hs,if_pos rfl] at HT;clear hs;go_wp2_with fail;refine HT.o.mono ?_;rintro e w2 ⟨rfl,j,N⟩;have O:=Za (Xc.o.trans j);have Nb:=Za N;have Z:=Za (Hn.o.stay j H.o.ltp);clear j N;have T:=Za (HG.o.calls (b+1) w2 Nb.o)
    cases ho:one (b+1)with
    | inr x =>
     obtain⟨er,li,co⟩:=x;have HE:=Za (qR Gu.o Uk.o ho);rw [ho] at T;clear ho;go_wp2_with fail;refine T.o.mono ?_;rintro e w3 ⟨j,rfl⟩;have Tb:=Za (O.o.trans j);clear j;go_wp2_with fail;rw [HE.o];exact⟨rfl,Tb.o,rfl⟩
    | inl x =>
     obtain⟨D1,b1⟩:=x;have HM2:=Za (qS Gu.o Uk.o ho);have V:=Za (HG.o.up _ _ _ ho);rw [ho] at T;clear ho;obtain⟨av,cv,rfl⟩:=Yt Z.o.ow;go_wp2_with fail;refine T.o.mono ?_;rintro e w3 ⟨j,N,v,rfl,hv⟩;obtain⟨Y,z,F,C,J,M,I,A,rfl⟩:=hv.cells;have Tb:=Za (O.o.trans j);have F2:=Za N;have HS23:=Za j;have HV:=Za hv;have Gx:=Za (Z.o.stay j H.o.ltp)
     clear j N hv
     have Lw:acc.length<=8193:=by have:=Nw.o; have:=OK.o.len; omega
     go_wp2_with(at_builtin; refine wpList_append_own_at _ rfl (.tmp 17) (.tmp 21) 61 rfl w.heap.size 94 i0 _ 4 72 underlying61 hi Xr Xg Xw rfl (by decide) _ _ _ rfl (Gx.o.ow.alloc _) (aP _ 0) 1 1 [iP Y,.string z,.slice F C J,.slice M I A] rfl rfl (V2 _ _ _) (by simp [Value.oneCell']) (by unfold maxLen; omega) (by omega) (by have:=Tb.o.size; simp; omega) ?_)
     intro v' w4 Zr Zo _ Z4
     have Xn:xQ (Yq Kf w.heap.size 94 4 none w4 v' (cs ++ [[iP Y,.string z,.slice F C J,.slice M I A]]) (acc ++ [D1])) :=
      Gx.o.put Zr Zo (Z4.imp_right fun e=>⟨_,e,by simp⟩) ((Zl.refl pb w3).alloc F2.o.ltp _) H.o.ltp rfl ((Xt.new (rep:=Kf) HV.o O.o.size fun q hq=>Z.o.all q hq).stay ((Zl.refl pb w3).alloc F2.o.ltp _) H.o.ltp)
     have P8:xQ (Zl pb w w4):=(Tb.o.alloc H.o.ltp _).grown Zo H.o.ltp fun q hq=>(Gx.o.own q hq).1
     have Sd:xQ (Ps w4 pb tb cap ts b1 d):=(F2.o.alloc _).grown Zo fun q hq=>xT H.o.ltp (Gx.o.own q hq).1
     clear Zr Zo Z4;go_wp2_with fail
     go_roundg (ts.length - b1)
     case measure=>have:=V.o; have:=Sd.o.lt; omega
     case rel=>exact⟨b1,m,_,_,Xn,P8,Sd,HM2,(by have:=Qs.o; have:=V.o; show _<=_; omega),(by have:=Nw.o; have:=V.o; show(acc ++ [D1]).length<=_; simp; omega),xR⟩
def B7 {α:Type} (ts:List Tok) (K:Nat->Pr α) (f a:Nat):Pr (List (bS×α)) :=
 if Zg ts a [125] then .inl ([],a+1)else(Z9 ts (Qy ts K) [44] f a).go fun l b=>(Ze ts b [125]).go fun _ b => .inl (l,b)
def Kr {α:Type} (ts:List Tok) (K:Nat->Pr α) (R:Pr (List (bS×α))) (acc:List (bS×α)) (f a:Nat):Prop :=
 R=(Z9 ts (Qy ts K) [44] f a).go fun l b=>(Ze ts b [125]).go fun _ b => .inl (acc ++ l,b)
section
variable {α : Type} {ts : List Tok} {K : Nat -> Pr α} {R : Pr (List (bS × α))} {acc : List (bS × α)} {f a b c e' : Nat} {s : bS} {x : α} {e : Int × Nat × Nat} {u : Unit}
theorem jL (h:Zg ts a [125]=false):Kr ts K (B7 ts K f a) [] f a:=by
 unfold Kr B7
 rw [if_neg (by simp [h])]
 rfl
theorem mX (h:Zg ts a [125]=true):B7 ts K f a = .inl ([],a+1):=by
 unfold B7
 rw [if_pos h]
theorem jK (h:Kr ts K R acc (f+1) a) (j:Zu ts a = .inr e):R = .inr e:=by
 unfold Kr at h
 rw [h,Z9,Qy,j]
 rfl
theorem jI (h:Kr ts K R acc (f+1) a) (j:Zu ts a = .inl (s,b)) (z:Ze ts b [58] = .inr e):R = .inr e:=by
 unfold Kr at h
 rw [h,Z9,Qy,j]
 show Pr.go (Pr.go (Pr.go (Ze ts b [58]) _) _) _=_
 rw [z]
 rfl
theorem jM (h:Kr ts K R acc (f+1) a) (j:Zu ts a = .inl (s,b)) (z:Ze ts b [58] = .inl (u,c)) (hv:K c = .inr e):R = .inr e:=by
 unfold Kr at h
 rw [h,Z9,Qy,j]
 show Pr.go (Pr.go (Pr.go (Ze ts b [58]) _) _) _=_
 rw [z]
 show Pr.go (Pr.go (Pr.go (K c) _) _) _=_
 rw [hv]
 rfl
theorem mY (h:Kr ts K R acc (f+1) a) (A:Zu ts a = .inl (s,b)) (z:Ze ts b [58] = .inl (u,c)) (hv:K c = .inl (x,e')) :
  R=if Zg ts e' [44] then(Z9 ts (Qy ts K) [44] f (e'+1)).go fun l b=>(Ze ts b [125]).go fun _ b => .inl (acc ++ (s,x) :: l,b)else(Ze ts e' [125]).go fun _ b => .inl (acc ++ [(s,x)],b):=by
 unfold Kr at h
 rw [h,Z9,Qy,A]
 show Pr.go (Pr.go (Pr.go (Ze ts b [58]) _) _) _=_
 rw [z]
 show Pr.go (Pr.go (Pr.go (K c) _) _) _=_
 rw [hv]
 show Pr.go (if Zg ts e' [44] then _ else _) _=_
 by_cases j:Zg ts e' [44]=true
 ·rw [if_pos j,if_pos j]
  cases Z9 ts (Qy ts K) [44] f (e'+1)with
  | inl p=>rfl
  | inr p=>rfl
 ·rw [if_neg j,if_neg j]
  rfl
theorem qF (h:Kr ts K R acc (f+1) a) (F:Zu ts a = .inl (s,b)) (C:Ze ts b [58] = .inl (u,c)) (hv:K c = .inl (x,e')) {y:Nat} (j:Rr ts e' [44] [125] = .inl (true,y)):Kr ts K R (acc ++ [(s,x)]) f y/\y=e'+1:=by
 have z:=mY h F C hv
 unfold Rr at j
 by_cases A:Zg ts e' [44]=true
 ·rw [if_pos A] at j z
  injection j with j;injection j with _ j;subst j;refine⟨?_,rfl⟩;unfold Kr;rw [z];simp
 ·rw [if_neg A] at j
  cases hw:Ze ts e' [125] with
  | inl p=>rw [hw] at j; injection j with j; injection j with j; cases j
  | inr p=>rw [hw] at j; cases j
theorem qE (h:Kr ts K R acc (f+1) a) (H:Zu ts a = .inl (s,b)) (F:Ze ts b [58] = .inl (u,c)) (hv:K c = .inl (x,e')) {y:Nat} (j:Rr ts e' [44] [125] = .inl (false,y)):R = .inl (acc ++ [(s,x)],y)/\e'<=y:=by
 have z:=mY h H F hv
 unfold Rr at j
 by_cases C:Zg ts e' [44]=true
 ·rw [if_pos C] at j
  injection j with j;injection j with j;cases j
 ·rw [if_neg C] at j z
  rw [z];unfold Ze at j ⊢;by_cases A:Zg ts e' [125]=true
  ·rw [if_pos A] at j ⊢
   injection j with j;injection j with _ j;subst j;exact⟨rfl,by omega⟩
  ·rw [if_neg A] at j
   cases j
theorem jJ (h:Kr ts K R acc (f+1) a) (F:Zu ts a = .inl (s,b)) (C:Ze ts b [58] = .inl (u,c)) (hv:K c = .inl (x,e')) (j:Rr ts e' [44] [125] = .inr e):R = .inr e:=by
 have z:=mY h F C hv
 unfold Rr at j
 by_cases A:Zg ts e' [44]=true
 ·rw [if_pos A] at j
  cases j
 ·rw [if_neg A] at j z
  rw [z]
  cases hw:Ze ts e' [125] with
  | inl p=>rw [hw] at j; cases j
  | inr p =>
   rw [hw] at j;injection j with j;rw [j];rfl
end
theorem Eb {ts:List Tok} {a b:Nat} {s:bS} (h:Zu ts a = .inl (s,b)):b=a+1:=by
 unfold Zu at h
 split at h
 ·injection h with h; injection h with _ h; exact h.symm
 ·cases h
theorem tH {ts:List Tok} {a b:Nat} {s:bS} {u:Unit} (h:Ze ts a s = .inl (u,b)):b=a+1:=by
 unfold Ze at h
 split at h
 ·injection h with h; injection h with _ h; exact h.symm
 ·cases h
theorem uL {z:Func} {t u:Tmp} (h:z.results=#[.tmp t,.tmp u]) (j:Array vL) (P:Program) (w:wD):(results z j).run P w = .ok (.tuple #[j.getD t undef,j.getD u undef]) w:=by
 simp [results,h]
def Mb (_:Nat) (_:wD) (c:List vL) (s:bS):Prop:=c=[uP s]
theorem strC_k:B5 Mb where
 keep:=fun h _ _=>h
 lower:=fun h _=>h
def lK (lo:Nat) (w:wD) (v:vL) (l:List (bS×Ty)):Prop:=∃ vn vv cn cv,v = .tuple #[vn,vv]/\Yq Mb lo 9 1 vv.ownBlock w vn cn (l.map (·.1))/\Yq Kf lo 94 4 vn.ownBlock w vv cv (l.map (·.2))
theorem jH (pb tb cap d:Nat) (ts:List Tok) (g:Nat) (K:Nat->Pr Ty) (M:Xs pb tb cap d ts Yk g K)
  (f a:Nat) (hf:ts.length<=a+(f+1)) (w:wD) (h:Ps w pb tb cap ts a d) (ok:Ym ts) :
  Calls prog 135 #[qP pb,.func (.func g) #[] #[]] w (Ya pb tb cap ts d w lK (B7 ts K (f+1) a)):=by
 have H:=Za h
 have OK:=Za ok
 have HG:=Za M
 have U4:=M.enters
 clear h ok M
 have HT:=Za (Ta pb tb cap a d ts [125] w H.o OK.o)
 have HF:=Za hf
 clear hf
 obtain⟨R,hR⟩:=xE (B7 ts K (f+1) a)
 rw [<- hR]
 obtain⟨sb,Wx⟩:=xE (Zg ts a [125])
 rw [<- Wx] at HT
 have HR:=Za hR
 have C:=Za Wx
 clear hR Wx
 have hnot:∀ (x:Bool) (w:wD),(Op.unary .not (.bool x)).run prog w = .ok (.bool (!x)) w:=fun _ _=>rfl
 obtain⟨i0,hi,Xr,Xg,Xw⟩:=info_parts Iy
 obtain⟨s0,si,sz0,sz1,sz2⟩:=info_parts Ix
 go_enter func135,ntmps135
 go_wp2_with fail
 refine HT.o.mono ?_
 rintro e w1 ⟨rfl,j,z⟩
 have J:=Za j
 have HP:=Za z
 clear j z
 go_wp2_with fail
 go_loopg [6,7,8] (ts.length+2) (fun gk vn vv mo wr=>∃ (b m:Nat) (cn cv:List (List vL)) (acc:List (bS×Ty)) (ns:List (bS)) (ks:List Ty) (mb:Bool),mo = .bool mb/\xQ (ns=acc.map (·.1)/\ks=acc.map (·.2))/\xQ (Yq Mb w.heap.size 9 1 vv.ownBlock wr vn cn ns)/\xQ (Yq Kf w.heap.size 94 4 vn.ownBlock wr vv cv ks)/\xQ (Zl pb w wr)/\xQ (Ps wr pb tb cap ts b d)/\xQ (acc.length<=b)/\xQ (ts.length<=b+(m+1))/\xQ (mb=true->Kr ts K R acc (m+1) b/\ts.length - b+1<=gk)/\xQ (mb=false->R = .inl (acc,b)))
 case atStart =>
  refine⟨_,f,[],[],[],[],[],_,rfl,⟨rfl,rfl⟩,Ha _ _ _ _ _,Ha _ _ _ _ _,J,HP,xZ _,?_,fun h=>?_,fun h=>?_⟩
  ·have:=HF.o
   show _<=_
   split <;> omega
  ·have hs:sb=false:=by simpa using h
   rw [hs] at C ⊢;exact⟨by rw [HR.o]; exact jL C.o.symm,by have:=HF.o; simp; omega⟩
  ·have hs:sb=true:=by simpa using h
   rw [hs] at C ⊢;rw [HR.o];exact mX C.o.symm
 case round =>
  clear J HP HT HR C;obtain⟨b,m,cn,cv,acc,ns,ks,mb,rfl,Po,HN,HV,Xc,Qt,Nw,Qs,O,Y⟩:=hrel
  cases mb with
  | false =>
   have N:=Za (Y.o rfl);clear Y O;go_wp2_with fail;refine bodyPost_ret (uL rfl _ _ _) rfl ?_;rw [N.o];exact⟨Xc.o,Qt.o,_,rfl,_,_,cn,cv,rfl,Po.o.1 ▸ HN.o,Po.o.2 ▸ HV.o⟩
  | true =>
   have T:=Za (O.o rfl).1;have Pw:=(O.o rfl).2;clear Y O;obtain⟨av,lv,rfl⟩:=Yt HN.o.ow;obtain⟨av2,lv2,rfl⟩:=Yt HV.o.ow;have HO:=Za (Dx pb tb cap b d ts wr Qt.o OK.o)
   cases hn:Zu ts b with
   | inr x =>
    obtain⟨er,li,co⟩:=x;have N:=Za (jK T.o hn);rw [hn] at HO;clear hn;go_wp2_with fail;refine HO.o.mono ?_;rintro e w2 ⟨j,rfl⟩;have J:=Za (Xc.o.trans j);clear j;go_wp2_with fail;rw [N.o];exact⟨rfl,J.o,rfl⟩
   | inl x =>
    obtain⟨s,b1⟩:=x;have Z:=Za hn;have Zs:=Eb hn;rw [hn] at HO;clear hn
    have Lw:acc.length<=8193:=by have:=Nw.o; have:=OK.o.len; have:=Qt.o.lt; omega
    have yR:ns.length<=8193:=by rw [Po.o.1]; simpa using Lw
    have hac2:ks.length<=8193:=by rw [Po.o.2]; simpa using Lw
    go_wp2_with fail;refine HO.o.mono ?_;rintro e w2 ⟨j,z,v,rfl,rfl⟩;have J:=Za (Xc.o.trans j);have Nb:=Za z;have Vr:=Za (HN.o.stay j H.o.ltp);have Lo:=Za (HV.o.stay j H.o.ltp);clear j z
    go_wp2_with(at_builtin; refine wpList_append_own_at _ rfl (.tmp 19) (.tmp 24) 25 rfl w.heap.size 9 s0 _ 1 16 underlying25 si sz0 sz1 sz2 rfl (by decide) _ _ _ rfl (Vr.o.ow.alloc _) (aP _ 0) 1 1 [uP s] rfl rfl (V2 _ _ _) (by simp [Value.oneCell']) (by unfold maxLen; omega) (by omega) (by have:=J.o.size; simp; omega) ?_)
    intro vn' w4 Zr Zo _ Z4;have HN4:=Za (Vr.o.put (x:=s) (rep:=Mb) Zr Zo (Z4.imp_right fun e=>⟨_,e,by simp⟩) ((Zl.refl pb w2).alloc Nb.o.ltp _) H.o.ltp rfl ((Xt.new (rep:=Mb) (lo:=w2.heap.size) rfl J.o.size fun q I=>Vr.o.all q I).stay ((Zl.refl pb w2).alloc Nb.o.ltp _) H.o.ltp));have Kw:=Za ((Lo.o.stay ((Zl.refl pb w2).alloc Nb.o.ltp _) H.o.ltp).beside (o':=vn'.ownBlock) Zo (Z4.imp_right fun e=>⟨_,e,by simp,(Zr.lt _ e).2⟩) (by have:=J.o.size; simp; omega))
    have P8:xQ (Zl pb w w4):=(J.o.alloc H.o.ltp _).grown Zo H.o.ltp fun q I=>(Vr.o.own q I).1
    have Sd:xQ (Ps w4 pb tb cap ts b1 d):=(Nb.o.alloc _).grown Zo fun q I=>xT H.o.ltp (Vr.o.own q I).1
    obtain⟨av3,lv3,rfl⟩:=Yt Zr;clear Zr Zo Z4 Vr Lo J Nb;have HM:=Za (Uy pb tb cap b1 d ts [58] w4 Sd.o OK.o)
    cases hm:Ze ts b1 [58] with
    | inr x =>
     obtain⟨er,li,co⟩:=x;have N:=Za (jI T.o Z.o hm);rw [hm] at HM;clear hm;go_wp2_with fail;refine HM.o.mono ?_;rintro e w5 ⟨j,rfl⟩;have Hp:=Za (P8.o.trans j);clear j;go_wp2_with fail;rw [N.o];exact⟨rfl,Hp.o,rfl⟩
    | inl x =>
     obtain⟨u,b2⟩:=x;have Kx:=Za hm;have Z5:=tH hm;rw [hm] at HM;clear hm;go_wp2_with fail;refine HM.o.mono ?_;rintro e w5 ⟨j,z,v,rfl,_⟩;have Hp:=Za (P8.o.trans j);have HPS5:=Za z;have Hk:=Za (HN4.o.stay j H.o.ltp);have Lp:=Za (Kw.o.stay j H.o.ltp);clear j z HM;have F1:=Za (HG.o.calls b2 w5 HPS5.o)
     cases ho:K b2 with
     | inr x =>
      obtain⟨er,li,co⟩:=x;have N:=Za (jM T.o Z.o Kx.o ho);rw [ho] at F1;clear ho;go_wp2_with fail;refine F1.o.mono ?_;rintro e w6 ⟨j,rfl⟩;have At:=Za (Hp.o.trans j);clear j;go_wp2_with fail;rw [N.o];exact⟨rfl,At.o,rfl⟩
     | inl x =>
      obtain⟨D1,b3⟩:=x;have F:=Za ho;have Ts:=HG.o.up _ _ _ ho;rw [ho] at F1;clear ho;go_wp2_with fail;refine F1.o.mono ?_;rintro e w6 ⟨j,z,v,rfl,hv⟩;obtain⟨k1,nm1,na1,nl1,nc1,ka1,kl1,kc1,rfl⟩:=hv.cells;have At:=Za (Hp.o.trans j);have Ey:=Za z;have Hl:=Za (Hk.o.stay j H.o.ltp);have Hr:=Za (Lp.o.stay j H.o.ltp);have Au:=Za hv;clear j z hv
      go_wp2_with(at_builtin; refine wpList_append_own_at _ rfl (.tmp 30) (.tmp 34) 61 rfl w.heap.size 94 i0 _ 4 72 underlying61 hi Xr Xg Xw rfl (by decide) _ _ _ rfl (Hr.o.ow.alloc _) (aP _ 0) 1 1 [iP k1,.string nm1,.slice na1 nl1 nc1,.slice ka1 kl1 kc1] rfl rfl (V2 _ _ _) (by simp [Value.oneCell']) (by unfold maxLen; omega) (by omega) (by have:=At.o.size; simp; omega) ?_)
      intro vv' w7 Zr Zo _ Z4;have Sh:=Za (Hr.o.put (x:=D1) (rep:=Kf) Zr Zo (Z4.imp_right fun e=>⟨_,e,by simp⟩) ((Zl.refl pb w6).alloc Ey.o.ltp _) H.o.ltp rfl ((Xt.new (rep:=Kf) Au.o Hp.o.size fun q I=>Lp.o.all q I).stay ((Zl.refl pb w6).alloc Ey.o.ltp _) H.o.ltp));have Fy:=Za ((Hl.o.stay ((Zl.refl pb w6).alloc Ey.o.ltp _) H.o.ltp).beside (o':=vv'.ownBlock) Zo (Z4.imp_right fun e=>⟨_,e,by simp,(Zr.lt _ e).2⟩) (by have:=At.o.size; simp; omega))
      have V:xQ (Zl pb w w7):=(At.o.alloc H.o.ltp _).grown Zo H.o.ltp fun q I=>(Hr.o.own q I).1
      have HPS7:xQ (Ps w7 pb tb cap ts b3 d):=(Ey.o.alloc _).grown Zo fun q I=>xT H.o.ltp (Hr.o.own q I).1
      clear Zr Zo Z4 F1;have A:=Za (gA pb tb cap b3 d ts [44] [125] w7 HPS7.o OK.o)
      cases M:Rr ts b3 [44] [125] with
      | inr x =>
       obtain⟨er,li,co⟩:=x;have N:=Za (jJ T.o Z.o Kx.o F.o M);rw [M] at A;clear M;go_wp2_with fail;refine A.o.mono ?_;rintro e w8 ⟨j,rfl⟩;have Ou:=Za (V.o.trans j);clear j;go_wp2_with fail;rw [N.o];exact⟨rfl,Ou.o,rfl⟩
      | inl x =>
       obtain⟨gb,b4⟩:=x;have Ew:=Za M;rw [M] at A;clear M;go_wp2_with fail;refine A.o.mono ?_;rintro e w8 ⟨j,z,v,rfl,rfl⟩;have Ou:=Za (V.o.trans j);have Oq:=Za z;have Fz:=Za (Fy.o.stay j H.o.ltp);have Hs:=Za (Sh.o.stay j H.o.ltp);clear j z A;go_wp2_with fail
       have Fa:b3<=b4:=by
        cases gb with
        | true=>have:=(qF T.o Z.o Kx.o F.o Ew.o).2; omega
        | false=>exact(qE T.o Z.o Kx.o F.o Ew.o).2
       go_roundg (ts.length - b4+1)
       case measure=>have:=Oq.o.lt; omega
       case rel =>
        refine⟨b4,m - 1,_,_,acc ++ [(s,D1)],_,_,gb,rfl,⟨?_,?_⟩,Fz,Hs,Ou,Oq,?_,?_,fun h=>?_,fun h=>?_⟩
        ·rw [Po.o.1]; simp
        ·rw [Po.o.2]; simp
        ·have:=Nw.o
         show(acc ++ [(s,D1)]).length<=b4;simp;omega
        ·have:=Qs.o
         show _<=_;omega
        ·subst h
         have h1:=(qF T.o Z.o Kx.o F.o Ew.o)
         have:=Oq.o.lt;have:=Qs.o
         obtain⟨q,rfl⟩:∃ q,m=q+1:=⟨m - 1,by omega⟩
         exact⟨h1.1,xR⟩
        ·subst h
         exact(qE T.o Z.o Kx.o F.o Ew.o).1
theorem K8 {g : Nat} {fn : Func} (hf : prog.funcs[g]? = some fn) (hn : (fn.name == "runtime.NumGoroutine") = false) (hb : fn.body.isNone = false) (args : Array Value) (w : World) : (callFunc g args).run prog w = .ok (.enter g args) w := by
 have h1 : fn.name ≠ "runtime.NumGoroutine" := by simpa using hn
 have h2:fn.body≠none:=fun e=>by rw [e] at hb; cases hb
 simp [callFunc,go_sem,hf,h1,h2]
theorem fE (pb:Nat):Lh 106 pb:=fun w=>K8 func106 (by kernel_rfl) (by kernel_rfl) _ w
theorem zft (pb:Nat):Lh 129 pb:=fun w=>K8 func129 (by kernel_rfl) (by kernel_rfl) _ w
section
variable {lo lo' pb b m f a : Nat} {w w' : wD} {v : vL} {D : Ty} {ts : List Tok} {α : Type}
theorem Yk.keep (h:Yk lo w v D) (z:w.heap.size<=w'.heap.size) (j:∀ b,lo<=b->b<w.heap.size->w'.heap[b]?=w.heap[b]?):Yk lo w' v D:=by
 obtain⟨m,h⟩:=h
 exact⟨m,mB h z j⟩
theorem Yk.lower (h:Yk lo w v D) (j:lo'<=lo):Yk lo' w v D:=by
 obtain⟨m,h⟩:=h
 exact⟨m,lA h j⟩
theorem Yk.stay (h:Yk lo w v D) (j:Zl pb w w') (hp:pb<lo):Yk lo w' v D:=h.keep j.size fun b hb z=>j.keep b (by omega) z
theorem Yk.set4 (h:Yk lo w v D) (hb:b<lo) (j A C z:vL):Yk lo ((((w.setCell (aP b 0) j).setCell (aP b 1) A).setCell (aP b 2) C).setCell (aP b 3) z) v D :=
 h.keep (by rw [Ak]; exact xR) fun i hi _=>Q1 (by omega) _ _ _ _
theorem Yk.set1 (h:Yk lo w v D) (hb:b<lo) (o:Nat) (x:vL):Yk lo (w.setCell (aP b o) x) v D :=
 h.keep (by rw [Yg]; exact xR) fun i hi _=>xH (by show i≠b; omega)
theorem Yk.alloc (h:Yk lo w v D) (o:Obj):Yk lo (w.alloc o) v D:=h.keep (by simp) fun i _ j=>xA j
theorem zX (lo:Nat) (w:wD) (k:Int) (nm:bA) (z:(Lit.int .i64 k).wf=true) (j:nm.size<=reachBytes):Yk lo w (.agg #[iP k,.string nm,nP,nP]) (Y7 k nm.data.toList [] []) :=
 ⟨1,k,nm,none,0,none,0,[],[],rfl,rfl,z,j,(fun _ h=>nomatch h),⟨xR,xZ _⟩,⟨xR,xZ _⟩,.inl rfl,.inl rfl⟩
theorem Cm {one:Nat->Pr α} {sep:bS}:∀ (f:Nat) {a b:Nat} {l:List α},Z9 ts one sep f a = .inl (l,b)->l.length<=f
 | 0,_,_,_,h=>by cases h
 | f+1,a,b,l,h=>by
  rw [Z9] at h
  cases ho:one a with
  | inr e=>rw [ho] at h; cases h
  | inl p =>
   obtain⟨x,c⟩:=p;rw [ho] at h;replace h:(if Zg ts c sep then(Z9 ts one sep f (c+1)).go fun l a => .inl (x :: l,a)else .inl ([x],c)) = .inl (l,b):=h;by_cases j:Zg ts c sep=true
   ·rw [if_pos j] at h
    cases hm:Z9 ts one sep f (c+1)with
    | inr e=>rw [hm] at h; cases h
    | inl p =>
     obtain⟨l',d⟩:=p;rw [hm] at h;injection h with h;injection h with h;rw [<- h];have:=Cm f hm;simp;omega
   ·rw [if_neg j] at h
    injection h with h;injection h with h;rw [<- h];simp
theorem nL {one:Nat->Pr α} {sep:bS} {Q:α->Prop} (z:∀ a x b,one a = .inl (x,b)->Q x):∀ (f:Nat) {a b:Nat} {l:List α},Z9 ts one sep f a = .inl (l,b)->∀ x ∈ l,Q x
 | 0,_,_,_,h=>by cases h
 | f+1,a,b,l,h=>by
  rw [Z9] at h
  cases ho:one a with
  | inr e=>rw [ho] at h; cases h
  | inl p =>
   obtain⟨x,c⟩:=p;rw [ho] at h;replace h:(if Zg ts c sep then(Z9 ts one sep f (c+1)).go fun l a => .inl (x :: l,a)else .inl ([x],c)) = .inl (l,b):=h;by_cases A:Zg ts c sep=true
   ·rw [if_pos A] at h
    cases hm:Z9 ts one sep f (c+1)with
    | inr e=>rw [hm] at h; cases h
    | inl p =>
     obtain⟨l',d⟩:=p;rw [hm] at h;injection h with h;injection h with h;rw [<- h];intro y j;rcases List.mem_cons.1 j with rfl | j
     ·exact z a _ c ho
     ·exact nL z f hm y j
   ·rw [if_neg A] at h
    injection h with h;injection h with h;rw [<- h];intro y j;rw [List.mem_singleton.1 j];exact z a _ c ho
theorem dH {s:bS} {b:Nat} (h:Zu ts a = .inl (s,b)):s=(Zk ts a).text:=by
 unfold Zu at h
 split at h
 ·injection h with h; injection h with h; exact h.symm
 ·cases h
theorem zat (j:Ym ts) {K:Nat->Pr α} {x:bS×α} {b:Nat} (h:Qy ts K a = .inl (x,b)):x.1.length<=70000:=by
 unfold Qy at h
 cases hn:Zu ts a with
 | inr e=>rw [hn] at h; cases h
 | inl p =>
  obtain⟨s,c⟩:=p;rw [hn] at h;replace h:(Ze ts c [58]).go (fun _ a=>(K a).go fun t a => .inl ((s,t),a)) = .inl (x,b):=h
  cases hw:Ze ts c [58] with
  | inr e=>rw [hw] at h; cases h
  | inl p =>
   obtain⟨u,c2⟩:=p;rw [hw] at h;replace h:(K c2).go (fun t a => .inl ((s,t),a)) = .inl (x,b):=h
   cases hk:K c2 with
   | inr e=>rw [hk] at h; cases h
   | inl p =>
    rw [hk] at h;injection h with h;injection h with h;rw [<- h];show s.length<=_;rw [dH hn];exact j.txt a
theorem mW (j:Ym ts) {K:Nat->Pr α} {l:List (bS×α)} (h:B7 ts K f a = .inl (l,b)):l.length<=f/\∀ p ∈ l,p.1.length<=70000:=by
 unfold B7 at h
 split at h
 ·injection h with h
  injection h with h;rw [<- h];exact⟨xZ _,fun _ h=>nomatch h⟩
 ·cases hm:Z9 ts (Qy ts K) [44] f a with
  | inr e=>rw [hm] at h; cases h
  | inl p =>
   obtain⟨l',c⟩:=p;rw [hm] at h;replace h:(Ze ts c [125]).go (fun _ b => .inl (l',b)) = .inl (l,b):=h
   cases hw:Ze ts c [125] with
   | inr e=>rw [hw] at h; cases h
   | inl p =>
    rw [hw] at h;injection h with h;injection h with h;rw [<- h];exact⟨Cm f hm,nL (Q:=fun p=>p.1.length<=70000) (fun a x b h=>zat j h) f hm⟩
theorem wK {B:Nat} {o:Option Nat} {wx:wD} {v:vL} {cs:List (List vL)} {xs:List (bS)} (h:Yq Mb B 9 1 o wx v cs xs):∃ (a:oA) (cap:Nat),v = .slice a xs.length cap/\xs.length<=cap/\Bb wx B a xs:=by
 obtain⟨a,cap,e,H,j⟩:=h.form strC_k
 refine⟨a,cap,e,H,?_⟩
 rcases j with j | ⟨g,rfl,C,J,z⟩
 ·exact .inl j
 ·refine .inr ⟨g,0,rfl,C,Lq J,fun i F=>?_⟩
  obtain⟨c,_,I,A⟩:=z i F;have:=I 0 (by omega);rw [A] at this
  simpa using this
theorem eH {l:List (bS×Ty)} {j:vL} (h:lK lo w j l) (hl:l.length<=8193) (A:∀ p ∈ l,p.1.length<=70000):∃ a c a' c',j = .tuple #[.slice a l.length c,.slice a' l.length c']/\Yk lo w (.agg #[iP 5,sP,.slice a l.length c,.slice a' l.length c']) (Y7 5 [] (l.map (·.1)) (l.map (·.2))):=by
 obtain⟨vn,vv,cn,cv,rfl,z,J⟩:=h
 obtain⟨a,c,rfl,C,F⟩:=wK z
 obtain⟨a',c',m,rfl,Qc,hK⟩:=Ek J
 refine⟨a,c,a',c',by simp,m+1,5,⟨#[]⟩,a,c,a',c',_,_,by simp,rfl,by decide,by decide,?_,⟨C,?_⟩,⟨Qc,?_⟩,F,hK⟩
 ·intro s I
  obtain⟨p,H,rfl⟩:=List.mem_map.1 I;have:=A p H;unfold reachBytes;omega
 ·simp only [List.length_map]; unfold reachBytes; omega
 ·simp only [List.length_map]; unfold reachBytes; omega
end
abbrev yL:List (bS):=[[97,110,121],[110,117,108,108],[98,111,111,108],[105,110,116],[115,116,114]]
def bG (ts:List Tok) (K:Nat->Pr Ty) (f a:Nat):Pr Ty :=
 if Zg ts a [123] then(B7 ts K f (a+1)).go fun l b => .inl (Y7 5 [] (l.map (·.1)) (l.map (·.2)),b)
 else if Zg ts a [40] then(K (a+1)).go fun t a=>(Ze ts a [41]).go fun _ a => .inl (t,a)
 else(Zu ts a).go fun s a => .inl (Y7 8 s [] [],a)
theorem Fs {ts:List Tok} {a:Nat} {s j:bS} (h:Zg ts a s=true) (z:s≠j):Zg ts a j=false:=by
 unfold Zg at h ⊢
 simp only [Bool.and_eq_true,beq_iff_eq] at h
 rw [h.2]
 simp [z]
theorem zfw (ts:List Tok) (K:Nat->Pr Ty) (f a:Nat) (i:Nat) (C:Nv (Zk ts a) yL=i):Mw ts K f a = .inl (Y7 i [] [] [],a+1)/\i<=4/\∃ s,Zg ts a s=true:=by
 unfold Nv at C
 split at C
 ·rename_i O
  have J:((Zk ts a).kind == 2 || (Zk ts a).kind == 5)=true:=by rcases O with h | h <;> simp [h]
  unfold Ac at C
  split at C
  ·rename_i j M
   obtain⟨I,H,_⟩:=List.findIdx?_eq_some_iff_getElem.1 M
   have F:j=i:=by omega
   subst F;have N:(Zk ts a).text=yL[j]:=(beq_iff_eq.1 H).symm
   have A:Zg ts a yL[j]=true:=by unfold Zg; rw [J,N]; simp
   refine⟨?_,by simp at I; omega,_,A⟩;unfold Mw
   match j,I with
   | 0,_ =>
    have z:Zg ts a [97,110,121]=true:=A;rw [if_pos (show Zg ts a (Xb 0)=true from z)];rfl
   | 1,_ =>
    have z:Zg ts a [110,117,108,108]=true:=A;rw [if_neg (by rw [Fs z (show([110,117,108,108]:bS)≠Xb 0 by decide)]; simp),if_pos (show Zg ts a (Xb 1)=true from z)];rfl
   | 2,_ =>
    have z:Zg ts a [98,111,111,108]=true:=A;rw [if_neg (by rw [Fs z (show([98,111,111,108]:bS)≠Xb 0 by decide)]; simp),if_neg (by rw [Fs z (show([98,111,111,108]:bS)≠Xb 1 by decide)]; simp),if_pos (show Zg ts a (Xb 2)=true from z)];rfl
   | 3,_ =>
    have z:Zg ts a [105,110,116]=true:=A;rw [if_neg (by rw [Fs z (show([105,110,116]:bS)≠Xb 0 by decide)]; simp),if_neg (by rw [Fs z (show([105,110,116]:bS)≠Xb 1 by decide)]; simp),if_neg (by rw [Fs z (show([105,110,116]:bS)≠Xb 2 by decide)]; simp),if_pos (show Zg ts a (Xb 3)=true from z)];rfl
   | 4,_ =>
    have z:Zg ts a [115,116,114]=true:=A;rw [if_neg (by rw [Fs z (show([115,116,114]:bS)≠Xb 0 by decide)]; simp),if_neg (by rw [Fs z (show([115,116,114]:bS)≠Xb 1 by decide)]; simp),if_neg (by rw [Fs z (show([115,116,114]:bS)≠Xb 2 by decide)]; simp),if_neg (by rw [Fs z (show([115,116,114]:bS)≠Xb 3 by decide)]; simp),if_pos (show Zg ts a (Xb 4)=true from z)]
    rfl
  ·omega
 ·omega
def Qn {α:Type} (a:Nat) (r:Pr α):Prop:=∀ x b,r = .inl (x,b)->a<=b
section
variable {α β : Type} {ts : List Tok} {a : Nat}
theorem Yv {r:Pr α} {k:α->Nat->Pr β} (h:Qn a r) (z:∀ x c,a<=c->Qn a (k x c)):Qn a (r.go k):=by
 intro y b j
 match r,h with
 | .inl (x,c),h=>exact z x c (h x c rfl) y b j
 | .inr e,_=>cases j
theorem Cw (e:Int) (c:Nat):Qn a (Vj ts e c:Pr α):=fun _ _ h=>by cases h
theorem Xy {c:Nat} (h:a<=c) (x:α):Qn a (.inl (x,c):Pr α):=fun _ _ e=>by
 injection e with e
 injection e with _ e
 omega
theorem Vv {p:Prop} [Decidable p] {r s:Pr α} (h1:Qn a r) (h2:Qn a s):Qn a (if p then r else s):=by split <;> assumption
theorem Q9 {c:Nat} (h:a<=c) (s:bS):Qn a (Ze ts c s):=Vv (Xy (by omega) _) (Cw _ _)
theorem Am {c:Nat} (h:a<=c):Qn a (Zu ts c):=Vv (Xy (by omega) _) (Cw _ _)
theorem Q8 {K:Nat->Pr α} (j:∀ a x b,K a = .inl (x,b)->a<=b) {c:Nat} (h:a<=c):Qn a (K c):=fun x b e=>Nat.le_trans h (j c x b e)
theorem zY {one:Nat->Pr α} {sep:bS} (z:∀ a x b,one a = .inl (x,b)->a<=b):∀ (f:Nat) {c:Nat},a<=c->Qn a (Z9 ts one sep f c)
 | 0,c,_=>Cw _ _
 | f+1,c,h=>Yv (Q8 z h) fun x b j=>Vv (Yv (zY z f (by omega)) fun l b j=>Xy j _) (Xy j _)
theorem eQ {K:Nat->Pr α} (A:∀ a x b,K a = .inl (x,b)->a<=b) {c:Nat} (h:a<=c):Qn a (Qy ts K c) :=
 Yv (Am h) fun _ _ z=>Yv (Q9 z _) fun _ _ C=>Yv (Q8 A C) fun _ _ j=>Xy j _
theorem eT {K:Nat->Pr Ty} (A:∀ a x b,K a = .inl (x,b)->a<=b) (f:Nat) {c:Nat} (h:a<=c):Qn a (Mw ts K f c):=by
 unfold Mw
 refine Vv (Xy (by omega) _) (Vv (Xy (by omega) _) (Vv (Xy (by omega) _) (Vv (Xy (by omega) _) (Vv (Xy (by omega) _) (Vv ?_ (Vv (Vv (Xy (by omega) _) ?_) ?_))))))
 ·exact Yv (Q8 A (by omega)) fun _ _ j=>Yv (Q9 j _) fun _ _ z=>Xy z _
 ·exact Yv (zY (fun a x b e=>eQ A (xR) x b e) f (by omega)) fun _ _ j=>Yv (Q9 j _) fun _ _ z=>Xy z _
 ·exact Yv (Am h) fun _ _ j=>Xy j _
theorem sJ {K:Nat->Pr Ty} (j:∀ a x b,K a = .inl (x,b)->a<=b) {f:Nat} {x:Ty} {b:Nat} (h:Mw ts K f a = .inl (x,b)):a<=b:=eT j f (xR) x b h
theorem up_alt {K:Nat->Pr Ty} (z:∀ a x b,K a = .inl (x,b)->a<=b) (f:Nat) {c:Nat} (h:a<=c):Qn a (Jv ts K f c):=by
 unfold Jv
 refine Yv (zY (fun a x b e=>eT z f (xR) x b e) f h) fun l b j=>?_
 match l with
 | []=>exact Xy j _
 | [t]=>exact Xy j _
 | _ :: _ :: _=>exact Xy j _
theorem fG (ts:List Tok) (f:Nat):∀ (n d c:Nat) (x:Ty) (b:Nat),Wg ts f n d c = .inl (x,b)->c<=b
 | 0,_,_,_,_,h=>by cases h
 | n+1,d,c,x,b,h=>by
  rw [Wg] at h;have j:=fG ts f n (d+1);refine Vv (a:=c) (Cw (ts:=ts) _ _) (Yv (up_alt j f (xR)) fun t b A=>Vv (Yv (Q8 j (by omega)) fun _ _ z=>Xy z _) (Xy A _)) x b h
theorem zJ {f n d:Nat} {x:Ty} {b:Nat} (h:Wg ts f n d a = .inl (x,b)):a<=b:=fG ts f n d a x b h
theorem zds {one:Nat->Pr α} {sep:bS} {f c b:Nat} {l:List α} (h:Z9 ts one sep f c = .inl (l,b)):l≠[]:=by
 intro e
 subst e
 cases f with
 | zero=>cases h
 | succ f =>
  rw [Z9] at h
  cases ho:one c with
  | inr e=>rw [ho] at h; cases h
  | inl p =>
   obtain⟨x,c2⟩:=p;rw [ho] at h;replace h:(if Zg ts c2 sep then(Z9 ts one sep f (c2+1)).go fun l a => .inl (x :: l,a)else .inl ([x],c2)) = .inl ([],b):=h
   split at h
   ·cases hm:Z9 ts one sep f (c2+1)with
    | inr e=>rw [hm] at h; cases h
    | inl p=>rw [hm] at h; injection h with h; injection h with h; cases h
   ·injection h with h; injection h with h; cases h
end
theorem tI {ts:List Tok} {a:Nat} {L:List (bS)} (h:Nv (Zk ts a) L<0) {s:bS} (z:s ∈ L):Zg ts a s=false:=by
 have j:=lG ts a L
 rw [show decide (0<=Nv (Zk ts a) L)=false by simp; omega] at j
 have:=List.any_eq_false.1 j.symm s z
 simpa using this
theorem zfv (ts:List Tok) (K:Nat->Pr Ty) (f a:Nat) (h:Nv (Zk ts a) yL<0):Mw ts K f a=bG ts K f a:=by
 unfold Mw bG
 rw [if_neg (by rw [tI h (s:=Xb 0) (by decide)]; simp),if_neg (by rw [tI h (s:=Xb 1) (by decide)]; simp),if_neg (by rw [tI h (s:=Xb 2) (by decide)]; simp),if_neg (by rw [tI h (s:=Xb 3) (by decide)]; simp),if_neg (by rw [tI h (s:=Xb 4) (by decide)]; simp)]
 by_cases j:Zg ts a [123]=true
 ·rw [if_neg (by rw [Fs j (show([123]:bS)≠[40] by decide)]; simp),if_pos j,if_pos j]
  unfold B7;by_cases z:Zg ts (a+1) [125]=true
  ·rw [if_pos z,if_pos z]
   rfl
  ·rw [if_neg z,if_neg z]
   cases Z9 ts (Qy ts K) [44] f (a+1)with
   | inr e=>rfl
   | inl p =>
    obtain⟨l,b⟩:=p;show Pr.go (Ze ts b [125]) _=Pr.go (Pr.go (Ze ts b [125]) _) _
    cases Ze ts b [125] with
    | inr e=>rfl
    | inl q=>rfl
 ·rw [if_neg j,if_neg j]
end Go.Proofs.YtoppemkjhhlegaaGreatDoor
