/- Part. -/
import Derived.Deep.LoopGhost
import Derived.Test.YtoppemkjhhlegaaGreatDoorPart2
set_option maxRecDepth 100000
set_option maxHeartbeats 4000000
namespace Go.Proofs.YtoppemkjhhlegaaGreatDoor
open Go.Proofs.Tryz
open Go.RowKit
theorem bV (a b c d:Value) (w:World):(Instr.field 121 (.agg #[a,b,c,d]) 0).run prog w = .ok a w:=by simp [Instr.field,go_sem,asAgg]
theorem zjl (a b c d:Value) (w:World):(Instr.field 121 (.agg #[a,b,c,d]) 1).run prog w = .ok b w:=by simp [Instr.field,go_sem,asAgg]
def Nv (t:Tok) (L:List (bS)):Int:=if t.kind=2∨t.kind=5 then Ac L t.text else -1
def Hw (w:World) (xb:Nat) (L:List (bS)):Prop:=xb<w.heap.size/\∀ i (h:i<L.length),w.cell? (aP xb i)=some (.string ⟨L[i].toArray⟩)
theorem Hw.below {w w1:World} {j:Nat} {L:List (bS)} (h:Hw w j L) (z:Below w.heap.size w w1):Hw w1 j L :=
 ⟨xT h.1 z.size,fun i A=>(z.cell (p:=aP j i) h.1).trans (h.2 i A)⟩
theorem zkv (M O:Nat) (t:Tok) (L:List (bS)) (pb:Nat) (w:World) (I:Calls prog 81 #[qP pb] w fun e w'=>e = .returned (Cv t)/\Below w.heap.size w w') (N:Hw w M L) (V:L.length<=100) :
  Calls prog 83 #[qP pb,lP M L.length O] w fun e w'=>e = .returned (iP (Nv t L))/\Below w.heap.size w w':=by
 have H:=Za I
 have Z:=Za N
 clear I N
 obtain⟨k,x,li,co⟩:=t
 have T:=Za (fun w1 (z:Below w.heap.size w w1)=>zcb M O L x w1 (Z.o.below z).2 V)
 by_cases A:k=2
 ·have n2:(k != 2)=false:=by simp [A]
  have J:xQ (Nv ⟨k,x,li,co⟩ L=Ac L x):=by rw [Nv,if_pos (.inl A)]; exact rfl
  clear A;go_enter func83,j;go_wp2_with fail;refine H.o.mono ?_;rintro e w1 ⟨rfl,z⟩;have C:=Za z;clear z;go_wp2_with fail;refine(T.o _ (by first | exact Zz C.o (Zq _ _) | skip)).mono ?_;rintro e w2 ⟨rfl,q,rfl⟩;go_wp2_with fail;go_ret;refine⟨by rw [J.o]; rfl,?_⟩;exact below_drewN (Zz C.o (Zq _ _)) _
 ·by_cases F:k=5
  ·have n2:(k != 2)=true:=by simp [A]
   have Y:(k != 5)=false:=by simp [F]
   have J:xQ (Nv ⟨k,x,li,co⟩ L=Ac L x):=by rw [Nv,if_pos (.inr F)]; exact rfl
   clear A F;go_enter func83,j;go_wp2_with fail;refine H.o.mono ?_;rintro e w1 ⟨rfl,z⟩;have C:=Za z;clear z;go_wp2_with fail;refine(T.o _ (by first | exact Zz C.o (Zq _ _) | skip)).mono ?_;rintro e w2 ⟨rfl,q,rfl⟩;go_wp2_with fail;go_ret;refine⟨by rw [J.o]; rfl,?_⟩;exact below_drewN (Zz C.o (Zq _ _)) _
  ·have n2:(k != 2)=true:=by simp [A]
   have Y:(k != 5)=true:=by simp [F]
   have J:xQ (Nv ⟨k,x,li,co⟩ L = -1):=by rw [Nv,if_neg (by rintro(h | h); exact A h; exact F h)]; exact rfl
   clear A F;go_enter func83,j;go_wp2_with fail;refine H.o.mono ?_;rintro e w1 ⟨rfl,z⟩;have C:=Za z;clear z;go_wp2_with fail;go_ret;refine⟨by rw [J.o]; rfl,?_⟩;exact Zz C.o (Zq _ _)
theorem cG (pb tb cap a j z:Nat) (ts:List Tok) (L:List (bS)) (w:World) (h:Rk w pb tb cap ts a) (C:Hw w j L) (A:L.length<=100) :
  Calls prog 83 #[qP pb,lP j L.length z] w fun e w'=>e = .returned (iP (Nv (Zk ts a) L))/\Below w.heap.size w w' :=
 zkv j z _ L pb w (sD pb tb cap a ts w h) C A
theorem lE (ts:List Tok) (a:Nat) (L:List (bS)):decide (0<=Nv (Zk ts a) L)=L.any fun s=>Zg ts a s:=by
 unfold Nv Zg
 by_cases j:(Zk ts a).kind=2∨(Zk ts a).kind=5
 ·rw [if_pos j]
  have z:((Zk ts a).kind == 2 || (Zk ts a).kind == 5)=true:=by rcases j with h | h <;> simp [h]
  simp only [z,Bool.true_and]
  cases he:L.any fun s=>(Zk ts a).text == s with
  | true =>
   obtain⟨s,H,F⟩:=List.any_eq_true.1 he
   have:(L.findIdx? (· == (Zk ts a).text)).isSome=true:=by
    rw [List.findIdx?_isSome,List.any_eq_true];exact⟨s,H,by rw [beq_iff_eq.1 F]; simp⟩
   obtain⟨i,A⟩:=Option.isSome_iff_exists.1 this;rw [Ac,A];simp
  | false =>
   have:L.findIdx? (· == (Zk ts a).text)=none:=List.findIdx?_eq_none_iff.2 fun x C=>by
    have:=List.any_eq_false.1 he x C
    exact beq_eq_false_iff_ne.2 fun e=>this (by rw [e]; simp)
   rw [Ac,this];simp
 ·rw [if_neg j]
  have z:((Zk ts a).kind == 2 || (Zk ts a).kind == 5)=false:=by simpa using j
  simp [z]
theorem is_r (pb tb cap a j A:Nat) (ts:List Tok) (L:List (bS)) (w:World) (h:Rk w pb tb cap ts a) (z:Hw w j L) (C:L.length<=100) :
  Calls prog 67 #[qP pb,lP j L.length A] w fun e w'=>e = .returned (.bool (L.any fun s=>Zg ts a s))/\Below w.heap.size w w':=by
 have H:=Za (cG pb tb cap a j A ts L w h z C)
 clear h z
 go_enter func67,ntmps67
 go_wp2_with fail
 refine H.o.mono ?_
 rintro e w1 ⟨rfl,F⟩
 go_wp2_with fail
 go_ret
 exact⟨congrArg (fun b=>Ending.returned (.bool b)) (lE ts a L),F⟩
theorem zV (w:World) (L:List (bS)) (t:TypeId) (h:Nat) (z:h=w.heap.size):Hw (w.alloc (.cells (L.map fun s=>uP s).toArray t)) h L:=by
 subst z
 refine⟨by simp,fun i j=>?_⟩
 rw [cell_of_row _ _ _ _ _ _ (xL w _)]
 simp [j]
theorem V5 (pb tb cap a j z:Nat) (ts:List Tok) (L:List (bS)) (w:World) (t:TypeId) (h:Rk w pb tb cap ts a) (C:j=w.heap.size) (A:L.length<=100) :
  Calls prog 67 #[qP pb,lP j L.length z] (w.alloc (.cells (L.map fun s=>uP s).toArray t)) fun e w'=>e = .returned (.bool (L.any fun s=>Zg ts a s))/\Below w.heap.size w w' :=
 (is_r pb tb cap a j z ts L _ (h.below (Zq _ _)) (zV w L t j C) A).mono fun _ _ ⟨H,F⟩=>⟨H,Zz (Zq _ _) F⟩
theorem cC (pb tb cap a j z:Nat) (ts:List Tok) (L:List (bS)) (w:World) (t:TypeId) (h:Rk w pb tb cap ts a) (C:j=w.heap.size) (A:L.length<=100) :
  Calls prog 83 #[qP pb,lP j L.length z] (w.alloc (.cells (L.map fun s=>uP s).toArray t)) fun e w'=>e = .returned (iP (Nv (Zk ts a) L))/\Below w.heap.size w w' :=
 (cG pb tb cap a j z ts L _ (h.below (Zq _ _)) (zV w L t j C) A).mono fun _ _ ⟨H,F⟩=>⟨H,Zz (Zq _ _) F⟩
theorem T0 (ts:List Tok) (a:Nat) (s:bS):([s].any fun s=>Zg ts a s)=Zg ts a s:=by simp
theorem Ta (pb tb cap a d:Nat) (ts:List Tok) (s:bS) (w:World) (h:Ps w pb tb cap ts a d) (J:Ym ts) :
  Calls prog 87 #[qP pb,uP s] w fun e w'=>e = .returned (.bool (Zg ts a s))/\Zl pb w w'/\Ps w' pb tb cap ts (if Zg ts a s then a+1 else a) d:=by
 have H:=Za h
 have F:=Za J
 clear h J
 cases hs:Zg ts a s with
 | true =>
  have A:=Za hs;rw [if_pos rfl];clear hs;go_enter func87,j;go_wp2_with fail;refine(V5 pb tb cap a _ 1 ts [s] w _ H.o.rd rfl (by simp)).mono ?_;rw [T0,A.o];rintro e w1 ⟨rfl,z⟩;have P1:=Za (H.o.below z);have C:=Za z;clear z;go_wp2_with fail;refine(Jj pb tb cap a d ts _ P1.o (Xx F.o.ends H.o.lt A.o) F.o.len).mono ?_;rintro e w2 ⟨rfl,I,M⟩;have N:=Za M;have O:=Za I
  clear I M;go_wp2_with fail;go_ret;exact⟨rfl,(Zl.of H.o.ltp C.o).trans O.o,N.o⟩
 | false =>
  have A:=Za hs;rw [if_neg (by simp)];clear hs;go_enter func87,j;go_wp2_with fail;refine(V5 pb tb cap a _ 1 ts [s] w _ H.o.rd rfl (by simp)).mono ?_;rw [T0,A.o];rintro e w1 ⟨rfl,z⟩;have P1:=Za (H.o.below z);have C:=Za z;clear z;go_wp2_with fail;go_ret;exact⟨rfl,Zl.of H.o.ltp C.o,P1.o⟩
abbrev jZ (t:Tok) (e:Int):Ending := .returned (Da t.line t.col e)
theorem zjk {w w2:World} {T:Tok} {j A C z:Value} (h:w2.heap[w.heap.size]?=some (.cells #[j,A,C,z] 121)) :
  ((((w2.setCell (aP w.heap.size 0) (iP T.kind)).setCell (aP w.heap.size 1) (uP T.text)).setCell (aP w.heap.size 2) (iP T.line)).setCell (aP w.heap.size 3) (iP T.col)).heap[w.heap.size]?=some (.cells #[iP T.kind,uP T.text,iP T.line,iP T.col] 121):=set4 h _ _ _ _
theorem Q6 {w w2:World} {pb b:Nat} (h:Zl pb w w2) (z:pb<w.heap.size) (j:w.heap.size<=b) (A F H C:Value):Zl pb w ((((w2.setCell (aP b 0) A).setCell (aP b 1) F).setCell (aP b 2) H).setCell (aP b 3) C) :=
 (((h.own z j 0 _).own z j 1 _).own z j 2 _).own z j 3 _
theorem Jk {w:World} {pb tb cap a d b:Nat} {ts:List Tok} (h:Ps w pb tb cap ts a d) (j:pb<b) (z C F A:Value):Ps ((((w.setCell (aP b 0) z).setCell (aP b 1) C).setCell (aP b 2) F).setCell (aP b 3) A) pb tb cap ts a d :=
 (((h.other j 0 _).other j 1 _).other j 2 _).other j 3 _
theorem Uy (pb tb cap a d:Nat) (ts:List Tok) (s:bS) (w:World) (h:Ps w pb tb cap ts a d) (O:Ym ts) :
  Calls prog 84 #[qP pb,uP s] w (Ya pb tb cap ts d w (fun _ _ v _=>v=Cv (Zk ts a)) (Ze ts a s)):=by
 have H:=Za h
 have J:=Za O
 clear h O
 unfold Ze
 cases hs:Zg ts a s with
 | true =>
  have A:=Za hs;rw [if_pos rfl];clear hs;go_enter func84,j;go_wp2_with fail;refine(V5 pb tb cap a _ 1 ts [s] (w.alloc _) _ (H.o.alloc _).rd (by simp) (by simp)).mono ?_;rw [T0,A.o];rintro e w1 ⟨rfl,z⟩;have P1:=Za ((H.o.alloc _).below z);have F:=Za (Zz (Zq _ _) z);have M:=Za ((z.block w.heap.size (by simp)).trans (xL w _));clear z;go_wp2_with fail;refine(Jj pb tb cap a d ts _ P1.o (Xx J.o.ends H.o.lt A.o) J.o.len).mono ?_
  rintro e w2 ⟨rfl,C,T⟩;have I:=(C.keep _ H.o.ltp (xB M.o)).trans M.o;obtain⟨⟨r0,r1,r2,r3⟩,⟨f0,f1,f2,f3⟩,Yw⟩:=Yh I;have Y:=Za I;have Z:=Za T;have Zx:=Za ((Zl.of H.o.ltp F.o).trans C);clear C T I;go_wp2_with fail;refine bodyPost_ret (results_cell_row rfl _ _ w.heap.size 121 _ (0,0) _ rfl (zjk Y.o) underlying121 rfl (by kernel_rfl)) rfl ⟨?_,?_,_,rfl,rfl⟩
  ·exact Q6 Zx.o H.o.ltp (xR) _ _ _ _
  ·exact Jk Z.o H.o.ltp _ _ _ _
 | false =>
  have A:=Za hs;rw [if_neg (by simp)];clear hs;go_enter func84,j;go_wp2_with fail;refine(V5 pb tb cap a _ 1 ts [s] (w.alloc _) _ (H.o.alloc _).rd (by simp) (by simp)).mono ?_;rw [T0,A.o];rintro e w1 ⟨rfl,z⟩;have P1:=Za ((H.o.alloc _).below z);have F:=Za (Zz (Zq _ _) z);clear z;go_wp2_with fail;refine(yA pb tb cap a d ts _ P1.o 7).mono ?_;rintro e w2 ⟨rfl,N⟩;have V:=Za (Zz F.o N)
  clear N;go_wp2_with fail;exact⟨rfl,Zl.of H.o.ltp V.o,rfl⟩
theorem Dx (pb tb cap a d:Nat) (ts:List Tok) (w:World) (h:Ps w pb tb cap ts a d) (F:Ym ts) :
  Calls prog 85 #[qP pb] w (Ya pb tb cap ts d w (fun _ _ v x=>v=uP x) (Zu ts a)):=by
 have H:=Za h
 have OK:=Za F
 have J:=Za (J7 pb tb cap a d ts w h)
 have M:=Za (fun wx (I:Ps wx pb tb cap ts a d) (hb:a+1<ts.length)=>Jj pb tb cap a d ts wx I hb F.len)
 have Y:xQ ((Zk ts a).kind=1->a+1<ts.length):=fun e=>F.ends a h.lt (by rw [e]; decide)
 have O:xQ (∀ wx (I:Ps wx pb tb cap ts a d),Calls prog 82 #[qP pb,iP 7] wx fun e w'=>e=jZ (Zk ts a) 7/\Below wx.heap.size wx w'):=fun wx I=>yA pb tb cap a d ts wx I 7
 clear h F
 unfold Zu Vj
 obtain⟨t,T⟩:=xE (Zk ts a)
 rw [<- T] at J M O Y ⊢
 clear T
 obtain⟨k,x,li,co⟩:=t
 have hf0:=bV
 have hf1:=zjl
 by_cases z:k=1
 ·have n1:(k != 1)=false:=by simp [z]
  rw [if_pos (by simp [z])];have B1:=Za (Y.o z);clear z;go_enter func85,j;go_wp2_with fail;refine J.o.mono ?_;rintro e w1 ⟨rfl,C⟩;have A:=Za C;clear C;go_wp2_with fail;refine(M.o _ (by first | exact H.o.below A.o | exact(H.o.below A.o).alloc _) B1.o).mono ?_;rintro e w2 ⟨rfl,N,Z⟩;have Gw:=Za Z;have Zx:=Za N;clear N Z;go_wp2_with fail;go_ret;exact⟨(Zl.of H.o.ltp A.o).trans Zx.o,Gw.o,_,rfl,rfl⟩
 ·have n1:(k != 1)=true:=by simp [z]
  rw [if_neg (by simp [z])];clear z;go_enter func85,j;go_wp2_with fail;refine J.o.mono ?_;rintro e w1 ⟨rfl,C⟩;have A:=Za C;clear C;go_wp2_with fail;refine(O.o _ (H.o.below A.o)).mono ?_;rintro e w2 ⟨rfl,V⟩;have Xa:=Za (Zz A.o V);clear V;go_wp2_with fail;exact⟨rfl,Zl.of H.o.ltp Xa.o,rfl⟩
theorem end_c (pb tb cap a d:Nat) (ts:List Tok) (w:World) (h:Ps w pb tb cap ts a d) :
  Calls prog 66 #[qP pb] w (Ya pb tb cap ts d w (fun _ _ v _=>v = .tuple #[]) (if (Zk ts a).kind == 0 then .inl ((),a)else Vj ts 7 a:Pr Unit)):=by
 have H:=Za h
 have F:=Za (J7 pb tb cap a d ts w h)
 have I:xQ (∀ wx (N:Ps wx pb tb cap ts a d),Calls prog 82 #[qP pb,iP 7] wx fun e w'=>e=jZ (Zk ts a) 7/\Below wx.heap.size wx w'):=fun wx N=>yA pb tb cap a d ts wx N 7
 clear h
 unfold Vj
 obtain⟨t,J⟩:=xE (Zk ts a)
 rw [<- J] at F I ⊢
 clear J
 obtain⟨k,x,li,co⟩:=t
 have hf0:=bV
 by_cases z:k=0
 ·have n1:(k != 0)=false:=by simp [z]
  rw [if_pos (by simp [z])];clear z;go_enter func66,j;go_wp2_with fail;refine F.o.mono ?_;rintro e w1 ⟨rfl,C⟩;have A:=Za C;clear C;go_wp2_with fail
  go_end0
  exact⟨Zl.of H.o.ltp A.o,H.o.below A.o,_,rfl,rfl⟩
 ·have n1:(k != 0)=true:=by simp [z]
  rw [if_neg (by simp [z])];clear z;go_enter func66,j;go_wp2_with fail;refine F.o.mono ?_;rintro e w1 ⟨rfl,C⟩;have A:=Za C;clear C;go_wp2_with fail;refine(I.o _ (H.o.below A.o)).mono ?_;rintro e w2 ⟨rfl,M⟩;have O:=Za (Zz A.o M);clear M;go_wp2_with fail;exact⟨rfl,Zl.of H.o.ltp O.o,rfl⟩
def Rr (ts:List Tok) (a:Nat) (f s:bS):Pr Bool:=if Zg ts a f then .inl (true,a+1)else(Ze ts a s).go fun _ b => .inl (false,b)
theorem hH (pb tb cap a d:Nat) (ts:List Tok) (f s:bS) (w:World) (h:Ps w pb tb cap ts a d) (N:Ym ts) :
  Calls prog 138 #[qP pb,uP f,uP s] w (Ya pb tb cap ts d w (fun _ _ v b=>v = .bool b) (Rr ts a f s)):=by
 have H:=Za h
 have I:=Za (Ta pb tb cap a d ts f w h N)
 have J:=Za (fun wx (T:Ps wx pb tb cap ts a d)=>Uy pb tb cap a d ts s wx T N)
 clear h N
 unfold Rr
 cases hs:Zg ts a f with
 | true =>
  rw [if_pos rfl];rw [hs,if_pos rfl] at I;clear hs;go_enter func138,j;go_wp2_with fail;refine I.o.mono ?_;rintro e w1 ⟨rfl,z,A⟩;have F:=Za z;have C:=Za A;clear z A;go_wp2_with fail;go_ret;exact⟨F.o,C.o,_,rfl,rfl⟩
 | false =>
  rw [if_neg (by simp)];rw [hs,if_neg (by simp)] at I;clear hs
  cases hw:Ze ts a s with
  | inl x =>
   obtain⟨_,b⟩:=x;rw [hw] at J;clear hw;go_enter func138,j;go_wp2_with fail;refine I.o.mono ?_;rintro e w1 ⟨rfl,z,A⟩;have F:=Za z;have C:=Za A;clear z A;go_wp2_with fail;refine(J.o _ C.o).mono ?_;rintro e w2 ⟨z,A,v,rfl,hv⟩;have M:=Za (F.o.trans z);have O:=Za A;clear z A;go_wp2_with fail;go_ret;exact⟨M.o,O.o,_,rfl,rfl⟩
  | inr x =>
   obtain⟨er,li,co⟩:=x;rw [hw] at J;clear hw;go_enter func138,j;go_wp2_with fail;refine I.o.mono ?_;rintro e w1 ⟨rfl,z,A⟩;have F:=Za z;have C:=Za A;clear z A;go_wp2_with fail;refine(J.o _ C.o).mono ?_;rintro e w2 ⟨z,rfl⟩;have M:=Za (F.o.trans z);clear z;go_wp2_with fail;exact⟨rfl,M.o,rfl⟩
theorem rd_new {w1:World} {pb tb cap a d:Nat} {ts:List Tok} (h:Ps w1 pb tb cap ts a d) (j:a+1<ts.length) :
  Rk ((w1.alloc (.cells #[lP tb ts.length cap,iP ((a:Int)+1)] 131)).drew) w1.heap.size tb cap ts (a+1) where
 c0:=by show(w1.alloc _).cell? _=_; rw [cell_of_row _ _ _ _ _ _ (xL w1 _)]; rfl
 c1:=by show(w1.alloc _).cell? _=_; rw [cell_of_row _ _ _ _ _ _ (xL w1 _)]; rfl
 ltp:=by simp
 tlt:=by have:=h.rd.tlt; simp; omega
 toks:=Lf h.toks (xA h.rd.tlt)
 lt:=j
theorem lW (pb tb cap a d:Nat) (ts:List Tok) (w:World) (h:Ps w pb tb cap ts a d) (I:Ym ts) :
  Calls prog 149 #[qP pb] w fun e w'=>e = .returned (.bool ((Zk ts a).kind == 1 && Zg ts (a+1) [58]))/\Below w.heap.size w w':=by
 have H:=Za h
 have V:=Za I
 have F:=Za (J7 pb tb cap a d ts w h)
 have O:xQ ((Zk ts a).kind=1->a+1<ts.length):=fun e=>I.ends a h.lt (by rw [e]; decide)
 clear h I
 obtain⟨t,M⟩:=xE (Zk ts a)
 rw [<- M] at F O ⊢
 clear M
 obtain⟨k,x,li,co⟩:=t
 have hf0:=bV
 by_cases z:k=1
 ·have n1:(k != 1)=false:=by simp [z]
  have C:(k == 1)=true:=by simp [z]
  have Y:=Za (O.o z);clear z;rw [C,Bool.true_and];go_enter func149,j;go_wp2_with fail;refine F.o.mono ?_;rintro e w1 ⟨rfl,A⟩;have P1:=Za (H.o.below A);have J:=Za A;obtain⟨c0,c1,c2⟩:=P1.o.cells;have Mk:=P1.o.ltp
  have ha:a<=8193:=by have:=V.o.len; have:=H.o.lt; omega
  clear A;go_wp2_with fail;go_region
  all_goals
   go_wp2_with fail;refine(V5 w1.heap.size tb cap (a+1) _ 1 ts [[58]] _ _ (rd_new P1.o Y.o) (by simp) (by simp)).mono ?_;rw [T0];rintro e w2 ⟨rfl,N⟩;have T:=Za N;clear N;go_wp2_with fail;go_ret;exact⟨rfl,Zz J.o (Zz (Zq _ _).drew T.o)⟩
 ·have n1:(k != 1)=true:=by simp [z]
  have C:(k == 1)=false:=by simp [z]
  clear z;rw [C,Bool.false_and];go_enter func149,j;go_wp2_with fail;refine F.o.mono ?_;rintro e w1 ⟨rfl,A⟩;have J:=Za A;clear A;go_wp2_with fail;go_ret;exact⟨rfl,J.o⟩
def Yk (lo:Nat) (w:World) (v:Value) (D:Ty):Prop:=∃ m,K0 w lo m v D
def Kf (lo:Nat) (w:World) (c:List Value) (D:Ty):Prop:=Yk lo w (.agg c.toArray) D
theorem pY:B5 Kf where
 keep:=fun⟨m,h⟩ A z=>⟨m,pZ h A z⟩
 lower:=fun⟨m,h⟩ j=>⟨m,bY h j⟩
theorem Yk.cells {lo:Nat} {w:World} {v:Value} {D:Ty} (h:Yk lo w v D):∃ (k:Int) (nm:bA) (na:oA) (nl nc:Nat) (ka:oA) (kl kc:Nat),v = .agg #[iP k,.string nm,.slice na nl nc,.slice ka kl kc]:=by
 obtain⟨m,h⟩:=h
 obtain⟨k,nm,na,nl,nc,ka,kl,kc,e,_⟩:=eH h
 exact⟨k,nm,na,nl,nc,ka,kl,kc,e⟩
theorem l9 {lo:Nat} {w:World}:∀ (l:List (Value×Ty)),(∀ p ∈ l,Yk lo w p.1 p.2)->∃ m,∀ p ∈ l,K0 w lo m p.1 p.2
 | [],_=>⟨0,fun _ h=>nomatch h⟩
 | p :: l,h=>by
  obtain⟨C,F⟩:=h p (xM ..)
  obtain⟨z,A⟩:=l9 l fun q j=>h q (xW _ j)
  refine⟨max C z,fun q j=>?_⟩;rcases List.mem_cons.1 j with rfl | j
  ·exact Rf F (Nat.le_max_left _ _)
  ·exact Rf (A q j) (Nat.le_max_right _ _)
theorem Ek {B et:Nat} {wx:World} {v:Value} {cs:List (List Value)} {xs:List Ty} {o:Option Nat} (h:Yq Kf B et 4 o wx v cs xs):∃ (a:oA) (cap m:Nat),v = .slice a xs.length cap/\xs.length<=cap/\Qk wx B m a xs:=by
 obtain⟨a,cap,e,V,hr⟩:=h.form pY
 have O:∀ p ∈ (cs.map fun c=>(Value.agg c.toArray)).zip xs,Yk B wx p.1 p.2:=by
  intro p N;obtain⟨i,F,rfl⟩:=List.mem_iff_getElem.1 N;simp only [List.getElem_zip,List.getElem_map];simp only [List.length_zip,List.length_map] at F;exact(h.made i (by omega) (by omega)).now pY
 obtain⟨m,hm⟩:=l9 _ O
 refine⟨a,cap,m,e,V,?_⟩
 rcases h.ow.2 with⟨C,M⟩ | ⟨g,cap2,cur,C,Z,T,_⟩
 ·exact .inl (List.length_eq_zero_iff.1 M)
 ·rw [e] at C
  injection C with e3 e4 e5;refine .inr ⟨g,0,e3,Z,⟨_,_,T⟩,fun i F=>?_⟩
  have I:i<cs.length:=by rw [h.len]; exact F
  have A:=h.each _ (List.getElem_mem I)
  have J:K0 wx B m (.agg cs[i].toArray) xs[i]:=by
   refine hm (.agg cs[i].toArray,xs[i]) (List.mem_iff_getElem.2 ⟨i,by simp; omega,by simp⟩)
  have z:∀ j,j<4->wx.cell? (aP g (0+i*4+j))=cs[i][j]?:=by
   intro j Y;have H:=h.ow;rw [e,e3] at H;rw [show 0+i*4+j=i*4+j by omega,H.cellAt (i*4+j) (by omega)];exact Ij cs h.each i I j Y
  match J2:cs[i],A with
  | [c0,c1,c2,c3],_ =>
   rw [J2] at z J;exact⟨c0,c1,c2,c3,z 0 (by omega),z 1 (by omega),z 2 (by omega),z 3 (by omega),J⟩
def F8 {α:Type} (ts:List Tok) (one:Nat->Pr α) (sep:bS) (R:Pr (List α)) (acc:List α) (f a:Nat):Prop :=
 R=if Zg ts a sep then(Z9 ts one sep f (a+1)).go fun l b => .inl (acc ++ l,b)else .inl (acc,a)
theorem qR {α:Type} {ts:List Tok} {one:Nat->Pr α} {sep:bS} {f a b:Nat} {x:α} (h:one a = .inl (x,b)):F8 ts one sep (Z9 ts one sep (f+1) a) [x] f b:=by
 unfold F8
 rw [Z9,h]
 rfl
theorem qM {α:Type} {ts:List Tok} {one:Nat->Pr α} {sep:bS} {f a:Nat} {e:Int×Nat×Nat} (h:one a = .inr e):Z9 ts one sep (f+1) a = .inr e:=by
 rw [Z9,h]
 rfl
theorem qQ {α:Type} {ts:List Tok} {one:Nat->Pr α} {sep:bS} {R:Pr (List α)} {acc:List α} {f a b:Nat} {x:α} (h:F8 ts one sep R acc (f+1) a) (A:Zg ts a sep=true) (z:one (a+1) = .inl (x,b)):F8 ts one sep R (acc ++ [x]) f b:=by
 unfold F8 at h ⊢
 rw [h,if_pos A,Z9,z]
 show Pr.go (Pr.go (.inl (x,b)) _) _=_
 unfold Pr.go
 by_cases j:Zg ts b sep=true
 ·rw [if_pos j]
  simp only [j,if_true]
  cases Z9 ts one sep f (b+1)with
  | inl p=>simp
  | inr e=>rfl
 ·simp only [j]
  simp
theorem qO {α:Type} {ts:List Tok} {one:Nat->Pr α} {sep:bS} {R:Pr (List α)} {acc:List α} {f a:Nat} {e:Int×Nat×Nat} (h:F8 ts one sep R acc (f+1) a) (z:Zg ts a sep=true) (j:one (a+1) = .inr e):R = .inr e:=by
 unfold F8 at h
 rw [h,if_pos z,Z9,j]
 rfl
theorem qN {α:Type} {ts:List Tok} {one:Nat->Pr α} {sep:bS} {R:Pr (List α)} {acc:List α} {f a:Nat} (h:F8 ts one sep R acc f a) (j:Zg ts a sep=false):R = .inl (acc,a):=by
 unfold F8 at h
 rw [h,if_neg (by simp [j])]
abbrev Lh (g pb:Nat):Prop:=∀ w,(callFunc g #[qP pb]).run prog w = .ok (.enter g #[qP pb]) w
def TysE (lo:Nat) (w:World) (v:Value) (xs:List Ty):Prop:=∃ cs,Yq Kf lo 94 4 none w v cs xs
structure Xs {α:Type} (pb tb cap d:Nat) (ts:List Tok) (rep:Nat->World->Value->α->Prop) (g:Nat) (one:Nat->Pr α):Prop where
 calls:∀ a w,Ps w pb tb cap ts a d->Calls prog g #[qP pb] w (Ya pb tb cap ts d w rep (one a))
 enters:Lh g pb
 up:∀ a x b,one a = .inl (x,b)->a<=b
theorem fS (pb tb cap d:Nat) (ts:List Tok) (sep:bS) (g:Nat) (one:Nat->Pr Ty) (hg:Xs pb tb cap d ts Yk g one)
  (f a:Nat) (hf:ts.length<=a+(f+1)) (w:World) (h:Ps w pb tb cap ts a d) (ok:Ym ts) :
  Calls prog 128 #[qP pb,uP sep,.func (.func g) #[] #[]] w (Ya pb tb cap ts d w TysE (Z9 ts one sep (f+1) a)):=by
 have H:=Za h
 have OK:=Za ok
 have HG:=Za hg
 have U4:=hg.enters
 clear h ok hg
 have T:=Za (HG.o.calls a w H.o)
 have HF:=Za hf
 clear hf
 cases ho:one a with
 | inr x =>
  obtain⟨er,li,co⟩:=x;rw [qM ho];rw [ho] at T;clear ho;go_enter func128,C;go_wp2_with fail;refine T.o.mono ?_;rintro e w1 ⟨j,rfl⟩;have V:=Za j;clear j;go_wp2_with fail;exact⟨rfl,V.o,rfl⟩
 | inl x =>
  obtain⟨D0,a1⟩:=x;have HM:=Za (qR (ts:=ts) (sep:=sep) (f:=f) ho);have HU:=Za (HG.o.up _ _ _ ho);rw [ho] at T;clear ho;obtain⟨R,hR⟩:=xE (Z9 ts one sep (f+1) a);rw [<- hR] at HM ⊢;clear hR;obtain⟨i0,hi,Xr,Xg,Xw⟩:=info_parts Iy;go_enter func128,C;go_wp2_with fail;refine T.o.mono ?_;rintro e w1 ⟨j,O,v,rfl,hv⟩;obtain⟨Z,z,M,N,J,I,A,F,rfl⟩:=hv.cells
  have Yl:=Za (zT (B:=w.heap.size) (et:=94) (k:=4) (rep:=Kf) (c:=[iP Z,.string z,.slice M N J,.slice I A F]) hv (xR) j.size rfl);have V:=Za (j.alloc H.o.ltp (.cells #[iP Z,.string z,.slice M N J,.slice I A F] 94));have HP:=Za (O.alloc (.cells #[iP Z,.string z,.slice M N J,.slice I A F] 94));clear j O hv
  have Ku:xQ (ts.length<=a1+(f+1)):=by have:=HF.o; have:=HU.o; show _<=_; omega
  go_wp2_with fail
  go_loopg [7] (ts.length - a1) (fun gk s wr=>∃ (b m:Nat) (cs:List (List Value)) (acc:List Ty),xQ (Yq Kf w.heap.size 94 4 none wr s cs acc)/\xQ (Zl pb w wr)/\xQ (Ps wr pb tb cap ts b d)/\xQ (F8 ts one sep R acc m b)/\xQ (ts.length<=b+(m+1))/\xQ (acc.length<=b+1)/\ts.length - b<=gk)
  case atStart=>exact⟨a1,f,_,_,Yl,V,HP,HM,Ku,(show 1<=a1+1 by omega),xR⟩
  case round =>
   clear Yl V HP HM Ku HU T;obtain⟨b,m,cs,acc,Hn,Xc,Qt,Gu,Qs,Nw,Pw⟩:=hrel;have HT:=Za (Ta pb tb cap b d ts sep wr Qt.o OK.o)
   cases hs:Zg ts b sep with
   | false =>
    have HE:=Za (qN Gu.o hs);rw [hs,if_neg (by simp)] at HT;clear hs;go_wp2_with fail;refine HT.o.mono ?_;rintro e w2 ⟨rfl,j,O⟩;have V:=Za (Xc.o.trans j);have Nb:=Za O;have V7:=Za (Hn.o.stay j H.o.ltp);clear j O;go_wp2_with fail;go_ret;rw [HE.o];exact⟨V.o,Nb.o,_,rfl,_,V7.o⟩
   | true =>
    have Yo:b+1<ts.length:=Xx OK.o.ends Qt.o.lt hs
    obtain⟨m,rfl⟩:∃ q,m=q+1:=⟨m - 1,by have:=Qs.o; omega⟩
    have Uk:=Za hs;rw [hs,if_pos rfl] at HT;clear hs;go_wp2_with fail;refine HT.o.mono ?_;rintro e w2 ⟨rfl,j,O⟩;have V:=Za (Xc.o.trans j);have Nb:=Za O;have V7:=Za (Hn.o.stay j H.o.ltp);clear j O;have T:=Za (HG.o.calls (b+1) w2 Nb.o)
    cases ho:one (b+1)with
    | inr x =>
     obtain⟨er,li,co⟩:=x;have HE:=Za (qO Gu.o Uk.o ho);rw [ho] at T;clear ho;go_wp2_with fail;refine T.o.mono ?_;rintro e w3 ⟨j,rfl⟩;have Tb:=Za (V.o.trans j);clear j;go_wp2_with fail;rw [HE.o];exact⟨rfl,Tb.o,rfl⟩
    | inl x =>
     obtain⟨D1,b1⟩:=x;have HM2:=Za (qQ Gu.o Uk.o ho);have Y:=Za (HG.o.up _ _ _ ho);rw [ho] at T;clear ho;obtain⟨av,cv,rfl⟩:=Yt V7.o.ow;go_wp2_with fail;refine T.o.mono ?_;rintro e w3 ⟨j,O,v,rfl,hv⟩;obtain⟨Z,z,M,N,J,I,A,F,rfl⟩:=hv.cells;have Tb:=Za (V.o.trans j);have F2:=Za O;have HS23:=Za j;have HV:=Za hv;have Gx:=Za (V7.o.stay j H.o.ltp)
     clear j O hv
     have Lw:acc.length<=8193:=by have:=Nw.o; have:=OK.o.len; omega
     go_wp2_with(at_builtin; refine wpList_append_own_at _ rfl (.tmp 17) (.tmp 21) 61 rfl w.heap.size 94 i0 _ 4 72 underlying61 hi Xr Xg Xw rfl (by decide) _ _ _ rfl (Gx.o.ow.alloc _) (aP _ 0) 1 1 [iP Z,.string z,.slice M N J,.slice I A F] rfl rfl (V2 _ _ _) (by simp [Value.oneCell']) (by unfold maxLen; omega) (by omega) (by have:=Tb.o.size; simp; omega) ?_)
     intro v' w4 Zr Zo _ Z4
     have Xn:xQ (Yq Kf w.heap.size 94 4 none w4 v' (cs ++ [[iP Z,.string z,.slice M N J,.slice I A F]]) (acc ++ [D1])) :=
      Gx.o.put Zr Zo (Z4.imp_right fun e=>⟨_,e,by simp⟩) ((Zl.refl pb w3).alloc F2.o.ltp _) H.o.ltp rfl ((Xt.new (rep:=Kf) HV.o V.o.size fun q hq=>V7.o.all q hq).stay ((Zl.refl pb w3).alloc F2.o.ltp _) H.o.ltp)
     have P8:xQ (Zl pb w w4):=(Tb.o.alloc H.o.ltp _).grown Zo H.o.ltp fun q hq=>(Gx.o.own q hq).1
     have Sd:xQ (Ps w4 pb tb cap ts b1 d):=(F2.o.alloc _).grown Zo fun q hq=>xT H.o.ltp (Gx.o.own q hq).1
     clear Zr Zo Z4;go_wp2_with fail
     go_roundg (ts.length - b1)
     case measure=>have:=Y.o; have:=Sd.o.lt; omega
     case rel=>exact⟨b1,m,_,_,Xn,P8,Sd,HM2,(by have:=Qs.o; have:=Y.o; show _<=_; omega),(by have:=Nw.o; have:=Y.o; show(acc ++ [D1]).length<=_; simp; omega),xR⟩
def B7 {α:Type} (ts:List Tok) (K:Nat->Pr α) (f a:Nat):Pr (List (bS×α)) :=
 if Zg ts a [125] then .inl ([],a+1)else(Z9 ts (Qy ts K) [44] f a).go fun l b=>(Ze ts b [125]).go fun _ b => .inl (l,b)
def Kr {α:Type} (ts:List Tok) (K:Nat->Pr α) (R:Pr (List (bS×α))) (acc:List (bS×α)) (f a:Nat):Prop :=
 R=(Z9 ts (Qy ts K) [44] f a).go fun l b=>(Ze ts b [125]).go fun _ b => .inl (acc ++ l,b)
section
variable {α : Type} {ts : List Tok} {K : Nat -> Pr α} {R : Pr (List (bS × α))} {acc : List (bS × α)} {f a b c e' : Nat} {s : bS} {x : α} {e : Int × Nat × Nat} {u : Unit}
theorem jJ (h:Zg ts a [125]=false):Kr ts K (B7 ts K f a) [] f a:=by
 unfold Kr B7
 rw [if_neg (by simp [h])]
 rfl
theorem mV (h:Zg ts a [125]=true):B7 ts K f a = .inl ([],a+1):=by
 unfold B7
 rw [if_pos h]
theorem jI (h:Kr ts K R acc (f+1) a) (j:Zu ts a = .inr e):R = .inr e:=by
 unfold Kr at h
 rw [h,Z9,Qy,j]
 rfl
theorem jG (h:Kr ts K R acc (f+1) a) (j:Zu ts a = .inl (s,b)) (z:Ze ts b [58] = .inr e):R = .inr e:=by
 unfold Kr at h
 rw [h,Z9,Qy,j]
 show Pr.go (Pr.go (Pr.go (Ze ts b [58]) _) _) _=_
 rw [z]
 rfl
theorem jK (h:Kr ts K R acc (f+1) a) (j:Zu ts a = .inl (s,b)) (z:Ze ts b [58] = .inl (u,c)) (hv:K c = .inr e):R = .inr e:=by
 unfold Kr at h
 rw [h,Z9,Qy,j]
 show Pr.go (Pr.go (Pr.go (Ze ts b [58]) _) _) _=_
 rw [z]
 show Pr.go (Pr.go (Pr.go (K c) _) _) _=_
 rw [hv]
 rfl
theorem mW (h:Kr ts K R acc (f+1) a) (z:Zu ts a = .inl (s,b)) (A:Ze ts b [58] = .inl (u,c)) (hv:K c = .inl (x,e')) :
  R=if Zg ts e' [44] then(Z9 ts (Qy ts K) [44] f (e'+1)).go fun l b=>(Ze ts b [125]).go fun _ b => .inl (acc ++ (s,x) :: l,b)else(Ze ts e' [125]).go fun _ b => .inl (acc ++ [(s,x)],b):=by
 unfold Kr at h
 rw [h,Z9,Qy,z]
 show Pr.go (Pr.go (Pr.go (Ze ts b [58]) _) _) _=_
 rw [A]
 show Pr.go (Pr.go (Pr.go (K c) _) _) _=_
 rw [hv]
 show Pr.go (if Zg ts e' [44] then _ else _) _=_
 by_cases j:Zg ts e' [44]=true
 ·rw [if_pos j,if_pos j]
  cases Z9 ts (Qy ts K) [44] f (e'+1)with
  | inl p=>rfl
  | inr p=>rfl
 ·rw [if_neg j,if_neg j]
  rfl
theorem qD (h:Kr ts K R acc (f+1) a) (C:Zu ts a = .inl (s,b)) (F:Ze ts b [58] = .inl (u,c)) (hv:K c = .inl (x,e')) {y:Nat} (j:Rr ts e' [44] [125] = .inl (true,y)):Kr ts K R (acc ++ [(s,x)]) f y/\y=e'+1:=by
 have z:=mW h C F hv
 unfold Rr at j
 by_cases A:Zg ts e' [44]=true
 ·rw [if_pos A] at j z
  injection j with j;injection j with _ j;subst j;refine⟨?_,rfl⟩;unfold Kr;rw [z];simp
 ·rw [if_neg A] at j
  cases hw:Ze ts e' [125] with
  | inl p=>rw [hw] at j; injection j with j; injection j with j; cases j
  | inr p=>rw [hw] at j; cases j
theorem qC (h:Kr ts K R acc (f+1) a) (F:Zu ts a = .inl (s,b)) (H:Ze ts b [58] = .inl (u,c)) (hv:K c = .inl (x,e')) {y:Nat} (j:Rr ts e' [44] [125] = .inl (false,y)):R = .inl (acc ++ [(s,x)],y)/\e'<=y:=by
 have A:=mW h F H hv
 unfold Rr at j
 by_cases C:Zg ts e' [44]=true
 ·rw [if_pos C] at j
  injection j with j;injection j with j;cases j
 ·rw [if_neg C] at j A
  rw [A];unfold Ze at j ⊢;by_cases z:Zg ts e' [125]=true
  ·rw [if_pos z] at j ⊢
   injection j with j;injection j with _ j;subst j;exact⟨rfl,by omega⟩
  ·rw [if_neg z] at j
   cases j
theorem jH (h:Kr ts K R acc (f+1) a) (C:Zu ts a = .inl (s,b)) (F:Ze ts b [58] = .inl (u,c)) (hv:K c = .inl (x,e')) (j:Rr ts e' [44] [125] = .inr e):R = .inr e:=by
 have z:=mW h C F hv
 unfold Rr at j
 by_cases A:Zg ts e' [44]=true
 ·rw [if_pos A] at j
  cases j
 ·rw [if_neg A] at j z
  rw [z]
  cases hw:Ze ts e' [125] with
  | inl p=>rw [hw] at j; cases j
  | inr p =>
   rw [hw] at j;injection j with j;rw [j];rfl
end
theorem Eb {ts:List Tok} {a b:Nat} {s:bS} (h:Zu ts a = .inl (s,b)):b=a+1:=by
 unfold Zu at h
 split at h
 ·injection h with h; injection h with _ h; exact h.symm
 ·cases h
theorem tF {ts:List Tok} {a b:Nat} {s:bS} {u:Unit} (h:Ze ts a s = .inl (u,b)):b=a+1:=by
 unfold Ze at h
 split at h
 ·injection h with h; injection h with _ h; exact h.symm
 ·cases h
theorem uJ {z:Func} {t u:Tmp} (h:z.results=#[.tmp t,.tmp u]) (j:Array Value) (P:Program) (w:World):(results z j).run P w = .ok (.tuple #[j.getD t undef,j.getD u undef]) w:=by
 simp [results,h]
def Mb (_:Nat) (_:World) (c:List Value) (s:bS):Prop:=c=[uP s]
theorem strC_k:B5 Mb where
 keep:=fun h _ _=>h
 lower:=fun h _=>h
def lI (lo:Nat) (w:World) (v:Value) (l:List (bS×Ty)):Prop:=∃ vn vv cn cv,v = .tuple #[vn,vv]/\Yq Mb lo 9 1 vv.ownBlock w vn cn (l.map (·.1))/\Yq Kf lo 94 4 vn.ownBlock w vv cv (l.map (·.2))
theorem jF (pb tb cap d:Nat) (ts:List Tok) (g:Nat) (K:Nat->Pr Ty) (M:Xs pb tb cap d ts Yk g K)
  (f a:Nat) (hf:ts.length<=a+(f+1)) (w:World) (h:Ps w pb tb cap ts a d) (ok:Ym ts) :
  Calls prog 135 #[qP pb,.func (.func g) #[] #[]] w (Ya pb tb cap ts d w lI (B7 ts K (f+1) a)):=by
 have H:=Za h
 have OK:=Za ok
 have HG:=Za M
 have U4:=M.enters
 clear h ok M
 have HT:=Za (Ta pb tb cap a d ts [125] w H.o OK.o)
 have HF:=Za hf
 clear hf
 obtain⟨R,hR⟩:=xE (B7 ts K (f+1) a)
 rw [<- hR]
 obtain⟨sb,Wx⟩:=xE (Zg ts a [125])
 rw [<- Wx] at HT
 have HR:=Za hR
 have C:=Za Wx
 clear hR Wx
 have hnot:∀ (x:Bool) (w:World),(Op.unary .not (.bool x)).run prog w = .ok (.bool (!x)) w:=fun _ _=>rfl
 obtain⟨i0,hi,Xr,Xg,Xw⟩:=info_parts Iy
 obtain⟨s0,si,sz0,sz1,sz2⟩:=info_parts Ix
 go_enter func135,ntmps135
 go_wp2_with fail
 refine HT.o.mono ?_
 rintro e w1 ⟨rfl,j,z⟩
 have J:=Za j
 have HP:=Za z
 clear j z
 go_wp2_with fail
 go_loopg [6,7,8] (ts.length+2) (fun gk vn vv mo wr=>∃ (b m:Nat) (cn cv:List (List Value)) (acc:List (bS×Ty)) (ns:List (bS)) (ks:List Ty) (mb:Bool),mo = .bool mb/\xQ (ns=acc.map (·.1)/\ks=acc.map (·.2))/\xQ (Yq Mb w.heap.size 9 1 vv.ownBlock wr vn cn ns)/\xQ (Yq Kf w.heap.size 94 4 vn.ownBlock wr vv cv ks)/\xQ (Zl pb w wr)/\xQ (Ps wr pb tb cap ts b d)/\xQ (acc.length<=b)/\xQ (ts.length<=b+(m+1))/\xQ (mb=true->Kr ts K R acc (m+1) b/\ts.length - b+1<=gk)/\xQ (mb=false->R = .inl (acc,b)))
 case atStart =>
  refine⟨_,f,[],[],[],[],[],_,rfl,⟨rfl,rfl⟩,Ha _ _ _ _ _,Ha _ _ _ _ _,J,HP,xZ _,?_,fun h=>?_,fun h=>?_⟩
  ·have:=HF.o
   show _<=_
   split <;> omega
  ·have hs:sb=false:=by simpa using h
   rw [hs] at C ⊢;exact⟨by rw [HR.o]; exact jJ C.o.symm,by have:=HF.o; simp; omega⟩
  ·have hs:sb=true:=by simpa using h
   rw [hs] at C ⊢;rw [HR.o];exact mV C.o.symm
 case round =>
  clear J HP HT HR C;obtain⟨b,m,cn,cv,acc,ns,ks,mb,rfl,Po,HN,HV,Xc,Qt,Nw,Qs,N,Z⟩:=hrel
  cases mb with
  | false =>
   have O:=Za (Z.o rfl);clear Z N;go_wp2_with fail;refine bodyPost_ret (uJ rfl _ _ _) rfl ?_;rw [O.o];exact⟨Xc.o,Qt.o,_,rfl,_,_,cn,cv,rfl,Po.o.1 ▸ HN.o,Po.o.2 ▸ HV.o⟩
  | true =>
   have V:=Za (N.o rfl).1;have Pw:=(N.o rfl).2;clear Z N;obtain⟨av,lv,rfl⟩:=Yt HN.o.ow;obtain⟨av2,lv2,rfl⟩:=Yt HV.o.ow;have HO:=Za (Dx pb tb cap b d ts wr Qt.o OK.o)
   cases hn:Zu ts b with
   | inr x =>
    obtain⟨er,li,co⟩:=x;have O:=Za (jI V.o hn);rw [hn] at HO;clear hn;go_wp2_with fail;refine HO.o.mono ?_;rintro e w2 ⟨j,rfl⟩;have J:=Za (Xc.o.trans j);clear j;go_wp2_with fail;rw [O.o];exact⟨rfl,J.o,rfl⟩
   | inl x =>
    obtain⟨s,b1⟩:=x;have Y:=Za hn;have Zs:=Eb hn;rw [hn] at HO;clear hn
    have Lw:acc.length<=8193:=by have:=Nw.o; have:=OK.o.len; have:=Qt.o.lt; omega
    have yR:ns.length<=8193:=by rw [Po.o.1]; simpa using Lw
    have hac2:ks.length<=8193:=by rw [Po.o.2]; simpa using Lw
    go_wp2_with fail;refine HO.o.mono ?_;rintro e w2 ⟨j,z,v,rfl,rfl⟩;have J:=Za (Xc.o.trans j);have Nb:=Za z;have Vr:=Za (HN.o.stay j H.o.ltp);have Lo:=Za (HV.o.stay j H.o.ltp);clear j z
    go_wp2_with(at_builtin; refine wpList_append_own_at _ rfl (.tmp 19) (.tmp 24) 25 rfl w.heap.size 9 s0 _ 1 16 underlying25 si sz0 sz1 sz2 rfl (by decide) _ _ _ rfl (Vr.o.ow.alloc _) (aP _ 0) 1 1 [uP s] rfl rfl (V2 _ _ _) (by simp [Value.oneCell']) (by unfold maxLen; omega) (by omega) (by have:=J.o.size; simp; omega) ?_)
    intro vn' w4 Zr Zo _ Z4;have HN4:=Za (Vr.o.put (x:=s) (rep:=Mb) Zr Zo (Z4.imp_right fun e=>⟨_,e,by simp⟩) ((Zl.refl pb w2).alloc Nb.o.ltp _) H.o.ltp rfl ((Xt.new (rep:=Mb) (lo:=w2.heap.size) rfl J.o.size fun q I=>Vr.o.all q I).stay ((Zl.refl pb w2).alloc Nb.o.ltp _) H.o.ltp));have Kw:=Za ((Lo.o.stay ((Zl.refl pb w2).alloc Nb.o.ltp _) H.o.ltp).beside (o':=vn'.ownBlock) Zo (Z4.imp_right fun e=>⟨_,e,by simp,(Zr.lt _ e).2⟩) (by have:=J.o.size; simp; omega))
    have P8:xQ (Zl pb w w4):=(J.o.alloc H.o.ltp _).grown Zo H.o.ltp fun q I=>(Vr.o.own q I).1
    have Sd:xQ (Ps w4 pb tb cap ts b1 d):=(Nb.o.alloc _).grown Zo fun q I=>xT H.o.ltp (Vr.o.own q I).1
    obtain⟨av3,lv3,rfl⟩:=Yt Zr;clear Zr Zo Z4 Vr Lo J Nb;have HM:=Za (Uy pb tb cap b1 d ts [58] w4 Sd.o OK.o)
    cases hm:Ze ts b1 [58] with
    | inr x =>
     obtain⟨er,li,co⟩:=x;have O:=Za (jG V.o Y.o hm);rw [hm] at HM;clear hm;go_wp2_with fail;refine HM.o.mono ?_;rintro e w5 ⟨j,rfl⟩;have Hp:=Za (P8.o.trans j);clear j;go_wp2_with fail;rw [O.o];exact⟨rfl,Hp.o,rfl⟩
    | inl x =>
     obtain⟨u,b2⟩:=x;have Kx:=Za hm;have Z5:=tF hm;rw [hm] at HM;clear hm;go_wp2_with fail;refine HM.o.mono ?_;rintro e w5 ⟨j,z,v,rfl,_⟩;have Hp:=Za (P8.o.trans j);have HPS5:=Za z;have Hk:=Za (HN4.o.stay j H.o.ltp);have Lp:=Za (Kw.o.stay j H.o.ltp);clear j z HM;have F1:=Za (HG.o.calls b2 w5 HPS5.o)
     cases ho:K b2 with
     | inr x =>
      obtain⟨er,li,co⟩:=x;have O:=Za (jK V.o Y.o Kx.o ho);rw [ho] at F1;clear ho;go_wp2_with fail;refine F1.o.mono ?_;rintro e w6 ⟨j,rfl⟩;have At:=Za (Hp.o.trans j);clear j;go_wp2_with fail;rw [O.o];exact⟨rfl,At.o,rfl⟩
     | inl x =>
      obtain⟨D1,b3⟩:=x;have F:=Za ho;have Ts:=HG.o.up _ _ _ ho;rw [ho] at F1;clear ho;go_wp2_with fail;refine F1.o.mono ?_;rintro e w6 ⟨j,z,v,rfl,hv⟩;obtain⟨k1,nm1,na1,nl1,nc1,ka1,kl1,kc1,rfl⟩:=hv.cells;have At:=Za (Hp.o.trans j);have Ey:=Za z;have Hl:=Za (Hk.o.stay j H.o.ltp);have Hr:=Za (Lp.o.stay j H.o.ltp);have Au:=Za hv;clear j z hv
      go_wp2_with(at_builtin; refine wpList_append_own_at _ rfl (.tmp 30) (.tmp 34) 61 rfl w.heap.size 94 i0 _ 4 72 underlying61 hi Xr Xg Xw rfl (by decide) _ _ _ rfl (Hr.o.ow.alloc _) (aP _ 0) 1 1 [iP k1,.string nm1,.slice na1 nl1 nc1,.slice ka1 kl1 kc1] rfl rfl (V2 _ _ _) (by simp [Value.oneCell']) (by unfold maxLen; omega) (by omega) (by have:=At.o.size; simp; omega) ?_)
      intro vv' w7 Zr Zo _ Z4;have Sh:=Za (Hr.o.put (x:=D1) (rep:=Kf) Zr Zo (Z4.imp_right fun e=>⟨_,e,by simp⟩) ((Zl.refl pb w6).alloc Ey.o.ltp _) H.o.ltp rfl ((Xt.new (rep:=Kf) Au.o Hp.o.size fun q I=>Lp.o.all q I).stay ((Zl.refl pb w6).alloc Ey.o.ltp _) H.o.ltp));have Fy:=Za ((Hl.o.stay ((Zl.refl pb w6).alloc Ey.o.ltp _) H.o.ltp).beside (o':=vv'.ownBlock) Zo (Z4.imp_right fun e=>⟨_,e,by simp,(Zr.lt _ e).2⟩) (by have:=At.o.size; simp; omega))
      have T:xQ (Zl pb w w7):=(At.o.alloc H.o.ltp _).grown Zo H.o.ltp fun q I=>(Hr.o.own q I).1
      have HPS7:xQ (Ps w7 pb tb cap ts b3 d):=(Ey.o.alloc _).grown Zo fun q I=>xT H.o.ltp (Hr.o.own q I).1
      clear Zr Zo Z4 F1;have A:=Za (hH pb tb cap b3 d ts [44] [125] w7 HPS7.o OK.o)
      cases M:Rr ts b3 [44] [125] with
      | inr x =>
       obtain⟨er,li,co⟩:=x;have O:=Za (jH V.o Y.o Kx.o F.o M);rw [M] at A;clear M;go_wp2_with fail;refine A.o.mono ?_;rintro e w8 ⟨j,rfl⟩;have Ou:=Za (T.o.trans j);clear j;go_wp2_with fail;rw [O.o];exact⟨rfl,Ou.o,rfl⟩
      | inl x =>
       obtain⟨gb,b4⟩:=x;have Ew:=Za M;rw [M] at A;clear M;go_wp2_with fail;refine A.o.mono ?_;rintro e w8 ⟨j,z,v,rfl,rfl⟩;have Ou:=Za (T.o.trans j);have Oq:=Za z;have Fz:=Za (Fy.o.stay j H.o.ltp);have Hs:=Za (Sh.o.stay j H.o.ltp);clear j z A;go_wp2_with fail
       have Fa:b3<=b4:=by
        cases gb with
        | true=>have:=(qD V.o Y.o Kx.o F.o Ew.o).2; omega
        | false=>exact(qC V.o Y.o Kx.o F.o Ew.o).2
       go_roundg (ts.length - b4+1)
       case measure=>have:=Oq.o.lt; omega
       case rel =>
        refine⟨b4,m - 1,_,_,acc ++ [(s,D1)],_,_,gb,rfl,⟨?_,?_⟩,Fz,Hs,Ou,Oq,?_,?_,fun h=>?_,fun h=>?_⟩
        ·rw [Po.o.1]; simp
        ·rw [Po.o.2]; simp
        ·have:=Nw.o
         show(acc ++ [(s,D1)]).length<=b4;simp;omega
        ·have:=Qs.o
         show _<=_;omega
        ·subst h
         have h1:=(qD V.o Y.o Kx.o F.o Ew.o)
         have:=Oq.o.lt;have:=Qs.o
         obtain⟨q,rfl⟩:∃ q,m=q+1:=⟨m - 1,by omega⟩
         exact⟨h1.1,xR⟩
        ·subst h
         exact(qC V.o Y.o Kx.o F.o Ew.o).1
theorem K8 {g : Nat} {fn : Func} (hf : prog.funcs[g]? = some fn) (hn : (fn.name == "runtime.NumGoroutine") = false) (hb : fn.body.isNone = false) (args : Array Value) (w : World) : (callFunc g args).run prog w = .ok (.enter g args) w := by
 have h1 : fn.name ≠ "runtime.NumGoroutine" := by simpa using hn
 have h2:fn.body≠none:=fun e=>by rw [e] at hb; cases hb
 simp [callFunc,go_sem,hf,h1,h2]
theorem fC (pb:Nat):Lh 106 pb:=fun w=>K8 func106 (by kernel_rfl) (by kernel_rfl) _ w
theorem zfr (pb:Nat):Lh 129 pb:=fun w=>K8 func129 (by kernel_rfl) (by kernel_rfl) _ w
section
variable {lo lo' pb b m f a : Nat} {w w' : World} {v : Value} {D : Ty} {ts : List Tok} {α : Type}
theorem Yk.keep (h:Yk lo w v D) (z:w.heap.size<=w'.heap.size) (j:∀ b,lo<=b->b<w.heap.size->w'.heap[b]?=w.heap[b]?):Yk lo w' v D:=by
 obtain⟨m,h⟩:=h
 exact⟨m,pZ h z j⟩
theorem Yk.lower (h:Yk lo w v D) (j:lo'<=lo):Yk lo' w v D:=by
 obtain⟨m,h⟩:=h
 exact⟨m,bY h j⟩
theorem Yk.stay (h:Yk lo w v D) (j:Zl pb w w') (hp:pb<lo):Yk lo w' v D:=h.keep j.size fun b hb z=>j.keep b (by omega) z
theorem Yk.set4 (h:Yk lo w v D) (hb:b<lo) (j A C z:Value):Yk lo ((((w.setCell (aP b 0) j).setCell (aP b 1) A).setCell (aP b 2) C).setCell (aP b 3) z) v D :=
 h.keep (by rw [Ak]; exact xR) fun i hi _=>Q1 (by omega) _ _ _ _
theorem Yk.set1 (h:Yk lo w v D) (hb:b<lo) (o:Nat) (x:Value):Yk lo (w.setCell (aP b o) x) v D :=
 h.keep (by rw [Yg]; exact xR) fun i hi _=>xH (by show i≠b; omega)
theorem Yk.alloc (h:Yk lo w v D) (o:Obj):Yk lo (w.alloc o) v D:=h.keep (by simp) fun i _ j=>xA j
theorem zX (lo:Nat) (w:World) (k:Int) (nm:bA) (z:(Lit.int .i64 k).wf=true) (j:nm.size<=reachBytes):Yk lo w (.agg #[iP k,.string nm,nP,nP]) (Y7 k nm.data.toList [] []) :=
 ⟨1,k,nm,none,0,none,0,[],[],rfl,rfl,z,j,(fun _ h=>nomatch h),⟨xR,xZ _⟩,⟨xR,xZ _⟩,.inl rfl,.inl rfl⟩
theorem Cm {one:Nat->Pr α} {sep:bS}:∀ (f:Nat) {a b:Nat} {l:List α},Z9 ts one sep f a = .inl (l,b)->l.length<=f
 | 0,_,_,_,h=>by cases h
 | f+1,a,b,l,h=>by
  rw [Z9] at h
  cases ho:one a with
  | inr e=>rw [ho] at h; cases h
  | inl p =>
   obtain⟨x,c⟩:=p;rw [ho] at h;replace h:(if Zg ts c sep then(Z9 ts one sep f (c+1)).go fun l a => .inl (x :: l,a)else .inl ([x],c)) = .inl (l,b):=h;by_cases j:Zg ts c sep=true
   ·rw [if_pos j] at h
    cases hm:Z9 ts one sep f (c+1)with
    | inr e=>rw [hm] at h; cases h
    | inl p =>
     obtain⟨l',d⟩:=p;rw [hm] at h;injection h with h;injection h with h;rw [<- h];have:=Cm f hm;simp;omega
   ·rw [if_neg j] at h
    injection h with h;injection h with h;rw [<- h];simp
theorem nJ {one:Nat->Pr α} {sep:bS} {Q:α->Prop} (z:∀ a x b,one a = .inl (x,b)->Q x):∀ (f:Nat) {a b:Nat} {l:List α},Z9 ts one sep f a = .inl (l,b)->∀ x ∈ l,Q x
 | 0,_,_,_,h=>by cases h
 | f+1,a,b,l,h=>by
  rw [Z9] at h
  cases ho:one a with
  | inr e=>rw [ho] at h; cases h
  | inl p =>
   obtain⟨x,c⟩:=p;rw [ho] at h;replace h:(if Zg ts c sep then(Z9 ts one sep f (c+1)).go fun l a => .inl (x :: l,a)else .inl ([x],c)) = .inl (l,b):=h;by_cases A:Zg ts c sep=true
   ·rw [if_pos A] at h
    cases hm:Z9 ts one sep f (c+1)with
    | inr e=>rw [hm] at h; cases h
    | inl p =>
     obtain⟨l',d⟩:=p;rw [hm] at h;injection h with h;injection h with h;rw [<- h];intro y j;rcases List.mem_cons.1 j with rfl | j
     ·exact z a _ c ho
     ·exact nJ z f hm y j
   ·rw [if_neg A] at h
    injection h with h;injection h with h;rw [<- h];intro y j;rw [List.mem_singleton.1 j];exact z a _ c ho
theorem dF {s:bS} {b:Nat} (h:Zu ts a = .inl (s,b)):s=(Zk ts a).text:=by
 unfold Zu at h
 split at h
 ·injection h with h; injection h with h; exact h.symm
 ·cases h
theorem zar (j:Ym ts) {K:Nat->Pr α} {x:bS×α} {b:Nat} (h:Qy ts K a = .inl (x,b)):x.1.length<=70000:=by
 unfold Qy at h
 cases hn:Zu ts a with
 | inr e=>rw [hn] at h; cases h
 | inl p =>
  obtain⟨s,c⟩:=p;rw [hn] at h;replace h:(Ze ts c [58]).go (fun _ a=>(K a).go fun t a => .inl ((s,t),a)) = .inl (x,b):=h
  cases hw:Ze ts c [58] with
  | inr e=>rw [hw] at h; cases h
  | inl p =>
   obtain⟨u,c2⟩:=p;rw [hw] at h;replace h:(K c2).go (fun t a => .inl ((s,t),a)) = .inl (x,b):=h
   cases hk:K c2 with
   | inr e=>rw [hk] at h; cases h
   | inl p =>
    rw [hk] at h;injection h with h;injection h with h;rw [<- h];show s.length<=_;rw [dF hn];exact j.txt a
theorem mU (j:Ym ts) {K:Nat->Pr α} {l:List (bS×α)} (h:B7 ts K f a = .inl (l,b)):l.length<=f/\∀ p ∈ l,p.1.length<=70000:=by
 unfold B7 at h
 split at h
 ·injection h with h
  injection h with h;rw [<- h];exact⟨xZ _,fun _ h=>nomatch h⟩
 ·cases hm:Z9 ts (Qy ts K) [44] f a with
  | inr e=>rw [hm] at h; cases h
  | inl p =>
   obtain⟨l',c⟩:=p;rw [hm] at h;replace h:(Ze ts c [125]).go (fun _ b => .inl (l',b)) = .inl (l,b):=h
   cases hw:Ze ts c [125] with
   | inr e=>rw [hw] at h; cases h
   | inl p =>
    rw [hw] at h;injection h with h;injection h with h;rw [<- h];exact⟨Cm f hm,nJ (Q:=fun p=>p.1.length<=70000) (fun a x b h=>zar j h) f hm⟩
theorem wJ {B:Nat} {o:Option Nat} {wx:World} {v:Value} {cs:List (List Value)} {xs:List (bS)} (h:Yq Mb B 9 1 o wx v cs xs):∃ (a:oA) (cap:Nat),v = .slice a xs.length cap/\xs.length<=cap/\Bb wx B a xs:=by
 obtain⟨a,cap,e,C,j⟩:=h.form strC_k
 refine⟨a,cap,e,C,?_⟩
 rcases j with j | ⟨g,rfl,I,J,F⟩
 ·exact .inl j
 ·refine .inr ⟨g,0,rfl,I,Lq J,fun i H=>?_⟩
  obtain⟨c,_,A,z⟩:=F i H;have:=A 0 (by omega);rw [z] at this
  simpa using this
theorem eF {l:List (bS×Ty)} {j:Value} (h:lI lo w j l) (hl:l.length<=8193) (z:∀ p ∈ l,p.1.length<=70000):∃ a c a' c',j = .tuple #[.slice a l.length c,.slice a' l.length c']/\Yk lo w (.agg #[iP 5,sP,.slice a l.length c,.slice a' l.length c']) (Y7 5 [] (l.map (·.1)) (l.map (·.2))):=by
 obtain⟨vn,vv,cn,cv,rfl,F,C⟩:=h
 obtain⟨a,c,rfl,H,I⟩:=wJ F
 obtain⟨a',c',m,rfl,Qc,hK⟩:=Ek C
 refine⟨a,c,a',c',by simp,m+1,5,⟨#[]⟩,a,c,a',c',_,_,by simp,rfl,by decide,by decide,?_,⟨H,?_⟩,⟨Qc,?_⟩,I,hK⟩
 ·intro s J
  obtain⟨p,A,rfl⟩:=List.mem_map.1 J;have:=z p A;unfold reachBytes;omega
 ·simp only [List.length_map]; unfold reachBytes; omega
 ·simp only [List.length_map]; unfold reachBytes; omega
end
abbrev yL:List (bS):=[[97,110,121],[110,117,108,108],[98,111,111,108],[105,110,116],[115,116,114]]
def bE (ts:List Tok) (K:Nat->Pr Ty) (f a:Nat):Pr Ty :=
 if Zg ts a [123] then(B7 ts K f (a+1)).go fun l b => .inl (Y7 5 [] (l.map (·.1)) (l.map (·.2)),b)
 else if Zg ts a [40] then(K (a+1)).go fun t a=>(Ze ts a [41]).go fun _ a => .inl (t,a)
 else(Zu ts a).go fun s a => .inl (Y7 8 s [] [],a)
theorem Fs {ts:List Tok} {a:Nat} {s j:bS} (h:Zg ts a s=true) (z:s≠j):Zg ts a j=false:=by
 unfold Zg at h ⊢
 simp only [Bool.and_eq_true,beq_iff_eq] at h
 rw [h.2]
 simp [z]
theorem zfu (ts:List Tok) (K:Nat->Pr Ty) (f a:Nat) (i:Nat) (C:Nv (Zk ts a) yL=i):Mw ts K f a = .inl (Y7 i [] [] [],a+1)/\i<=4/\∃ s,Zg ts a s=true:=by
 unfold Nv at C
 split at C
 ·rename_i N
  have J:((Zk ts a).kind == 2 || (Zk ts a).kind == 5)=true:=by rcases N with h | h <;> simp [h]
  unfold Ac at C
  split at C
  ·rename_i j M
   obtain⟨I,F,_⟩:=List.findIdx?_eq_some_iff_getElem.1 M
   have H:j=i:=by omega
   subst H;have O:(Zk ts a).text=yL[j]:=(beq_iff_eq.1 F).symm
   have A:Zg ts a yL[j]=true:=by unfold Zg; rw [J,O]; simp
   refine⟨?_,by simp at I; omega,_,A⟩;unfold Mw
   match j,I with
   | 0,_ =>
    have z:Zg ts a [97,110,121]=true:=A;rw [if_pos (show Zg ts a (Xb 0)=true from z)];rfl
   | 1,_ =>
    have z:Zg ts a [110,117,108,108]=true:=A;rw [if_neg (by rw [Fs z (show([110,117,108,108]:bS)≠Xb 0 by decide)]; simp),if_pos (show Zg ts a (Xb 1)=true from z)];rfl
   | 2,_ =>
    have z:Zg ts a [98,111,111,108]=true:=A;rw [if_neg (by rw [Fs z (show([98,111,111,108]:bS)≠Xb 0 by decide)]; simp),if_neg (by rw [Fs z (show([98,111,111,108]:bS)≠Xb 1 by decide)]; simp),if_pos (show Zg ts a (Xb 2)=true from z)];rfl
   | 3,_ =>
    have z:Zg ts a [105,110,116]=true:=A;rw [if_neg (by rw [Fs z (show([105,110,116]:bS)≠Xb 0 by decide)]; simp),if_neg (by rw [Fs z (show([105,110,116]:bS)≠Xb 1 by decide)]; simp),if_neg (by rw [Fs z (show([105,110,116]:bS)≠Xb 2 by decide)]; simp),if_pos (show Zg ts a (Xb 3)=true from z)];rfl
   | 4,_ =>
    have z:Zg ts a [115,116,114]=true:=A;rw [if_neg (by rw [Fs z (show([115,116,114]:bS)≠Xb 0 by decide)]; simp),if_neg (by rw [Fs z (show([115,116,114]:bS)≠Xb 1 by decide)]; simp),if_neg (by rw [Fs z (show([115,116,114]:bS)≠Xb 2 by decide)]; simp),if_neg (by rw [Fs z (show([115,116,114]:bS)≠Xb 3 by decide)]; simp),if_pos (show Zg ts a (Xb 4)=true from z)]
    rfl
  ·omega
 ·omega
def Qn {α:Type} (a:Nat) (r:Pr α):Prop:=∀ x b,r = .inl (x,b)->a<=b
section
variable {α β : Type} {ts : List Tok} {a : Nat}
theorem Yv {r:Pr α} {k:α->Nat->Pr β} (h:Qn a r) (z:∀ x c,a<=c->Qn a (k x c)):Qn a (r.go k):=by
 intro y b j
 match r,h with
 | .inl (x,c),h=>exact z x c (h x c rfl) y b j
 | .inr e,_=>cases j
theorem Cw (e:Int) (c:Nat):Qn a (Vj ts e c:Pr α):=fun _ _ h=>by cases h
theorem Xy {c:Nat} (h:a<=c) (x:α):Qn a (.inl (x,c):Pr α):=fun _ _ e=>by
 injection e with e
 injection e with _ e
 omega
theorem Vv {p:Prop} [Decidable p] {r s:Pr α} (h1:Qn a r) (h2:Qn a s):Qn a (if p then r else s):=by split <;> assumption
theorem Q9 {c:Nat} (h:a<=c) (s:bS):Qn a (Ze ts c s):=Vv (Xy (by omega) _) (Cw _ _)
theorem Am {c:Nat} (h:a<=c):Qn a (Zu ts c):=Vv (Xy (by omega) _) (Cw _ _)
theorem Q8 {K:Nat->Pr α} (j:∀ a x b,K a = .inl (x,b)->a<=b) {c:Nat} (h:a<=c):Qn a (K c):=fun x b e=>Nat.le_trans h (j c x b e)
theorem zY {one:Nat->Pr α} {sep:bS} (z:∀ a x b,one a = .inl (x,b)->a<=b):∀ (f:Nat) {c:Nat},a<=c->Qn a (Z9 ts one sep f c)
 | 0,c,_=>Cw _ _
 | f+1,c,h=>Yv (Q8 z h) fun x b j=>Vv (Yv (zY z f (by omega)) fun l b j=>Xy j _) (Xy j _)
theorem eO {K:Nat->Pr α} (j:∀ a x b,K a = .inl (x,b)->a<=b) {c:Nat} (h:a<=c):Qn a (Qy ts K c) :=
 Yv (Am h) fun _ _ C=>Yv (Q9 C _) fun _ _ A=>Yv (Q8 j A) fun _ _ z=>Xy z _
theorem eQ {K:Nat->Pr Ty} (A:∀ a x b,K a = .inl (x,b)->a<=b) (f:Nat) {c:Nat} (h:a<=c):Qn a (Mw ts K f c):=by
 unfold Mw
 refine Vv (Xy (by omega) _) (Vv (Xy (by omega) _) (Vv (Xy (by omega) _) (Vv (Xy (by omega) _) (Vv (Xy (by omega) _) (Vv ?_ (Vv (Vv (Xy (by omega) _) ?_) ?_))))))
 ·exact Yv (Q8 A (by omega)) fun _ _ j=>Yv (Q9 j _) fun _ _ z=>Xy z _
 ·exact Yv (zY (fun a x b e=>eO A (xR) x b e) f (by omega)) fun _ _ j=>Yv (Q9 j _) fun _ _ z=>Xy z _
 ·exact Yv (Am h) fun _ _ j=>Xy j _
theorem sH {K:Nat->Pr Ty} (j:∀ a x b,K a = .inl (x,b)->a<=b) {f:Nat} {x:Ty} {b:Nat} (h:Mw ts K f a = .inl (x,b)):a<=b:=eQ j f (xR) x b h
theorem up_alt {K:Nat->Pr Ty} (z:∀ a x b,K a = .inl (x,b)->a<=b) (f:Nat) {c:Nat} (h:a<=c):Qn a (Jv ts K f c):=by
 unfold Jv
 refine Yv (zY (fun a x b e=>eQ z f (xR) x b e) f h) fun l b j=>?_
 match l with
 | []=>exact Xy j _
 | [t]=>exact Xy j _
 | _ :: _ :: _=>exact Xy j _
theorem fE (ts:List Tok) (f:Nat):∀ (n d c:Nat) (x:Ty) (b:Nat),Wg ts f n d c = .inl (x,b)->c<=b
 | 0,_,_,_,_,h=>by cases h
 | n+1,d,c,x,b,h=>by
  rw [Wg] at h;have j:=fE ts f n (d+1);refine Vv (a:=c) (Cw (ts:=ts) _ _) (Yv (up_alt j f (xR)) fun t b z=>Vv (Yv (Q8 j (by omega)) fun _ _ A=>Xy A _) (Xy z _)) x b h
theorem zJ {f n d:Nat} {x:Ty} {b:Nat} (h:Wg ts f n d a = .inl (x,b)):a<=b:=fE ts f n d a x b h
theorem zdq {one:Nat->Pr α} {sep:bS} {f c b:Nat} {l:List α} (h:Z9 ts one sep f c = .inl (l,b)):l≠[]:=by
 intro e
 subst e
 cases f with
 | zero=>cases h
 | succ f =>
  rw [Z9] at h
  cases ho:one c with
  | inr e=>rw [ho] at h; cases h
  | inl p =>
   obtain⟨x,c2⟩:=p;rw [ho] at h;replace h:(if Zg ts c2 sep then(Z9 ts one sep f (c2+1)).go fun l a => .inl (x :: l,a)else .inl ([x],c2)) = .inl ([],b):=h
   split at h
   ·cases hm:Z9 ts one sep f (c2+1)with
    | inr e=>rw [hm] at h; cases h
    | inl p=>rw [hm] at h; injection h with h; injection h with h; cases h
   ·injection h with h; injection h with h; cases h
end
theorem tG {ts:List Tok} {a:Nat} {L:List (bS)} (h:Nv (Zk ts a) L<0) {s:bS} (z:s ∈ L):Zg ts a s=false:=by
 have j:=lE ts a L
 rw [show decide (0<=Nv (Zk ts a) L)=false by simp; omega] at j
 have:=List.any_eq_false.1 j.symm s z
 simpa using this
theorem zft (ts:List Tok) (K:Nat->Pr Ty) (f a:Nat) (h:Nv (Zk ts a) yL<0):Mw ts K f a=bE ts K f a:=by
 unfold Mw bE
 rw [if_neg (by rw [tG h (s:=Xb 0) (by decide)]; simp),if_neg (by rw [tG h (s:=Xb 1) (by decide)]; simp),if_neg (by rw [tG h (s:=Xb 2) (by decide)]; simp),if_neg (by rw [tG h (s:=Xb 3) (by decide)]; simp),if_neg (by rw [tG h (s:=Xb 4) (by decide)]; simp)]
 by_cases j:Zg ts a [123]=true
 ·rw [if_neg (by rw [Fs j (show([123]:bS)≠[40] by decide)]; simp),if_pos j,if_pos j]
  unfold B7;by_cases z:Zg ts (a+1) [125]=true
  ·rw [if_pos z,if_pos z]
   rfl
  ·rw [if_neg z,if_neg z]
   cases Z9 ts (Qy ts K) [44] f (a+1)with
   | inr e=>rfl
   | inl p =>
    obtain⟨l,b⟩:=p;show Pr.go (Ze ts b [125]) _=Pr.go (Pr.go (Ze ts b [125]) _) _
    cases Ze ts b [125] with
    | inr e=>rfl
    | inl q=>rfl
 ·rw [if_neg j,if_neg j]
end Go.Proofs.YtoppemkjhhlegaaGreatDoor
