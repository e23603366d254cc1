/- Part. -/
import Derived.DeepKeys4
import Derived.Maps.RangeWalk
import Derived.BigRegion
import Derived.Laws.BytesArg
import Derived.Shelf.Small.Strs
import Derived.Shelf.Strings.Search1
import Derived.Test.YtoppemkjhhlegaaGreatDoorPart9
set_option maxRecDepth 100000
set_option maxHeartbeats 4000000
namespace Go.Proofs.YtoppemkjhhlegaaGreatDoor
open Go.Proofs.Tryz
def TsOk:List Tok->Prop
 | []=>False
 | [t]=>t.kind=0/\t.text.length<=70000
 | t :: u :: r=>(t.kind≠0/\t.text.length<=70000/\(t.kind=2->t.text≠[58]))/\TsOk (u :: r)
theorem zgx {l t j:bS} {k:Int} (O:l.length<=65536) (h:U1 l = .tok k t j):k≠0/\t.length<=70000/\(k=2->t≠[58]):=by
 match l,h,O with
 | [],h,_=>cases h
 | b :: r,h,O =>
  have I:∀ p:UInt8->Bool,((b :: r).takeWhile p).length<=70000:=fun p=>by
   have:=(List.takeWhile_sublist p (l:=b :: r)).length_le;omega
  unfold U1 at h;by_cases J:Tw b=true
  ·simp only [J,if_true] at h
   by_cases F:32<((b :: r).takeWhile Xm).length
   ·rw [if_pos F] at h; cases h
   ·rw [if_neg F] at h
    obtain⟨rfl,rfl,_⟩:=Od h;by_cases H:P5.contains ((b :: r).takeWhile Xm)=true
    ·rw [if_pos H]
     refine⟨by decide,I _,fun _ e=>?_⟩;rw [e] at H;exact absurd H (by decide)
    ·rw [if_neg H]
     exact⟨by decide,I _,fun e=>absurd e (by decide)⟩
  ·simp only [J] at h
   by_cases F:Xh b=true
   ·simp only [F,if_true] at h
    cases hp:Ns ((b :: r).takeWhile Xh)with
    | none=>simp [hp] at h
    | some N =>
     simp only [hp] at h
     have A:Rd.tok 3 ((b :: r).takeWhile Xh) ((b :: r).dropWhile Xh)=Rd.tok k t j:=by simpa using h
     obtain⟨rfl,rfl,_⟩:=Od A;exact⟨by decide,I _,fun e=>absurd e (by decide)⟩
   ·simp only [F] at h
    by_cases M:b=34
    ·simp only [M,if_true] at h
     cases hs:Nu r [] with
     | none=>simp [hs] at h
     | some p =>
      obtain⟨z,T⟩:=p;simp only [hs] at h;by_cases C:256<z.length
      ·simp [C] at h
      ·have A:Rd.tok 4 z T=Rd.tok k t j:=by simpa [C] using h
       obtain⟨rfl,rfl,_⟩:=Od A;exact⟨by decide,by omega,fun e=>absurd e (by decide)⟩
    ·simp only [M] at h
     by_cases C:U9 (b :: r)=0
     ·simp [C] at h
     ·have A:Rd.tok 5 ((b :: r).take (U9 (b :: r))) ((b :: r).drop (U9 (b :: r)))=Rd.tok k t j:=by simpa [C] using h
      obtain⟨rfl,rfl,_⟩:=Od A;refine⟨by decide,?_,fun e=>absurd e (by decide)⟩;have:=List.length_take_le (U9 (b :: r)) (b :: r);have h5:=List.length_take_le' (U9 (b :: r)) (b :: r);omega
theorem fQ:∀ (f:Nat) (l:bS) (li co n:Nat) (ts:List Tok),l.length<=65536->n<=8192->Kn f l li co n = .inl ts->TsOk ts/\ts.length+n<=8193
 | 0,_,_,_,_,_,_,_,h=>by cases h
 | f+1,l,li,co,n,ts,hl,hn,h=>by
  obtain⟨r,li',co',hs⟩:∃ r li' co',Vf false l li co=(r,li',co'):=⟨_,_,_,rfl⟩
  have C:=uU false l li co;rw [hs] at C;have J:r.length<=65536:=Nat.le_trans C.length_le hl;by_cases z:r=[]
  ·subst z
   rw [Lx.lexGo_end hs] at h;injection h with h;rw [<- h];exact⟨⟨rfl,xZ _⟩,by simp; omega⟩
  ·cases he:U1 r with
   | inl e=>rw [Lx.lexGo_bad hs z he] at h; cases h
   | inr p =>
    obtain⟨k,t,j⟩:=p;by_cases F:n=8192
    ·subst F
     rw [Lx.lexGo_many hs z he] at h;cases h
    ·rw [Lx.lexGo_tok hs z he F] at h
     have I:j.length<=65536:=by
      obtain⟨c,H,_⟩:=pL he;have:=congrArg List.length H;rw [List.length_append] at this;omega
     cases hg:Kn f j li' (co'+(r.length - j.length)) (n+1)with
     | inr e=>rw [hg] at h; cases h
     | inl ts' =>
      obtain⟨A,h2⟩:=fQ f j li' _ (n+1) ts' I (by omega) hg;rw [hg] at h;injection h with h;rw [<- h];refine⟨?_,by simp; omega⟩
      match ts',A with
      | u :: r',A=>exact⟨zgx J he,A⟩
theorem zgu {l:bS} {e:Int} (h:U1 l = .bad e):e≠0:=by
 match l,h with
 | [],h=>injection h with h; rw [<- h]; decide
 | b :: r,h =>
  unfold U1 at h;by_cases H:Tw b=true
  ·simp only [H,if_true] at h
   by_cases C:32<((b :: r).takeWhile Xm).length
   ·rw [if_pos C] at h; injection h with h; rw [<- h]; decide
   ·rw [if_neg C] at h; cases h
  ·simp only [H] at h
   by_cases C:Xh b=true
   ·simp only [C,if_true] at h
    cases hp:Ns ((b :: r).takeWhile Xh)with
    | none =>
     have j:Rd.bad 3=Rd.bad e:=by simpa [hp] using h
     injection j with j; rw [<- j]; decide
    | some N=>simp [hp] at h
   ·simp only [C] at h
    by_cases F:b=34
    ·simp only [F,if_true] at h
     cases hs:Nu r [] with
     | none =>
      have j:Rd.bad 4=Rd.bad e:=by simpa [hs] using h
      injection j with j; rw [<- j]; decide
     | some p =>
      obtain⟨z,rs⟩:=p;simp only [hs] at h;by_cases A:256<z.length
      ·have j:Rd.bad 2=Rd.bad e:=by simpa [A] using h
       injection j with j; rw [<- j]; decide
      ·simp [A] at h
    ·simp only [F] at h
     by_cases A:U9 (b :: r)=0
     ·have j:Rd.bad 5=Rd.bad e:=by simpa [A] using h
      injection j with j; rw [<- j]; decide
     ·simp [A] at h
theorem fP:∀ (f:Nat) (l:bS) (li co n:Nat) (x:Int) (a b:Nat),l.length<f->Kn f l li co n = .inr (x,a,b)->x≠0
 | 0,_,_,_,_,_,_,_,hf,_=>absurd hf (Nat.not_lt_zero _)
 | f+1,l,li,co,n,x,a,b,hf,h=>by
  obtain⟨r,li',co',hs⟩:∃ r li' co',Vf false l li co=(r,li',co'):=⟨_,_,_,rfl⟩
  have A:=uU false l li co;rw [hs] at A;have I:=A.length_le;simp only at I;by_cases z:r=[]
  ·subst z
   rw [Lx.lexGo_end hs] at h;cases h
  ·cases he:U1 r with
   | inl e =>
    rw [Lx.lexGo_bad hs z he] at h;injection h with h;injection h with h;rw [<- h];exact zgu he
   | inr p =>
    obtain⟨k,t,j⟩:=p;by_cases C:n=8192
    ·subst C
     rw [Lx.lexGo_many hs z he] at h;injection h with h;injection h with h;rw [<- h]
     decide
    ·rw [Lx.lexGo_tok hs z he C] at h
     cases hg:Kn f j li' (co'+(r.length - j.length)) (n+1)with
     | inl ts=>rw [hg] at h; cases h
     | inr e =>
      obtain⟨x',a',b'⟩:=e;rw [hg] at h;injection h with h;injection h with h;rw [<- h]
      have Zt:j.length<r.length:=by
       obtain⟨c,F,H⟩:=pL he;have:=congrArg List.length F;rw [List.length_append] at this;have:=List.length_pos_iff.2 H;omega
      exact fP f j _ _ _ x' a' b' (by omega) hg
theorem nG {l:bS} {x:Int} {a b:Nat} (h:Pz l = .inr (x,a,b)):x≠0:=by
 unfold Pz at h
 by_cases j:65536<l.length
 ·rw [if_pos j] at h
  injection h with h;injection h with h;rw [<- h]
  decide
 ·rw [if_neg j] at h
  exact fP _ l 1 1 0 x a b (xU _) h
theorem eD:∀ {ts:List Tok},TsOk ts->∀ a (h:a<ts.length),(ts[a].kind≠0->a+1<ts.length)/\ts[a].text.length<=70000/\(ts[a].kind=2->ts[a].text≠[58])
 | [],h,_,_=>h.elim
 | [t],h,0,_=>⟨fun e=>absurd h.1 e,h.2,fun e=>by have:=h.1; have e':t.kind=2:=e; rw [e'] at this; cases this⟩
 | t :: u :: r,h,0,_=>⟨fun _=>by simp,h.1.2.1,h.1.2.2⟩
 | t :: u :: r,h,a+1,ha=>by
  have:=eD h.2 a (by simpa using ha);exact⟨fun e=>by have:=this.1 e; simpa using this,this.2⟩
theorem uE {l:bS} {ts:List Tok} (h:Pz l = .inl ts):Ym ts:=by
 unfold Pz at h
 by_cases F:65536<l.length
 ·rw [if_pos F] at h; cases h
 ·rw [if_neg F] at h
  obtain⟨C,h2⟩:=fQ _ l 1 1 0 ts (by omega) (by omega) h
  have z:=fun a ha=>eD C a ha
  have A:∀ a (ha:a<ts.length),Zk ts a=ts[a]:=fun a ha=>by
   unfold Zk;rw [List.getD_eq_getElem?_getD,List.getElem?_eq_getElem ha];rfl
  refine⟨fun a ha j=>?_,?_,by omega,fun a=>?_,fun a ha j=>?_⟩
  ·rw [A a ha] at j
   exact(z a ha).1 j
  ·cases ts with
   | nil=>exact C.elim
   | cons t r=>simp
  ·by_cases ha:a<ts.length
   ·rw [A a ha]
    exact(z a ha).2.1
   ·unfold Zk
    rw [List.getD_eq_getElem?_getD,List.getElem?_eq_none (by omega)];simp
  ·rw [A a ha] at j ⊢
   exact(z a ha).2.2 j
end Go.Proofs.YtoppemkjhhlegaaGreatDoor
namespace Go.Proofs.YtoppemkjhhlegaaGreatDoor.Lx
open Go.Proofs.Tryz
open Go.RowKit
def Wk (s:bA) (k:Nat) (p:UInt8->Bool):Nat:=k+((s.data.toList.drop k).takeWhile p).length
theorem Oh (s:bA) (k:Nat) (p:UInt8->Bool) (hk:k<=s.size):Wk s k p<=s.size:=by
 unfold Wk
 have h:((s.data.toList.drop k).takeWhile p).length<=(s.data.toList.drop k).length:=(List.takeWhile_sublist p).length_le
 rw [List.length_drop,Wz] at h
 omega
theorem zS {s:bA} {k:Nat} {p:UInt8->Bool} (j:k<s.size) (h:p s[k]=true):Wk s k p=Wk s (k+1) p:=by
 unfold Wk
 rw [Ue s k j,List.takeWhile_cons_of_pos h,List.length_cons]
 omega
theorem uQ {s:bA} {k:Nat} {p:UInt8->Bool} (j:k<s.size) (h:p s[k]=false):Wk s k p=k:=by
 unfold Wk
 rw [Ue s k j,List.takeWhile_cons_of_neg (by rw [h]; decide)]
 rfl
theorem uO {s:bA} {k:Nat} {p:UInt8->Bool} (hk:¬ k<s.size):Wk s k p=k:=by
 unfold Wk
 rw [List.drop_eq_nil_of_le (by rw [Wz]; omega)]
 rfl
theorem aC (s:bA) (hs:s.size<=140737488351232) (k:Nat) (I:k<=s.size) (w:wD) :
  Calls prog 48 #[.string s,iP k,.func (.func 49) #[] #[]] w fun e w'=>e = .returned (iP (Wk s k Xm))/\w'=w:=by
 go_enter func48,ntmps48
 go_wp2
 go_loop [7] (fun i=>∃ m:Nat,m<=s.size/\i=iP m/\Wk s k Xm=Wk s m Xm) (fun i=>s.size - (intOf i).toNat)
 case atStart=>exact⟨k,I,rfl,rfl⟩
 case round =>
  obtain⟨m,hm,rfl,H⟩:=hrel;have z:=Za H;clear H;by_cases j:m<s.size
  ·have h:=zca s[m]
   have F:=zS (p:=Xm) j;have A:=uQ (p:=Xm) j;cases hp:Xm s[m]
   ·rw [hp] at h
    have E:=Za (A hp);have C:=Za h;clear F A hp h;go_wp2_with fail;refine(C.o _).mono ?_;rintro e w' ⟨rfl,rfl⟩;go_wp2;go_ret;rw [z.o,E.o];exact⟨rfl,rfl⟩
   ·rw [hp] at h
    have E:=Za (F hp);have C:=Za h;clear F A hp h;go_wp2_with fail;refine(C.o _).mono ?_;rintro e w' ⟨rfl,rfl⟩;go_wp2
    go_round
    case rel=>exact⟨m+1,by omega,by go_num,z.o.trans E.o⟩
    case measure=>simp [intOf]; omega
  ·go_wp2
   go_ret;rw [z.o,uO j];exact⟨rfl,rfl⟩
theorem zhf (s:bA) (hs:s.size<=140737488351232) (k:Nat) (I:k<=s.size) (w:wD) :
  Calls prog 48 #[.string s,iP k,.func (.func 63) #[] #[]] w fun e w'=>e = .returned (iP (Wk s k Xh))/\w'=w:=by
 go_enter func48,ntmps48
 go_wp2
 go_loop [7] (fun i=>∃ m:Nat,m<=s.size/\i=iP m/\Wk s k Xh=Wk s m Xh) (fun i=>s.size - (intOf i).toNat)
 case atStart=>exact⟨k,I,rfl,rfl⟩
 case round =>
  obtain⟨m,hm,rfl,H⟩:=hrel;have z:=Za H;clear H;by_cases j:m<s.size
  ·have h:=uA s[m]
   have F:=zS (p:=Xh) j;have A:=uQ (p:=Xh) j;cases hp:Xh s[m]
   ·rw [hp] at h
    have E:=Za (A hp);have C:=Za h;clear F A hp h;go_wp2_with fail;refine(C.o _).mono ?_;rintro e w' ⟨rfl,rfl⟩;go_wp2;go_ret;rw [z.o,E.o];exact⟨rfl,rfl⟩
   ·rw [hp] at h
    have E:=Za (F hp);have C:=Za h;clear F A hp h;go_wp2_with fail;refine(C.o _).mono ?_;rintro e w' ⟨rfl,rfl⟩;go_wp2
    go_round
    case rel=>exact⟨m+1,by omega,by go_num,z.o.trans E.o⟩
    case measure=>simp [intOf]; omega
  ·go_wp2
   go_ret;rw [z.o,uO j];exact⟨rfl,rfl⟩
theorem zhg (s:bA) (hs:s.size<=140737488351232) (k:Nat) (I:k<=s.size) (w:wD) :
  Calls prog 48 #[.string s,iP k,.func (.func 99) #[] #[]] w fun e w'=>e = .returned (iP (Wk s k Br))/\w'=w:=by
 go_enter func48,ntmps48
 go_wp2
 go_loop [7] (fun i=>∃ m:Nat,m<=s.size/\i=iP m/\Wk s k Br=Wk s m Br) (fun i=>s.size - (intOf i).toNat)
 case atStart=>exact⟨k,I,rfl,rfl⟩
 case round =>
  obtain⟨m,hm,rfl,H⟩:=hrel;have z:=Za H;clear H;by_cases j:m<s.size
  ·have h:=zer s[m]
   have F:=zS (p:=Br) j;have A:=uQ (p:=Br) j;cases hp:Br s[m]
   ·rw [hp] at h
    have E:=Za (A hp);have C:=Za h;clear F A hp h;go_wp2_with fail;refine(C.o _).mono ?_;rintro e w' ⟨rfl,rfl⟩;go_wp2;go_ret;rw [z.o,E.o];exact⟨rfl,rfl⟩
   ·rw [hp] at h
    have E:=Za (F hp);have C:=Za h;clear F A hp h;go_wp2_with fail;refine(C.o _).mono ?_;rintro e w' ⟨rfl,rfl⟩;go_wp2
    go_round
    case rel=>exact⟨m+1,by omega,by go_num,z.o.trans E.o⟩
    case measure=>simp [intOf]; omega
  ·go_wp2
   go_ret;rw [z.o,uO j];exact⟨rfl,rfl⟩
end Go.Proofs.YtoppemkjhhlegaaGreatDoor.Lx
namespace Go.Proofs.YtoppemkjhhlegaaGreatDoor.Lx
open Go.Proofs.Tryz
open Go.RowKit Go.Maps
def Left (Q7:Nat) (todo:List Nat) (listed:Array Bool):Prop:=∀ j,listed.getD j true=false↔(j ∈ todo∨j=Q7∨j=Q7+1)
theorem zcp {Q7:Nat} {A:List Nat} {z:Array Bool} (h:Left Q7 A z) {j:Nat} (C:j ∈ A):j<z.size:=by
 have:=(h j).2 (.inl C)
 rcases Nat.lt_or_ge j z.size with h' | h'
 ·exact h'
 ·simp [h'] at this
theorem fH {h:Array Bool} {j:Nat} (z:h.getD j true=false):h.getD j false=false:=by
 rcases Nat.lt_or_ge j h.size with h' | h'
 ·simp [h'] at z ⊢; exact z
 ·simp [h']
theorem zco {Q7:Nat} {z:List Nat} {A:Array Bool} (h:Left Q7 z A) (M:z.Nodup) {i:Nat} (H:i ∈ z) (I:∀ j ∈ z,j<Q7):Left Q7 (z.erase i) (A.setIfInBounds i true):=by
 intro j
 by_cases C:i=j
 ·subst C
  have J:=zcp h H
  constructor
  ·intro F
   simp [J] at F
  ·rintro(F | F | F)
   ·exact absurd F M.not_mem_erase
   ·have:=I i H; omega
   ·have:=I i H; omega
 ·rw [getD_set_ne true C,h j,List.mem_erase_of_ne (Ne.symm C)]
section
variable {P : Program} {ops : Array Oper} {Q : Exit -> Act -> wD -> Prop} {a : Act}
theorem zlg (B t k e Q7 fuel:Nat) (K:Keyed P k) (ht:P.underlying t=some (.map k e)) (I:List Nat) (X:Nat->vL) (kl:Nat->Lit)
  (Y:∀ i ∈ I,i<Q7/\∃ o m x u,ops[i]?=some o/\o.guard=none/\o.dst=none/\o.op = .insert t m x u/\a.eval m = .map (some B)/\a.eval x=X i/\a.eval u = .agg #[]/\keyOf P k (X i)=some (kl i)/\∀ y ∈ o.after,y.on<Q7/\y.on ∉ I)
  (htop:∃ o,ops[Q7]?=some o/\∀ j ∈ I,∃ y ∈ o.after,y.on=j/\Region.binds .any y=true)
  (Dm:∃ o,ops[Q7+1]?=some o/\∃ y ∈ o.after,y.on=Q7/\Region.binds .any y=true)
  (w0:wD) (hB:w0.heap.size<=B)
  (sz:Nat) (hfin:∀ z w D,z.size=sz->Left Q7 [] z->w.ownsMap (H:=Unit) P k unitElem B (I.length+0) D->Below w0.heap.size w0 w->(∀ C,Maps.has D C=true↔∃ i ∈ I,kl i=C)->wpAny P .any ops Q fuel z a w) :
  ∀ (n m:Nat) (A:List Nat) (z:Array Bool) (w:wD) (D:DataW Unit),A.length=n->z.size=sz->Left Q7 A z->A.Nodup->(∀ i ∈ A,i ∈ I) ->
   w.ownsMap P k unitElem B m D->m+n=I.length->I.length<100->Below w0.heap.size w0 w->(∀ i ∈ I,i ∉ A->Maps.has D (kl i)=true)->(∀ C,Maps.has D C=true->∃ i ∈ I,kl i=C) ->
   wpAny P .any ops Q (n+fuel) z a w:=by
 intro n
 induction n with
 | zero =>
  intro m A z w D hl hsz J hn T Wh hm O hb h1 h2;have:A=[]:=List.eq_nil_of_length_eq_zero hl;subst this;rw [Nat.zero_add]
  refine hfin z w D hsz J (Wh.mono (by omega)) hb fun C=>⟨h2 C,?_⟩
  rintro⟨i,hi,rfl⟩;exact h1 i hi (by simp)
 | succ n ih =>
  intro m A z w D hl hsz J hn T Wh hm O hb h1 h2;rw [show n+1+fuel=(n+fuel)+1 from by omega]
  have Ce:∀ i ∈ Region.ready .any ops z,i ∈ A:=by
   intro i hi;obtain⟨hf,o,ho,Kh⟩:=mem_ready.1 hi;rcases(J i).1 hf with h | rfl | rfl
   ·exact h
   ·exfalso
    obtain⟨o',ho',M⟩:=htop;rw [ho] at ho';cases ho'
    cases A with
    | nil=>simp at hl
    | cons j r =>
     obtain⟨y,hy,hon,Z⟩:=M j (T j (by simp));have h3:=Kh y hy Z;rw [hon,fH ((J j).2 (.inl (by simp)))] at h3;cases h3
   ·exfalso
    obtain⟨o',ho',y,hy,hon,Z⟩:=Dm;rw [ho] at ho';cases ho'
    have h3:=Kh y hy Z;rw [hon,fH ((J Q7).2 (.inr (.inl rfl)))] at h3;cases h3
  refine⟨?_,?_⟩
  ·intro h0
   exfalso
   cases A with
   | nil=>simp at hl
   | cons j r =>
    obtain⟨V,o,m',x,u,ho,_,_,_,_,_,_,_,haft⟩:=Y j (T j (by simp))
    have hr:j ∈ Region.ready .any ops z:=by
     refine mem_ready.2 ⟨(J j).2 (.inl (by simp)),o,ho,fun y hy _=>?_⟩;obtain⟨hy1,hy2⟩:=haft y hy
     have hts:Q7<z.size:=by
      have:=(J Q7).2 (.inr (.inl rfl));rcases Nat.lt_or_ge Q7 z.size with h' | h'
      ·exact h'
      ·simp [h'] at this
     have Z1:¬ z.getD y.on true=false:=by
      rw [J y.on];rintro(h | h | h)
      ·exact hy2 (T _ h)
      ·omega
      ·omega
     have hys:y.on<z.size:=by omega
     simp [hys] at Z1 ⊢;exact Z1
    rw [h0] at hr;cases hr
  ·intro i hi
   have N:=Ce i hi;obtain⟨V,o,m',x,u,ho,hg,hd,hop',hem,hex,heu,hkey,_⟩:=Y i (T i N);obtain⟨w',Je,Zr,Zo⟩:=Wh.update K ht (by unfold maxLen; omega) hkey unitElem_mk;unfold wpOp;rw [ho]
   have hw:Region.wanted o (yielded ops a.tmps)=true:=by simp [Region.wanted,hg]
   simp only [hw,if_true];refine .inl ?_;unfold Oper.wp;simp [execOp,hop',hem,hex,heu,Je,Result.andThen,Oper.upon]
   have ea:a.put o.dst undef=a:=by rw [hd]; rfl
   rw [ea]
   have Uo:(A.erase i).length=n:=by rw [List.length_erase_of_mem N]; omega
   refine ih (m+1) (A.erase i) (z.setIfInBounds i true) w' _ Uo (by rw [Array.size_setIfInBounds]; exact hsz) (zco J hn N fun j M=>(Y j (T j M)).1) (hn.erase i) (fun j M=>T j (List.mem_of_mem_erase M)) Zr (by omega) O
    (hb.grown Zo (by exact hb.size) (fun j M=>by cases M; exact hB)) ?_ ?_
   ·intro j M hjn
    by_cases hk:kl j=kl i
    ·rw [hk]; exact has_put_same Wh.isMap (K.key hkey) _
    ·rw [has_put_other hk]
     refine h1 j M fun V=>hjn ?_
     rw [List.mem_erase_of_ne]
     ·exact V
     ·rintro rfl; exact hk rfl
   ·intro C F
    by_cases hk:C=kl i
    ·exact⟨i,T i N,hk.symm⟩
    ·rw [has_put_other hk] at F
     exact h2 C F
end
theorem nF:laidOutB prog=true:=by kernel_rfl
theorem bC:Keyed prog 166:=Keyed.of_law (deep_law_laid nF (m:=2) (by omega) (of_decide_eq_true (by kernel_rfl)) (by kernel_rfl) (by rw [underlying166]))
def Gl (a b:UInt8):vL := .agg #[.int .u8 a.toNat,.int .u8 b.toNat]
theorem zfd (a b:UInt8):∃ kl,keyOf prog 166 (Gl a b)=some kl:=by
 have I:prog.keyType 166=true:=by kernel_rfl
 have h:prog.cellsOf 166=2:=by kernel_rfl
 have j:prog.cellsOf 5=1:=by kernel_rfl
 have H:(Gl a b).formed prog 166=true:=by simp [Gl,Value.formed,underlying166,h]
 have hsz:1<=prog.types.size:=of_decide_eq_true (by kernel_rfl)
 obtain⟨d,F⟩:∃ d,prog.types.size+1=d+2:=⟨prog.types.size - 1,by omega⟩
 have C:(Lit.int .u8 (a.toNat:Int)).wf=true:=WalkArith.wf_u8 ⟨by omega,by have:=a.toNat_lt; omega⟩
 have z:(Lit.int .u8 (b.toNat:Int)).wf=true:=WalkArith.wf_u8 ⟨by omega,by have:=b.toNat_lt; omega⟩
 unfold keyOf
 rw [underlying166]
 simp only [I,H,Bool.and_self,if_true]
 rw [F]
 have A:prog.keyLits (d+2) 166 (Gl a b).cells.toList=some [.int .u8 a.toNat,.int .u8 b.toNat]:=by
  simp [Program.keyLits,underlying166,underlying5,Gl,Value.cells,h,j,C,z,List.range_succ]
 exact⟨.string (keyBytes [.int .u8 a.toNat,.int .u8 b.toNat]),by rw [A]; rfl⟩
theorem uG (a b:UInt8):keyOf prog 166 (Gl a b)=some ((keyOf prog 166 (Gl a b)).getD .nil):=by
 obtain⟨kl,h⟩:=zfd a b
 rw [h]
 rfl
theorem zfc {a b c d:UInt8} (h:Gl a b=Gl c d):a=c/\b=d:=by
 simp [Gl] at h
 exact⟨UInt8.toNat_inj.1 (by omega),UInt8.toNat_inj.1 (by omega)⟩
def Rb:Nat->UInt8×UInt8
 | 3=>(45,62) | 6=>(61,62) | 9=>(60,58) | 12=>(60,60) | 15=>(60,61) | 18=>(62,62) | 21=>(61,61) | 24=>(43,43) | _=>(0,0)
def I9:List Nat:=[3,6,9,12,15,18,21,24]
theorem zfe (a b:UInt8) (D:DataW Unit) (h:∀ key,Maps.has D key=true↔∃ i ∈ I9,(keyOf prog 166 (Gl (Rb i).1 (Rb i).2)).getD .nil=key) {kl:Lit} (A:keyOf prog 166 (Gl a b)=some kl):Maps.has D kl=Gq.contains (a,b):=by
 rw [Bool.eq_iff_iff,h kl]
 constructor
 ·rintro⟨i,j,e⟩
  have z:=uG (Rb i).1 (Rb i).2;rw [e] at z;obtain⟨rfl,rfl⟩:=zfc (bC.inj A z)
  revert j
  exact(show ∀ i ∈ I9,Gq.contains ((Rb i).1,(Rb i).2)=true by decide) i
 ·intro C
  have hm:(a,b) ∈ Gq:=by simpa using C
  obtain⟨i,j,e⟩:=(show ∀ x ∈ Gq,∃ i ∈ I9,Rb i=x by decide) (a,b) hm;refine⟨i,j,?_⟩;rw [e];exact Option.some.inj ((uG a b).symm.trans A)
def O5 (D:DataW Unit):Prop:=∀ a b kl,keyOf prog 166 (Gl a b)=some kl->Maps.has D kl=Gq.contains (a,b)
theorem zjw (w:wD):Calls prog 77 #[] w fun e w'=>e = .returned (.map (some w.heap.size)) /\
  ∃ D,w'.ownsMap prog 166 unitElem w.heap.size 8 D/\O5 D/\Below w.heap.size w w':=by
 have hmm:=@run_makeMap prog
 go_enter func77,ntmps77
 go_wp2
 refine wp_region_any (by kernel_rfl) ?_
 change wpAny _ _ _ _ _ _ _ (World.drew _)
 refine wpAny_take (i:=1) (v := .agg #[.int .u8 45,.int .u8 62]) rfl (by kernel_rfl) (by kernel_rfl) (by kernel_rfl) (fun _ _ _ h=>h) (Or.inl ⟨by rfl,by intro w; go_simp⟩) ?_
 refine wpAny_take (i:=2) (v := .agg #[]) rfl (by kernel_rfl) (by kernel_rfl) (by kernel_rfl) (fun _ _ _ h=>h) (Or.inl ⟨by rfl,by intro w; go_simp⟩) ?_
 refine wpAny_take (i:=4) (v := .agg #[.int .u8 61,.int .u8 62]) rfl (by kernel_rfl) (by kernel_rfl) (by kernel_rfl) (fun _ _ _ h=>h) (Or.inl ⟨by rfl,by intro w; go_simp⟩) ?_
 refine wpAny_take (i:=5) (v := .agg #[]) rfl (by kernel_rfl) (by kernel_rfl) (by kernel_rfl) (fun _ _ _ h=>h) (Or.inl ⟨by rfl,by intro w; go_simp⟩) ?_
 refine wpAny_take (i:=7) (v := .agg #[.int .u8 60,.int .u8 58]) rfl (by kernel_rfl) (by kernel_rfl) (by kernel_rfl) (fun _ _ _ h=>h) (Or.inl ⟨by rfl,by intro w; go_simp⟩) ?_
 refine wpAny_take (i:=8) (v := .agg #[]) rfl (by kernel_rfl) (by kernel_rfl) (by kernel_rfl) (fun _ _ _ h=>h) (Or.inl ⟨by rfl,by intro w; go_simp⟩) ?_
 refine wpAny_take (i:=10) (v := .agg #[.int .u8 60,.int .u8 60]) rfl (by kernel_rfl) (by kernel_rfl) (by kernel_rfl) (fun _ _ _ h=>h) (Or.inl ⟨by rfl,by intro w; go_simp⟩) ?_
 refine wpAny_take (i:=11) (v := .agg #[]) rfl (by kernel_rfl) (by kernel_rfl) (by kernel_rfl) (fun _ _ _ h=>h) (Or.inl ⟨by rfl,by intro w; go_simp⟩) ?_
 refine wpAny_take (i:=13) (v := .agg #[.int .u8 60,.int .u8 61]) rfl (by kernel_rfl) (by kernel_rfl) (by kernel_rfl) (fun _ _ _ h=>h) (Or.inl ⟨by rfl,by intro w; go_simp⟩) ?_
 refine wpAny_take (i:=14) (v := .agg #[]) rfl (by kernel_rfl) (by kernel_rfl) (by kernel_rfl) (fun _ _ _ h=>h) (Or.inl ⟨by rfl,by intro w; go_simp⟩) ?_
 refine wpAny_take (i:=16) (v := .agg #[.int .u8 62,.int .u8 62]) rfl (by kernel_rfl) (by kernel_rfl) (by kernel_rfl) (fun _ _ _ h=>h) (Or.inl ⟨by rfl,by intro w; go_simp⟩) ?_
 refine wpAny_take (i:=17) (v := .agg #[]) rfl (by kernel_rfl) (by kernel_rfl) (by kernel_rfl) (fun _ _ _ h=>h) (Or.inl ⟨by rfl,by intro w; go_simp⟩) ?_
 refine wpAny_take (i:=19) (v := .agg #[.int .u8 61,.int .u8 61]) rfl (by kernel_rfl) (by kernel_rfl) (by kernel_rfl) (fun _ _ _ h=>h) (Or.inl ⟨by rfl,by intro w; go_simp⟩) ?_
 refine wpAny_take (i:=20) (v := .agg #[]) rfl (by kernel_rfl) (by kernel_rfl) (by kernel_rfl) (fun _ _ _ h=>h) (Or.inl ⟨by rfl,by intro w; go_simp⟩) ?_
 refine wpAny_take (i:=22) (v := .agg #[.int .u8 43,.int .u8 43]) rfl (by kernel_rfl) (by kernel_rfl) (by kernel_rfl) (fun _ _ _ h=>h) (Or.inl ⟨by rfl,by intro w; go_simp⟩) ?_
 refine wpAny_take (i:=23) (v := .agg #[]) rfl (by kernel_rfl) (by kernel_rfl) (by kernel_rfl) (fun _ _ _ h=>h) (Or.inl ⟨by rfl,by intro w; go_simp⟩) ?_
 refine wpAny_ready (rs:=[0]) (by kernel_rfl) (by simp) ?_
 refine AllReady.cons rfl (fun K A=>?_) AllReady.nil
 go_simp
 refine A _ _ ?_
 clear A K
 refine zlg w.heap.size 142 166 100 25 2 bC underlying142 I9 (fun i=>Gl (Rb i).1 (Rb i).2) (fun i=>(keyOf prog 166 (Gl (Rb i).1 (Rb i).2)).getD .nil)
  ?hop ⟨_,rfl,?ht⟩ ⟨_,rfl,?hn⟩ w (xR) 27 ?fin 8 0 I9 _ _ (.map []) rfl rfl ?left (by decide) (fun _ h=>h) (World.ownsMap_made w.drew _ _ _) rfl (by decide) ?below (fun i H M=>absurd H M) (fun key h=>by cases h)
 case hop =>
  intro i H;simp only [I9,List.mem_cons,List.not_mem_nil,or_false] at H;rcases H with rfl | rfl | rfl | rfl | rfl | rfl | rfl | rfl
  all_goals exact⟨by omega,_,_,_,_,rfl,rfl,rfl,rfl,rfl,rfl,rfl,uG _ _,by decide⟩
 case ht=>decide
 case hn=>exact⟨{ on:=25,ground := .data },by simp,rfl,rfl⟩
 case left =>
  intro j;by_cases J:j<27
  ·revert j
   decide
  ·have F:j≠25/\j≠26:=by omega
   have O:j ∉ I9:=by
    intro h;have:=(show ∀ i ∈ I9,i<27 by decide) j h;omega
   constructor
   ·intro h
    simp [J] at h
   ·rintro(h | h | h)
    ·exact absurd h O
    ·exact absurd h F.1
    ·exact absurd h F.2
 case below=>exact(Below.refl _ w).drew.alloc (xR) _
 case fin =>
  intro z w1 D I V Y hb hD
  have C:z=#[true,true,true,true,true,true,true,true,true,true,true,true,true,true,true,true,true,true,true,true,true,true,true,true,true,false,false]:=by
   apply Array.ext
   ·rw [I]; rfl
   ·intro j F O
    have J:j<27:=by omega
    have e1:z.getD j true=z[j]:=by simp [F]
    have N:=V j;rw [e1] at N
    have Z:∀ j (h:j<27),(#[true,true,true,true,true,true,true,true,true,true,true,true,true,true,true,true,true,true,true,true,true,true,true,true,true,false,false]:Array Bool)[j]=false↔(j=25∨j=26):=by decide
    rw [Bool.eq_iff_iff,<- Bool.not_eq_false,<- Bool.not_eq_false,N,Z j J];simp
  subst C
  have hP:O5 D:=fun a b kl T=>zfe a b D hD T
  refine wpAny_ready (rs:=[25]) (by kernel_rfl) (by simp) ?_;refine AllReady.cons rfl (fun K A=>?_) AllReady.nil
  go_simp
  refine A _ _ ?_;clear A K;refine wpAny_ready (rs:=[26]) (by kernel_rfl) (by simp) ?_;refine AllReady.cons rfl (fun K A=>?_) AllReady.nil
  go_simp
  refine A _ _ ?_;clear A K;refine wpAny_done (by kernel_rfl) ?_ _;go_wp2;go_ret;exact⟨rfl,D,Y,hP,hb⟩
end Go.Proofs.YtoppemkjhhlegaaGreatDoor.Lx
namespace Go.Proofs.YtoppemkjhhlegaaGreatDoor.Lx
open Go.Proofs.Tryz
open Go.RowKit
def Xi (w:wD) (sb:Nat) (S:bA) (k li ls:Int) (mb:Nat):Prop :=
 w.heap[sb]?=some (.cells #[.string S,iP k,iP li,iP ls,.map (some mb)] 145 (0,0))
section
variable {w : wD} {sb : Nat} {S : bA} {k li ls : Int} {mb : Nat}
theorem Xi.c0 (h:Xi w sb S k li ls mb):w.cell? (aP sb 0)=some (.string S):=by unfold Xi at h; simp [World.cell?,h]
theorem Xi.c1 (h:Xi w sb S k li ls mb):w.cell? (aP sb 1)=some (iP k):=by unfold Xi at h; simp [World.cell?,h]
theorem Xi.c2 (h:Xi w sb S k li ls mb):w.cell? (aP sb 2)=some (iP li):=by unfold Xi at h; simp [World.cell?,h]
theorem Xi.c3 (h:Xi w sb S k li ls mb):w.cell? (aP sb 3)=some (iP ls):=by unfold Xi at h; simp [World.cell?,h]
theorem Xi.c4 (h:Xi w sb S k li ls mb):w.cell? (aP sb 4)=some (.map (some mb)):=by unfold Xi at h; simp [World.cell?,h]
theorem Xi.fz (h:Xi w sb S k li ls mb) (o:Nat):w.frozen? (aP sb o)=false:=by unfold Xi at h; simp [World.frozen?,h]
theorem Xi.lt (h:Xi w sb S k li ls mb):sb<w.heap.size:=xB h
theorem Y1 {w:wD} {b o:Nat} {cs:Array vL} {u:vL} {t:TypeId} {j:Nat×Nat} (h:w.heap[b]?=some (.cells cs t j)):(w.setCell (aP b o) u).heap[b]?=some (.cells (cs.setIfInBounds o u) t j):=by
 have z:=xB h
 have A:w.heap[b] = .cells cs t j:=by simpa [Array.getElem?_eq_getElem z] using h
 show(w.heap.modify b _)[b]?=_
 rw [Array.getElem?_eq_getElem (by simpa using z),Array.getElem_modify_self,A]
 rfl
theorem Xi.set1 (h:Xi w sb S k li ls mb) (v:Int):Xi (w.setCell (aP sb 1) (iP v)) sb S v li ls mb:=Y1 h
theorem Xi.set2 (h:Xi w sb S k li ls mb) (v:Int):Xi (w.setCell (aP sb 2) (iP v)) sb S k v ls mb:=Y1 h
theorem Xi.set3 (h:Xi w sb S k li ls mb) (v:Int):Xi (w.setCell (aP sb 3) (iP v)) sb S k li v mb:=Y1 h
theorem Xi.kept {w':wD} {row:Option Nat} (h:Xi w sb S k li ls mb) (z:w.grownBy w' row) (j:some sb≠row):Xi w' sb S k li ls mb:=by
 unfold Xi at *
 rw [z.block sb (xB h) j]
 exact h
end
def Wp (w:wD) (tb:Nat) (kind:Int) (text:bA) (li co:Int):Prop :=
 w.heap[tb]?=some (.cells #[iP kind,.string text,iP li,iP co] 121 (0,0))
section
variable {w : wD} {tb : Nat} {kind : Int} {text : bA} {li co : Int}
theorem Wp.c0 (h:Wp w tb kind text li co):w.cell? (aP tb 0)=some (iP kind):=by unfold Wp at h; simp [World.cell?,h]
theorem Wp.c1 (h:Wp w tb kind text li co):w.cell? (aP tb 1)=some (.string text):=by unfold Wp at h; simp [World.cell?,h]
theorem Wp.c2 (h:Wp w tb kind text li co):w.cell? (aP tb 2)=some (iP li):=by unfold Wp at h; simp [World.cell?,h]
theorem Wp.c3 (h:Wp w tb kind text li co):w.cell? (aP tb 3)=some (iP co):=by unfold Wp at h; simp [World.cell?,h]
theorem Wp.fz (h:Wp w tb kind text li co) (o:Nat):w.frozen? (aP tb o)=false:=by unfold Wp at h; simp [World.frozen?,h]
theorem Wp.set0 (h:Wp w tb kind text li co) (v:Int):Wp (w.setCell (aP tb 0) (iP v)) tb v text li co:=Y1 h
theorem Wp.set1 (h:Wp w tb kind text li co) (v:bA):Wp (w.setCell (aP tb 1) (.string v)) tb kind v li co:=Y1 h
theorem Wp.kept {w':wD} {row:Option Nat} (h:Wp w tb kind text li co) (z:w.grownBy w' row) (j:some tb≠row):Wp w' tb kind text li co:=by
 unfold Wp at *
 rw [z.block tb (xB h) j]
 exact h
end
theorem zbe {a w:wD} {row:Option Nat} (h:a.grownBy w row):a.grownBy w.drew row:=⟨h.os,h.tape,h.output,h.size,h.block⟩
theorem Dc {a w:wD} {row:Option Nat} (h:a.grownBy w row) (n:Nat):a.grownBy (w.drewN n) row:=⟨h.os,h.tape,h.output,h.size,h.block⟩
theorem Jy {a w:wD} {b:Nat} (h:a.grownBy w (some b)) (o:Nat) (v:vL):a.grownBy (w.setCell (aP b o) v) (some b) :=
 ⟨h.os,h.tape,h.output,by simpa using h.size,fun k z j=>(Below.heap_setCell w _ v k (fun e=>j (by rw [e]))).trans (h.block k z j)⟩
theorem Dd (w:wD) (a:Addr) (v:vL):w.grownBy (w.setCell a v) (some a.block) :=
 ⟨rfl,rfl,rfl,by simp,fun k _ h=>Below.heap_setCell w a v k (fun e=>h (by rw [e]))⟩
def tV (w:wD) (sb:Nat):Nat:=match w.cell? (aP sb 1)with | some v=>(intOf v).toNat | none=>0
theorem Xi.at {w:wD} {sb:Nat} {S:bA} {k:Nat} {li ls:Int} {mb:Nat} (h:Xi w sb S k li ls mb):tV w sb=k:=by
 unfold tV
 rw [h.c1]
 simp [intOf]
def Hd (S:bA) (k li ls:Nat):bS×Nat×Nat:=Vf false (S.data.toList.drop k) li (k - ls+1)
theorem zir {S:bA} {k li ls:Nat} (j:k<S.size) (h:S[k].toNat=10):Hd S k li ls=Hd S (k+1) (li+1) (k+1):=by
 have e:S[k]=10:=UInt8.toNat_inj.1 h
 unfold Hd
 rw [Ue S k j,Vf,if_pos e]
 simp
theorem zio {S:bA} {k li ls:Nat} (z:k<S.size) (hl:ls<=k) (h:S[k].toNat=32∨S[k].toNat=9∨S[k].toNat=13):Hd S k li ls=Hd S (k+1) li ls:=by
 have e:S[k]=32∨S[k]=9∨S[k]=13:=by
  rcases h with h | h | h
  ·exact .inl (UInt8.toNat_inj.1 h)
  ·exact .inr (.inl (UInt8.toNat_inj.1 h))
  ·exact .inr (.inr (UInt8.toNat_inj.1 h))
 unfold Hd
 rw [Ue S k z,Vf,if_neg (by rintro j; rw [j] at e; revert e; decide),if_pos e]
 rw [show k - ls+1+1=k+1 - ls+1 from by omega]
theorem mS (S:bA) (k:Nat) (p:UInt8->Bool):S.data.toList.drop (Wk S k p)=(S.data.toList.drop k).dropWhile p:=by
 unfold Wk
 rw [<- List.drop_drop]
 generalize S.data.toList.drop k=l
 induction l with
 | nil=>rfl
 | cons b r ih =>
  by_cases h:p b=true
  ·rw [List.takeWhile_cons_of_pos h,List.dropWhile_cons_of_pos h,List.length_cons,List.drop_succ_cons,ih]
  ·rw [List.takeWhile_cons_of_neg h,List.dropWhile_cons_of_neg h]; rfl
theorem zis {S:bA} {k li ls:Nat} (j:k<S.size) (hl:ls<=k) (h:S[k].toNat=35):Hd S k li ls=Hd S (Wk S k Br) li ls/\k<Wk S k Br:=by
 have e:S[k]=35:=UInt8.toNat_inj.1 h
 have z:Br S[k]=true:=by rw [e]; decide
 have A:=zS j z
 have Zt:k+1<=Wk S (k+1) Br:=by unfold Wk; omega
 refine⟨?_,by omega⟩
 rw [A]
 unfold Hd
 rw [mS,Ue S k j,Vf,if_neg (by rw [e]; decide),if_neg (by rw [e]; decide),if_pos e,ziu]
 unfold Wk
 rw [show k - ls+1+1+(List.takeWhile Br (List.drop (k+1) S.data.toList)).length=k+1+(List.takeWhile Br (List.drop (k+1) S.data.toList)).length - ls+1 from by omega]
theorem zit {S:bA} {k li ls:Nat} (z:k<S.size) (h:S[k].toNat≠10/\S[k].toNat≠32/\S[k].toNat≠9/\S[k].toNat≠13/\S[k].toNat≠35):Hd S k li ls=(S.data.toList.drop k,li,k - ls+1):=by
 have f:∀ n:UInt8,S[k].toNat≠n.toNat->¬ S[k]=n:=fun n j e=>j (by rw [e])
 unfold Hd
 rw [Ue S k z,Vf,if_neg (f 10 h.1),if_neg,if_neg (f 35 h.2.2.2.2)]
 rintro(e | e | e)
 ·exact f 32 h.2.1 e
 ·exact f 9 h.2.2.1 e
 ·exact f 13 h.2.2.2.1 e
theorem ziq {S:bA} {k li ls:Nat} (hk:¬ k<S.size):Hd S k li ls=(S.data.toList.drop k,li,k - ls+1):=by
 unfold Hd
 rw [List.drop_eq_nil_of_le (by rw [Wz]; omega)]
 rfl
theorem aZ (S:bA) (hS:S.size<=65536) (sb mb A j z:Nat) (Y:A<=S.size) (J:z<=A) (M:j<=A+1) (w:wD) (Yn:Xi w sb S A j z mb) :
  Calls prog 78 #[qP sb] w fun e w'=>e = .returned (.tuple #[])/\∃ k li ls:Nat,Xi w' sb S k li ls mb/\w.grownBy w' (some sb) /\
   A<=k/\k<=S.size/\ls<=k/\li<=k+1/\Hd S A j z=(S.data.toList.drop k,li,k - ls+1):=by
 go_enter func78,ntmps78
 go_wp2
 go_loopw [20] (fun _ wr=>∃ k li ls:Nat,Xi wr sb S k li ls mb/\w.grownBy wr (some sb)/\A<=k/\k<=S.size/\ls<=k/\li<=k+1/\Hd S A j z=Hd S k li ls) (fun _ wr=>S.size - tV wr sb)
 case atStart=>exact⟨A,j,z,Yn,World.grownBy.refl _ _,xR,Y,J,M,rfl⟩
 case round =>
  obtain⟨k,li,ls,hs,hg,hk0',hk,hls,Ge,hrel⟩:=hrel;have O:=Za hrel;have N:=Za hs;have Zd:=Za hs.at;have c0:=hs.c0;have c1:=hs.c1;have c2:=hs.c2;have c3:=hs.c3;have f1:=hs.fz 1;have f2:=hs.fz 2;have f3:=hs.fz 3;have T:=Za hg;clear hrel hs hg Yn;by_cases H:k<S.size
  ·have hlt':(k:Int)<(S.size:Int):=by omega
   by_cases b1:S[k].toNat=10
   ·have b1':((S[k].toNat:Int) == 10)=true:=by simp; omega
    go_wp2
    go_quiet(fail)
    go_wp2
    go_quiet(fail)
    go_wp2;have C:=(((N.o:Xi (wr.drewN (_+_)) sb S k li ls mb).set1 (k+1)).set2 (li+1)).set3 (k+1);refine⟨⟨k+1,li+1,k+1,C,Jy (Jy (Jy (Dc T.o _) _ _) _ _) _ _,by omega,by omega,by omega,by omega,O.o.trans (zir H b1)⟩,?_⟩;have I:=Xi.at (k:=k+1) C;have V:=Zd.o;rw [V];exact Nat.lt_of_le_of_lt (Nat.le_of_eq (congrArg (S.size - ·) I)) (by omega)
   have n1:((S[k].toNat:Int) == 10)=false:=by simp; omega
   by_cases b2:S[k].toNat=32∨S[k].toNat=9∨S[k].toNat=13
   ·have h:=zio (li:=li) H hls b2
    have F:=Za h;clear h
    have b2':((S[k].toNat:Int) == 32)=true∨(((S[k].toNat:Int) == 32)=false/\((S[k].toNat:Int) == 9)=true)∨(((S[k].toNat:Int) == 32)=false/\((S[k].toNat:Int) == 9)=false/\((S[k].toNat:Int) == 13)=true):=by simp; omega
    rcases b2' with p1 | ⟨p1,p2⟩ | ⟨p1,p2,p3⟩
    all_goals
     go_wp2
     go_quiet(fail)
     go_wp2
     go_quiet(fail)
     go_wp2;have C:=(N.o:Xi (wr.drewN (_+_)) sb S k li ls mb).set1 (k+1);refine⟨⟨k+1,li,ls,C,Jy (Dc T.o _) _ _,by omega,by omega,by omega,by omega,O.o.trans F.o⟩,?_⟩;have I:=Xi.at (k:=k+1) C;have V:=Zd.o;rw [V];exact Nat.lt_of_le_of_lt (Nat.le_of_eq (congrArg (S.size - ·) I)) (by omega)
   have n2:((S[k].toNat:Int) == 32)=false:=by simp; omega
   have n3:((S[k].toNat:Int) == 9)=false:=by simp; omega
   have n4:((S[k].toNat:Int) == 13)=false:=by simp; omega
   by_cases b3:S[k].toNat=35
   ·obtain⟨h,Gf⟩:=zis (li:=li) H hls b3
    have Px:=Oh S k Br hk;have Z:=zhg S (by omega) k hk;obtain⟨r,hr⟩:=xE (Wk S k Br);rw [<- hr] at h Gf Px Z;have F:=Za h;have HC:=Za Z;clear h Z hr
    have p4:((S[k].toNat:Int) == 35)=true:=by simp; omega
    go_wp2
    go_quiet(fail)
    go_wp2
    go_quiet(fail)
    go_wp2
    go_region_with (go_at_call 48; refine(HC.o _).mono ?_; rintro e w' ⟨rfl,rfl⟩)
    all_goals
     go_wp2;have C:=(N.o:Xi (wr.drewN (_+_+1)) sb S k li ls mb).set1 r;refine⟨⟨r,li,ls,C,Jy (Dc T.o _) _ _,by omega,by omega,by omega,by omega,O.o.trans F.o⟩,?_⟩;have I:=Xi.at (k:=r) C;have V:=Zd.o;rw [V];exact Nat.lt_of_le_of_lt (Nat.le_of_eq (congrArg (S.size - ·) I)) (by omega)
   have n5:((S[k].toNat:Int) == 35)=false:=by simp; omega
   have h:=zit (li:=li) (ls:=ls) H ⟨b1,by omega,by omega,by omega,b3⟩;have F:=Za h;clear h;go_wp2
   go_quiet(fail)
   go_wp2
   go_quiet(fail)
   go_wp2
   first | go_end0 | (simp only [Exit.inBlock,Exit.then]; refine bodyPost_ret (results_none rfl _ _ _) rfl ?_) | refine bodyPost_ret (results_none rfl _ _ _) rfl ?_
   exact⟨rfl,k,li,ls,N.o,Dc T.o _,by omega,by omega,by omega,by omega,O.o.trans F.o⟩
  ·have h:=ziq (li:=li) (ls:=ls) H
   have F:=Za h;clear h;go_wp2
   go_quiet(fail)
   go_wp2
   first | go_end0 | (simp only [Exit.inBlock,Exit.then]; refine bodyPost_ret (results_none rfl _ _ _) rfl ?_) | refine bodyPost_ret (results_none rfl _ _ _) rfl ?_
   exact⟨rfl,k,li,ls,N.o,Dc T.o _,by omega,by omega,by omega,by omega,O.o.trans F.o⟩
def wordB (i:Nat):ByteArray:=⟨(P5.getD i []).toArray⟩
def Words (w:wD):Prop:=∀ i,i<25->w.cell? (aP 0 i)=some (.string (wordB i))
theorem Words.lt {w:wD} (h:Words w):0<w.heap.size:=World.block_lt_of_cell? w _ (h 0 (by decide))
theorem Words.below {w w':wD} (h:Words w) (z:Below w.heap.size w w'):Words w':=fun i j=>(z.cell (show 0<w.heap.size from h.lt)).trans (h i j)
def wT:List vL:=(List.range 25).map fun i => .string (wordB i)
theorem cP (i:Nat) (h:i<25):wT[i]?=some (.string (wordB i)):=by simp [wT,h]
theorem Words.range {w:wD} (h:Words w):w.rangeAt 0 0 wT:=by
 intro j v hv
 have z:j<25:=by
  have:=(List.getElem?_eq_some_iff.1 hv).1
  simpa [wT] using this
 rw [cP j z] at hv
 injection hv with hv
 rw [<- hv,Nat.zero_add]
 exact h j z
theorem zle:(prog.info? 129).map (·.size)=some wT.length:=by kernel_rfl
def pB (s:bA) (k:Nat):Prop:=∀ i,i<k->s≠wordB i
theorem mH (s:bA):P5.contains s.data.toList=true↔∃ i,i<25/\s=wordB i:=by
 rw [List.contains_iff_mem]
 constructor
 ·intro h
  obtain⟨i,j,e⟩:=List.mem_iff_getElem.1 h;refine⟨i,j,?_⟩;unfold wordB;rw [List.getD_eq_getElem?_getD,List.getElem?_eq_getElem j,Option.getD_some,e]
 ·rintro⟨i,j,e⟩
  rw [e];unfold wordB;rw [List.getD_eq_getElem?_getD,List.getElem?_eq_getElem (show i<P5.length from j),Option.getD_some];exact List.getElem_mem ..
theorem Cs {s t:bA}:(s.toList == t.toList)=true↔s=t:=by
 rw [ByteArray.toList_eq,ByteArray.toList_eq,beq_iff_eq]
 constructor
 ·intro h
  cases s; cases t
  simp at h;rw [h]
 ·rintro rfl; rfl
theorem uY {s t:bA} (h:(s.toList == t.toList)=false):s≠t:=fun e=>by
 rw [Cs.2 e] at h
 cases h
theorem zld {A:List vL} {k:Nat} {t:bA} (C:k<25) (h:A[k]?=some (.string t)) (w:wD) :
  (Instr.index 129 (.agg A.toArray) (iP k)).run prog w = .ok (.string t) w:=by
 have j:=underlying129
 have ha:=isAgg9
 have z:=sizeOf9
 simp [Instr.index,asIntOf,run_underlying j,part,ha,z,Result.andThen,C]
 rw [h]
 rfl
theorem g9 (s:bA) (w:wD) (Z:Words w) :
  Calls prog 50 #[.string s] w fun e w'=>e = .returned (.bool (P5.contains s.data.toList))/\w'=w:=by
 obtain⟨b,J⟩:=xE (P5.contains s.data.toList)
 rw [<- J]
 have O:=Za J
 clear J
 have N:=Za Z.range
 obtain⟨A,Y⟩:=xE wT
 have H:=cP
 have z:=zle
 rw [<- Y] at N H z
 clear Y Z
 have HA:=Za H
 clear H
 go_enter func50,ntmps50
 go_wp2_with(refine wpList_load_mid rfl 129 (.global 0) rfl 0 0 rfl A (.array 25 9) N.o underlying129 rfl z ?_)
 go_loop [6] (fun i=>∃ k:Nat,k<=25/\i=iP k/\xQ (pB s k)) (fun i=>25 - (intOf i).toNat)
 case atStart=>exact⟨0,by omega,rfl,fun i V=>by omega⟩
 case round =>
  obtain⟨k,hk,rfl,T⟩:=hrel;by_cases C:k<25
  ·have j:=HA.o k C
   obtain⟨t,I⟩:=xE (wordB k);rw [<- I] at j;have St:=zld C j w;clear j;have M:=Za I;clear I;cases hq:(s.toList == t.toList)
   ·have Cg:xQ (pB s (k+1)):=fun i V=>by
     by_cases F:i=k
     ·subst F; rw [<- M.o]; exact uY hq
     ·exact T.o i (by omega)
    go_wp2
    go_round
    case rel=>exact⟨k+1,by omega,by go_num,Cg⟩
    case measure=>simp [intOf]; omega
   ·have e:b=true:=by
     rw [O.o];exact(mH s).2 ⟨k,C,(Cs.1 hq).trans M.o⟩
    subst e;go_wp2;go_ret;exact⟨rfl,rfl⟩
  ·have e:b=false:=by
    rw [O.o,Bool.eq_false_iff];intro h;obtain⟨i,V,e⟩:=(mH s).1 h;exact T.o i (by omega) e
   subst e;go_wp2;go_ret;exact⟨rfl,rfl⟩
theorem Il (S:bA) (i j:Nat):S.extract i j=⟨((S.data.toList.drop i).take (j - i)).toArray⟩:=by
 apply ByteArray.ext
 rw [ByteArray.data_extract]
 apply Array.toList_inj.1
 rw [Array.toList_extract]
theorem zjj (p:UInt8->Bool) (l:bS):l.take (l.takeWhile p).length=l.takeWhile p:=by
 induction l with
 | nil=>rfl
 | cons b r ih =>
  by_cases h:p b=true
  ·rw [List.takeWhile_cons_of_pos h,List.length_cons,List.take_succ_cons,ih]
  ·rw [List.takeWhile_cons_of_neg h]; rfl
theorem mV (S:bA) (k:Nat) (p:UInt8->Bool):S.extract k (Wk S k p)=⟨((S.data.toList.drop k).takeWhile p).toArray⟩:=by
 rw [Il]
 unfold Wk
 rw [Nat.add_sub_cancel_left,zjj]
theorem zhl (S:bA) (hS:S.size<=65536) (sb mb k li ls:Nat) (C:k<=S.size) (w:wD) (h:Xi w sb S k li ls mb) :
  Calls prog 100 #[qP sb,.func (.func 49) #[] #[]] w fun e w'=>e = .returned (.string ⟨((S.data.toList.drop k).takeWhile Xm).toArray⟩) /\
   Xi w' sb S (Wk S k Xm) li ls mb/\w.grownBy w' (some sb):=by
 have I:=Oh S k Xm C
 have A:k<=Wk S k Xm:=by unfold Wk; omega
 have z:=aC S (by omega) k C
 obtain⟨r,j⟩:=xE (Wk S k Xm)
 rw [<- j] at I A z ⊢
 have H:=Za z
 have J:=Za j
 have F:=Za h
 have c0:=h.c0
 have c1:=h.c1
 have f1:=h.fz 1
 clear z j h
 go_enter func100,ntmps100
 go_wp2_with fail
 refine(H.o _).mono ?_
 rintro e w' ⟨rfl,rfl⟩
 go_wp2
 go_quiet(fail)
 go_wp2
 go_ret
 refine⟨?_,F.o.set1 r,Dc (Jy (World.grownBy.refl _ _) _ _) _⟩
 rw [<- mV,<- J.o]
 rfl
theorem zhj (S:bA) (hS:S.size<=65536) (sb mb k li ls:Nat) (C:k<=S.size) (w:wD) (h:Xi w sb S k li ls mb) :
  Calls prog 100 #[qP sb,.func (.func 63) #[] #[]] w fun e w'=>e = .returned (.string ⟨((S.data.toList.drop k).takeWhile Xh).toArray⟩) /\
   Xi w' sb S (Wk S k Xh) li ls mb/\w.grownBy w' (some sb):=by
 have I:=Oh S k Xh C
 have A:k<=Wk S k Xh:=by unfold Wk; omega
 have z:=zhf S (by omega) k C
 obtain⟨r,j⟩:=xE (Wk S k Xh)
 rw [<- j] at I A z ⊢
 have H:=Za z
 have J:=Za j
 have F:=Za h
 have c0:=h.c0
 have c1:=h.c1
 have f1:=h.fz 1
 clear z j h
 go_enter func100,ntmps100
 go_wp2_with fail
 refine(H.o _).mono ?_
 rintro e w' ⟨rfl,rfl⟩
 go_wp2
 go_quiet(fail)
 go_wp2
 go_ret
 refine⟨?_,F.o.set1 r,Dc (Jy (World.grownBy.refl _ _) _ _) _⟩
 rw [<- mV,<- J.o]
 rfl
def tokA (kind:Int) (text:bA) (li co:Int):vL := .agg #[iP kind,.string text,iP li,iP co]
theorem gH (S:bA) (sb mb k li ls:Nat) (hk:k<=65536) (hls:ls<=k) (w:wD) (h:Xi w sb S k li ls mb) :
  Calls prog 79 #[qP sb] w fun e w'=>e = .returned (tokA 0 ByteArray.empty li ((k - ls+1:Nat):Int))/\w.grownBy w' none:=by
 have Wx:=h.lt
 have c1:=h.c1
 have c2:=h.c2
 have c3:=h.c3
 clear h
 go_enter func79,ntmps79
 go_wp2
 go_region
 all_goals
  go_wp2;refine bodyPost_ret (results_cell_row rfl _ _ w.heap.size 121 #[iP 0,.string { data:=#[] },iP li,iP ((k:Int) - (ls:Int)+1)] (0,0) _ rfl (xL w _) underlying121 rfl (by kernel_rfl)) rfl ⟨?_,?_⟩
  ·rw [show((k - ls+1:Nat):Int)=(k:Int) - (ls:Int)+1 from by omega]
   rfl
  ·exact zbe (World.grownBy_alloc _ _ _)
structure Wt (w w':wD) (a b:Nat):Prop where
 os:w'.os=w.os
 tape:w'.tape=w.tape
 output:w'.output=w.output
 size:w.heap.size<=w'.heap.size
 block:∀ i,i<w.heap.size->i≠a->i≠b->w'.heap[i]?=w.heap[i]?
theorem Wt.refl (w:wD) (a b:Nat):Wt w w a b:=⟨rfl,rfl,rfl,xR,fun _ _ _ _=>rfl⟩
theorem Wt.trans {w w1 w2:wD} {a b:Nat} (h:Wt w w1 a b) (k:Wt w1 w2 a b):Wt w w2 a b :=
 ⟨k.os.trans h.os,k.tape.trans h.tape,k.output.trans h.output,Nat.le_trans h.size k.size,fun i j ha z=>(k.block i (xT j h.size) ha z).trans (h.block i j ha z)⟩
theorem Wt.ofNone {w w':wD} (h:w.grownBy w' none) (a b:Nat):Wt w w' a b:=⟨h.os,h.tape,h.output,h.size,fun i j _ _=>h.block i j (by simp)⟩
theorem Wt.ofL {w w':wD} {a:Nat} (h:w.grownBy w' (some a)) (b:Nat):Wt w w' a b:=⟨h.os,h.tape,h.output,h.size,fun i j ha _=>h.block i j (by simpa using ha)⟩
theorem Wt.ofR {w w':wD} {b:Nat} (h:w.grownBy w' (some b)) (a:Nat):Wt w w' a b:=⟨h.os,h.tape,h.output,h.size,fun i j _ z=>h.block i j (by simpa using z)⟩
theorem Wt.setL {w w':wD} {a b:Nat} (h:Wt w w' a b) (o:Nat) (v:vL):Wt w (w'.setCell (aP a o) v) a b:=h.trans (.ofL (Jy (World.grownBy.refl _ _) o v) b)
theorem Wt.setR {w w':wD} {a b:Nat} (h:Wt w w' a b) (o:Nat) (v:vL):Wt w (w'.setCell (aP b o) v) a b:=h.trans (.ofR (Jy (World.grownBy.refl _ _) o v) a)
theorem Wt.drewN {w w':wD} {a b:Nat} (h:Wt w w' a b) (n:Nat):Wt w (w'.drewN n) a b:=⟨h.os,h.tape,h.output,h.size,h.block⟩
theorem Wt.drew {w w':wD} {a b:Nat} (h:Wt w w' a b):Wt w w'.drew a b:=⟨h.os,h.tape,h.output,h.size,h.block⟩
theorem Wt.below {w w':wD} {a b B:Nat} (h:Wt w w' a b) (hB:B<=w.heap.size) (ha:B<=a) (hb:B<=b):Below B w w' :=
 ⟨h.os,h.tape,h.output,h.size,fun i hi=>h.block i (by omega) (by omega) (by omega)⟩
theorem Wt.words {w w':wD} {a b:Nat} (h:Wt w w' a b) (j:Words w) (ha:0≠a) (A:0≠b):Words w':=fun i z=>by
 have:=j i z
 rw [World.cell?_of_block (w:=w) (h.block 0 j.lt ha A)]
 exact this
theorem Wt.map {w w':wD} {a b mb n:Nat} {D:DataW Unit} (h:Wt w w' a b) (z:w.ownsMap prog 166 unitElem mb n D) (ha:mb≠a) (F:mb≠b):w'.ownsMap prog 166 unitElem mb n D:=by
 have A:=z.lt
 obtain⟨es,j,C,r⟩:=z
 exact⟨es,j,by rw [h.block mb A ha F]; exact C,r⟩
theorem Wt.owns {w w':wD} {a b j e size n:Nat} {v:vL} {xs:List vL} (h:Wt w w' a b) (H:w.ownsRow j e size v n xs) (ha:v.ownBlock≠some a) (J:v.ownBlock≠some b):w'.ownsRow j e size v n xs:=by
 obtain⟨F,A⟩:=H
 refine⟨F,?_⟩
 rcases A with A | ⟨g,cap,z,rfl,I,C,r⟩
 ·exact .inl A
 ·refine .inr ⟨g,cap,z,rfl,I,?_,r⟩
  rw [h.block g (xB C) (fun e=>ha (by simp [Value.ownBlock,e])) (fun e=>J (by simp [Value.ownBlock,e]))];exact C
def Ro (l:bS):List vL:=l.map fun b => .int .u8 b.toNat
theorem oE (l:bS):(Ro l).length=l.length:=by simp [Ro]
theorem oF (l:bS) (b:UInt8):Ro (l ++ [b])=Ro l ++ [.int .u8 b.toNat]:=by simp [Ro]
theorem zjd (l:bS):strOfNums (l.map fun b=>(b.toNat:Int))=⟨l.toArray⟩:=by
 unfold strOfNums
 congr 1
 simp [Function.comp_def]
theorem o7 {w:wD} {B n:Nat} {v:vL} {l:bS} (h:w.ownsRow B 5 1 v n (Ro l)):(convert 173 9 v).run prog w = .ok (.string ⟨l.toArray⟩) w:=by
 have j:l.length=n:=by
  have:=h.1;rw [oE] at this;omega
 rw [<- zjd]
 rcases h.2 with⟨rfl,h0⟩ | ⟨g,cap,cur,rfl,_⟩
 ·have:l=[]:=List.eq_nil_of_length_eq_zero (by omega)
  rw [this];exact run_convert_bytes_nil w 173 5 underlying173 underlying5 0 0 9 underlying9
 ·refine run_convert_bytes_arg w 173 5 underlying173 underlying5 g 0 n cap _ (by simpa using j) ?_ 9 underlying9
  intro i hi;have:=h.cells (g:=g) rfl i (.int .u8 ((l.map fun b=>(b.toNat:Int)).getD i 0)) (by simp [Ro,List.getD,show i<l.length by omega])
  have z:(aP g 0).add i=(aP g (0+i)):=by unfold Addr.add; split <;> simp_all
  rw [z] at this;exact this
theorem vP (W:wD) (x:Int) (t:TypeId):∀ j u,[Value.int .u8 x][j]?=some u->(W.alloc (.cells #[.int .u8 x] t)).cell? ((aP W.heap.size 0).add j)=some u:=by
 intro j u h
 match j,h with
 | 0,h =>
  simp at h;subst h;simp [Addr.add]
theorem wB (x:Int):∀ u ∈ [Value.int .u8 x],u.oneCell'=true:=by
 intro u h
 simp at h
 subst h
 rfl
theorem zcf:(prog.info? 5).map (fun i=>(i.zero,i.size,i.bytes))=some (some (.int .u8 0),1,1):=by kernel_rfl
end Go.Proofs.YtoppemkjhhlegaaGreatDoor.Lx
/- The contracts of Go's library that this seat uses, laid at its dump: each is one application of the shelf's theorem. -/
namespace Go.Proofs
open Go.Proofs.Tryz
open Go.Shelf Go.RowKit Go.Lib
def lays137_ren:Go.Shelf.Ren:=⟨fun | 137=>121 | 217=>127 | 266=>134 | n=>n,fun | 9=>9 | 5=>5 | 3=>3 | n=>n,fun | n=>n⟩
theorem lays137:Go.Proofs.Lays.n137 prog lays137_ren:={
  mixed:=by kernel_rfl
  f137:=func121.trans (congrArg some (by kernel_rfl))
  f217:=func127.trans (congrArg some (by kernel_rfl))
  f266:=func134.trans (congrArg some (by kernel_rfl))
  t3:=underlying3
  a3:=isAgg3
  z3:=sizeOf3
  v3:=zeroValue3
  t5:=underlying5
  a5:=isAgg5
  z5:=sizeOf5
  v5:=zeroValue5
  t9:=underlying9
  a9:=isAgg9
  z9:=sizeOf9
  v9:=zeroValue9 }
theorem strings_IndexByte (s:ByteArray) (c:Int) (w:World) :
    Calls prog 121 #[.string s,.int .u8 c] w fun e w'=>e = .returned (.int .i64 (Lib.indexByte s.data.toList c.toNat.toUInt8))/\w'=w:=Any.strings_IndexByte lays137 s c w
end Go.Proofs
