/- Part. -/
import Derived.OwnWalk
import Derived.Test.YtoppemkjhhlegaaGreatDoorPart2
set_option maxRecDepth 100000
set_option maxHeartbeats 4000000
namespace Go.Proofs.YtoppemkjhhlegaaGreatDoor
open Go.Proofs.Tryz
open Go.RowKit
abbrev SB (r:List Bool) (k:Nat):Prop:=r.getD k false=true
abbrev E7 (dir:List (List Bool)) (a k:Nat):Prop:=(dir.getD a Vh).getD k false=true
def Cz (E:Nat->Nat->Prop) (C:Nat->Prop):Prop:=∀ k j,C k->E k j->C j
def tN (E:Nat->Nat->Prop) (s:Nat) (T:Nat->Prop):Prop:=T s/\Cz E T/\∀ C:Nat->Prop,Cz E C->C s->∀ k,T k->C k
theorem zcn {E:Nat->Nat->Prop} {s:Nat} {T U:Nat->Prop} (h:tN E s T) (j:tN E s U) (k:Nat):T k↔U k :=
 ⟨h.2.2 U j.2.1 j.1 k,j.2.2 T h.2.1 h.1 k⟩
def Oj (r:List Bool):Nat:=(List.range 16).countP fun k=>!r.getD k false
theorem mQ {α:Type} {p q:α->Bool}:∀ (l:List α),(∀ x ∈ l,p x=true->q x=true)->(∃ x ∈ l,q x=true/\p x=false)->l.countP p<l.countP q
 | [],_,h=>by obtain⟨x,j,_⟩:=h; cases j
 | y :: l,h1,h2=>by
  have hm:=List.countP_mono_left (l:=l) (p:=p) (q:=q) fun x j=>h1 x (by simp [j])
  obtain⟨x,j,A,z⟩:=h2;rw [List.countP_cons,List.countP_cons];rcases List.mem_cons.1 j with rfl | j
  ·rw [A,z]
   simp;omega
  ·have ih:=mQ l (fun x j=>h1 x (by simp [j])) ⟨x,j,A,z⟩
   have C:=h1 y (by simp)
   cases hpy:p y with
   | false=>cases hqy:q y <;> simp <;> omega
   | true=>rw [C hpy]; simp; omega
theorem zkh {r j:List Bool} (h:∀ k,SB r k->SB j k):Oj j<=Oj r:=by
 unfold Oj
 refine List.countP_mono_left fun k _ z=>?_
 cases e:r.getD k false with
 | false=>rfl
 | true=>rw [h k e] at z; cases z
theorem zkj {r:List Bool} {a:Nat} (hl:r.length=16) (ha:a<16) (j:r.getD a false=false):Oj (r.set a true)<Oj r:=by
 unfold Oj
 refine mQ _ (fun k _ h=>?_) ⟨a,by simpa using ha,by rw [j]; rfl,?_⟩
 ·simp only [List.getD_eq_getElem?_getD] at h ⊢
  by_cases e:a=k
  ·subst e
   rw [List.getElem?_set_self (by omega)] at h;cases h
  ·rw [List.getElem?_set_ne e] at h
   exact h
 ·simp only [List.getD_eq_getElem?_getD]
  rw [List.getElem?_set_self (by omega)];rfl
theorem set_SB {r:List Bool} {a k:Nat} (hl:r.length=16) (ha:a<16):SB (r.set a true) k↔k=a∨SB r k:=by
 unfold SB
 simp only [List.getD_eq_getElem?_getD]
 by_cases e:a=k
 ·subst e
  rw [List.getElem?_set_self (by omega)];simp
 ·rw [List.getElem?_set_ne e]
  constructor
  ·exact .inr
  ·rintro(rfl | h)
   ·exact absurd rfl e
   ·exact h
def Vis (dir:List (List Bool)) (a:Nat) (r r':List Bool):Prop :=
 r'.length=16/\(∀ k,SB r k->SB r' k)/\SB r' a/\(∀ k,SB r' k->¬ SB r k->∀ j,j<16->E7 dir k j->SB r' j)/\∀ C:Nat->Prop,Cz (fun k j=>j<16/\E7 dir k j) C->C a->∀ k,SB r' k->SB r k∨C k
theorem cC (z:List (List Bool)):∀ (f a:Nat) (r:List Bool),r.length=16->a<16->Oj r<f->Vis z a r (Ka z f a r)
 | 0,_,_,_,_,h=>absurd h (Nat.not_lt_zero _)
 | f+1,a,r,hl,ha,hf=>by
  unfold Ka;by_cases Z:r.getD a false=true
  ·rw [if_pos Z]
   exact⟨hl,fun _ h=>h,Z,fun k I H=>absurd I H,fun C _ _ k h => .inl h⟩
  ·have hr':r.getD a false=false:=by simpa using Z
   rw [if_neg Z];have hu:=zkj hl ha hr'
   -- what holds behind the first m of them
   have key:∀ (m:Nat),m<=16->∃ q,q=(List.range m).foldl (fun r k=>if (z.getD a Vh).getD k false then Ka z f k r else r) (r.set a true)/\q.length=16/\(∀ k,SB (r.set a true) k->SB q k)/\(∀ k,SB q k->¬ SB (r.set a true) k->∀ j,j<16->E7 z k j->SB q j)/\(∀ j,j<m->E7 z a j->SB q j)/\∀ C:Nat->Prop,Cz (fun k j=>j<16/\E7 z k j) C->C a->∀ k,SB q k->SB (r.set a true) k∨C k:=by
    intro m
    induction m with
    | zero=>exact fun _=>⟨_,rfl,by simpa using hl,fun _ h=>h,fun k I H=>absurd I H,fun j h=>absurd h (Nat.not_lt_zero _),fun C _ _ k h => .inl h⟩
    | succ m ih =>
     intro hm;obtain⟨q,hq,I,H,h3,h4,h5⟩:=ih (by omega);rw [List.range_succ,List.foldl_append,<- hq];show ∃ q',q'=(if (z.getD a Vh).getD m false then Ka z f m q else q)/\_;by_cases N:(z.getD a Vh).getD m false=true
     ·rw [if_pos N]
      obtain⟨v1,v2,v3,v4,v5⟩:=cC z f m q I (by omega) (by have:=zkh H; omega);refine⟨_,rfl,v1,fun k F=>v2 k (H k F),fun k F hn j M J=>?_,fun j M J=>?_,fun C V A k F=>?_⟩
      ·by_cases Y:SB q k
       ·exact v2 j (h3 k Y hn j M J)
       ·exact v4 k F Y j M J
      ·by_cases O:j=m
       ·subst O; exact v3
       ·exact v2 j (h4 j (by omega) J)
      ·rcases v5 C V (V a m A ⟨by omega,N⟩) k F with h | h
       ·exact h5 C V A k h
       ·exact .inr h
     ·rw [if_neg N]
      refine⟨q,rfl,I,H,h3,fun j M J=>?_,h5⟩;by_cases O:j=m
      ·subst O; exact absurd J N
      ·exact h4 j (by omega) J
   obtain⟨q,hq,I,H,h3,h4,h5⟩:=key 16 (xR);rw [<- hq]
   have sa:=fun k=>set_SB (r:=r) (a:=a) (k:=k) hl ha
   refine⟨I,fun k F=>H k ((sa k).2 (.inr F)),H a ((sa a).2 (.inl rfl)),fun k F hn j M N=>?_,fun C V A k F=>?_⟩
   ·by_cases T:k=a
    ·subst T; exact h4 j M N
    ·exact h3 k F (fun h=>((sa k).1 h).elim T hn) j M N
   ·rcases h5 C V A k F with h | h
    ·rcases(sa k).1 h with rfl | h
     ·exact .inr A
     ·exact .inl h
    ·exact .inr h
theorem zki:Oj Vh<17:=by decide
theorem pF (k:Nat):¬ SB Vh k:=by
 unfold SB Vh
 simp only [List.getD_eq_getElem?_getD]
 intro h
 by_cases j:k<16
 ·rw [List.getElem?_replicate,if_pos j] at h; cases h
 ·rw [List.getElem?_replicate,if_neg j] at h; cases h
theorem zkv (z:List (List Bool)) {a:Nat} (ha:a<16):tN (fun k j=>j<16/\E7 z k j) a (SB (Ka z 17 a Vh)):=by
 obtain⟨_,_,I,M,J⟩:=cC z 17 a Vh rfl ha zki
 refine⟨I,fun k j F H=>M k F (pF k) j H.1 H.2,fun C N A k F=>?_⟩
 rcases J C N A k F with h | h
 ·exact absurd h (pF k)
 ·exact h
def Gi (md:Bs->Option Nat) (i:Nat):List Vx->List Bool->List Bool
 | [],s=>s
 | x :: l,s=>if s.getD i false then Gi md i l (match md x.fr with | some m=>s.set m true | none=>s)else s
def Ld (md:Bs->Option Nat):Nat->List Mo->List Bool->List Bool
 | _,[],s=>s
 | i,o :: l,s=>Ld md (i+1) l (Gi md i o.is s)
def Gn (md:Bs->Option Nat) (mods:List Mo):Nat->List Bool->List Bool
 | 0,s=>s
 | n+1,s=>Gn md mods n (Ld md 0 mods s)
def Cr (md:Bs->Option Nat) (mods:List Mo) (a:Nat):List Bool:=Gn md mods mods.length ((List.replicate mods.length false).set a true)
def Ck (md:Bs->Option Nat) (mods:List Mo) (k j:Nat):Prop:=∃ o,mods[k]?=some o/\∃ x ∈ o.is,md x.fr=some j
theorem uS {r:List Bool} {a k:Nat} (ha:a<r.length):SB (r.set a true) k↔k=a∨SB r k:=by
 unfold SB
 simp only [List.getD_eq_getElem?_getD]
 by_cases e:a=k
 ·subst e
  rw [List.getElem?_set_self ha];simp
 ·rw [List.getElem?_set_ne e]
  constructor
  ·exact .inr
  ·rintro(rfl | h)
   ·exact absurd rfl e
   ·exact h
section
variable {md : Bs -> Option Nat} {n : Nat}
theorem gJ (hm:∀ s m,md s=some m->m<n) {i:Nat}:∀ (l:List Vx) (s:List Bool),s.length=n ->
  (Gi md i l s).length=n/\(∀ k,SB s k->SB (Gi md i l s) k)/\(SB s i->∀ x ∈ l,∀ j,md x.fr=some j->SB (Gi md i l s) j) /\
  ∀ C:Nat->Prop,(∀ k,SB s k->C k)->(C i->∀ x ∈ l,∀ j,md x.fr=some j->C j)->∀ k,SB (Gi md i l s) k->C k
 | [],s,hl=>⟨hl,fun _ h=>h,fun _ x h=>(by cases h),fun C h _ k z=>h k z⟩
 | x :: l,s,hl=>by
  unfold Gi;by_cases F:s.getD i false=true
  ·rw [if_pos F]
   obtain⟨s',U7⟩:=xE ((match md x.fr with | some m=>s.set m true | none=>s));rw [<- U7]
   have J:s'.length=n:=by
    rw [U7]
    cases md x.fr with
    | none=>exact hl
    | some m=>simpa using hl
   have H:∀ k,SB s k->SB s' k:=by
    intro k z;rw [U7]
    cases e:md x.fr with
    | none=>exact z
    | some m=>exact(uS (by rw [hl]; exact hm _ _ e)).2 (.inr z)
   obtain⟨V,T,Y,Z⟩:=gJ hm l s' J;refine⟨V,fun k z=>T k (H k z),fun _ y A j I=>?_,fun C M O=>Z C (fun k z=>?_) fun N y A j I=>O N y (by simp [A]) j I⟩
   ·rcases List.mem_cons.1 A with rfl | A
    ·refine T j ?_
     rw [U7,I];exact(uS (by rw [hl]; exact hm _ _ I)).2 (.inl rfl)
    ·exact Y (H i F) y A j I
   ·rw [U7] at z
    cases e:md x.fr with
    | none=>rw [e] at z; exact M k z
    | some m =>
     rw [e] at z;rcases(uS (by rw [hl]; exact hm _ _ e)).1 z with rfl | z
     ·exact O (M i F) x (by simp) k e
     ·exact M k z
  ·rw [if_neg F]
   exact⟨hl,fun _ h=>h,fun h=>absurd h F,fun C h _ k z=>h k z⟩
theorem s7 (hm:∀ s m,md s=some m->m<n):∀ (l:List Mo) (i:Nat) (s:List Bool),s.length=n ->
  (Ld md i l s).length=n/\(∀ k,SB s k->SB (Ld md i l s) k)/\(∀ k o,l[k]?=some o->SB s (i+k)->∀ x ∈ o.is,∀ j,md x.fr=some j->SB (Ld md i l s) j) /\
  ∀ C:Nat->Prop,(∀ k,SB s k->C k)->(∀ k o,l[k]?=some o->C (i+k)->∀ x ∈ o.is,∀ j,md x.fr=some j->C j)->∀ k,SB (Ld md i l s) k->C k
 | [],i,s,hl=>⟨hl,fun _ h=>h,fun k o h=>(by simp at h),fun C h _ k z=>h k z⟩
 | o :: l,i,s,hl=>by
  obtain⟨T,I,O,g4⟩:=gJ hm (i:=i) o.is s hl;obtain⟨N,M,V,Y⟩:=s7 hm l (i+1) _ T;refine⟨N,fun k z=>M k (I k z),fun k o' ho z x F j A=>?_,fun C Z J=>Y C (g4 C Z fun H x F j A=>J 0 o rfl H x F j A) fun k o' ho hCk=>J (k+1) o' (by simpa using ho) (by rwa [show i+1+k=i+(k+1) by omega] at hCk)⟩
  cases k with
  | zero =>
   have e:o=o':=by simpa using ho
   subst e;exact M j (O z x F j A)
  | succ k=>exact V k o' (by simpa using ho) (by rw [show i+1+k=i+(k+1) by omega]; exact I _ z) x F j A
end
section
variable {md : Bs -> Option Nat} {mods : List Mo}
theorem s8 (hm:∀ s m,md s=some m->m<mods.length) {s:List Bool} (V:s.length=mods.length):(Ld md 0 mods s).length=mods.length/\(∀ k,SB s k->SB (Ld md 0 mods s) k)/\(∀ k j,SB s k->Ck md mods k j->SB (Ld md 0 mods s) j)/\∀ C:Nat->Prop,Cz (Ck md mods) C->(∀ k,SB s k->C k)->∀ k,SB (Ld md 0 mods s) k->C k:=by
 obtain⟨H,Y,J,O⟩:=s7 hm mods 0 s V
 refine⟨H,Y,fun k j I M=>?_,fun C T N=>O C N fun k o h A x z j F=>T k j (by simpa using A) ⟨o,h,x,z,F⟩⟩
 obtain⟨o,h,x,z,F⟩:=M
 exact J k o h (by simpa using I) x z j F
theorem pM (hm:∀ s m,md s=some m->m<mods.length) {C:Nat->Prop} (j:Cz (Ck md mods) C):∀ (m:Nat) (s:List Bool),s.length=mods.length->(∀ k,SB s k->C k)->(∀ k,SB s k->SB (Gn md mods m s) k)/\∀ k,SB (Gn md mods m s) k->C k
 | 0,_,_,h=>⟨fun _ h=>h,h⟩
 | m+1,s,hl,h=>by
  obtain⟨A,H,_,F⟩:=s8 hm hl;obtain⟨I,z⟩:=pM hm j m _ A (F C j h);exact⟨fun k J=>I k (H k J),z⟩
theorem s9 (hm:∀ s m,md s=some m->m<mods.length):∀ (m:Nat) (s:List Bool),s.length=mods.length->((List.range mods.length).countP fun k=>!s.getD k false)<=m->Cz (Ck md mods) (SB (Gn md mods m s))
 | 0,s,hl,hc=>by
  intro k j _ A;obtain⟨o,ho,x,hx,hj⟩:=A;have Y:=hm _ _ hj
  have H:((List.range mods.length).countP fun k=>!s.getD k false)=0:=by omega
  rw [List.countP_eq_zero] at H;have:=H j (by simpa using Y);show s.getD j false=true
  simpa using this
 | m+1,s,hl,hc=>by
  obtain⟨J,Z,T,h4⟩:=s8 hm hl;by_cases F:∀ k,SB (Ld md 0 mods s) k->SB s k
  ·have I:Cz (Ck md mods) (SB s):=fun k j z A=>F j (T k j z A)
   obtain⟨N,O⟩:=pM hm I (m+1) s hl fun _ h=>h
   exact fun k j z A=>N j (I k j (O k z) A)
  ·refine s9 hm m _ J ?_
   have:((List.range mods.length).countP fun k=>!(Ld md 0 mods s).getD k false)<((List.range mods.length).countP fun k=>!s.getD k false):=by
    refine mQ _ (fun k _ z=>?_) ?_
    ·cases e:s.getD k false with
     | false=>rfl
     | true=>rw [Z k e] at z; cases z
    ·have M:∃ k,SB (Ld md 0 mods s) k/\¬ SB s k:=by
      refine Classical.byContradiction fun C=>F fun k z=>Classical.byContradiction fun h=>C ⟨k,z,h⟩
     obtain⟨k,z,C⟩:=M
     have V:k<mods.length:=by
      refine Classical.byContradiction fun h=>?_
      unfold SB at z;rw [List.getD_eq_getElem?_getD,List.getElem?_eq_none (by omega)] at z;cases z
     refine⟨k,by simpa using V,?_,?_⟩
     ·have:s.getD k false=false:=by simpa using C
      rw [this]; rfl
     ·rw [z]; rfl
   omega
theorem zgm (hm:∀ s m,md s=some m->m<mods.length) {a:Nat} (ha:a<mods.length):tN (Ck md mods) a (SB (Cr md mods a)):=by
 have j:((List.replicate mods.length false).set a true).length=mods.length:=by simp
 have A:∀ k,SB ((List.replicate mods.length false).set a true) k↔k=a:=fun k=>by
  rw [uS (by simpa using ha)]
  constructor
  ·rintro(h | h)
   ·exact h
   ·unfold SB at h
    rw [List.getD_eq_getElem?_getD,List.getElem?_replicate] at h
    split at h <;> cases h
  ·exact .inl
 unfold Cr
 refine⟨?_,s9 hm _ _ j ?_,fun C F z=>(pM hm F _ _ j fun k H=>by rw [(A k).1 H]; exact z).2⟩
 ·exact(pM hm (C:=fun _=>True) (fun _ _ _ _=>trivial) _ _ j fun _ _=>trivial).1 a ((A a).2 rfl)
 ·exact Nat.le_trans List.countP_le_length (by simp)
end
abbrev V6 (names:List Bs) (s:Bs):Option Nat:=names.findIdx? (· == s)
abbrev K6 (ds:List Tz) (s:Bs):Option Nat:=ds.findIdx? (·.nm == s)
theorem zaf (d:Tz) (l:List Tz) (n:Bs):K6 (d :: l) n=if (d.nm == n)=true then some 0 else(K6 l n).map (·+1):=List.findIdx?_cons
theorem fX (n:Bs):∀ (l:List Tz) (i:Nat) (a:Wo),Yp (Kg i l a) n=(Yp a n).or ((K6 l n).map (·+i))
 | [],i,a=>by simp [Kg]
 | d :: l,i,a=>by
  unfold Kg;rw [fX n l (i+1) _,zaf];by_cases j:(d.nm == n)=true
  ·rw [if_pos j]
   have e:d.nm=n:=by simpa using j
   cases ha:Yp a d.nm with
   | some k =>
    simp only;rw [<- e,ha];rfl
   | none =>
    simp only;rw [<- e] at *;rw [ha];simp [Yp]
  ·rw [if_neg j]
   have h:(Yp a n).or (Option.map (·+(i+1)) (K6 l n))=(Yp a n).or (Option.map (·+i) (Option.map (·+1) (K6 l n))):=by
    cases Yp a n with
    | some k=>rfl
    | none =>
     simp only [Option.none_or]
     cases K6 l n with
     | none=>rfl
     | some k=>simp; omega
   cases Yp a d.nm with
   | some k=>exact h
   | none =>
    show(Yp ((d.nm,i) :: a) n).or _=_;rw [show Yp ((d.nm,i) :: a) n=Yp a n from if_neg j];exact h
theorem nJ (o:Mo) (n:Bs):Yp (Mt o) n=K6 o.ds n:=by
 unfold Mt
 rw [fX]
 cases K6 o.ds n <;> simp [Yp]
structure R1 where
 names:List Bs
 mods:List Mo
 ds:List Dg
def L6 (tx:Bs):Mo:=match P2 tx with | .inl D=>Ea D | .inr _=>Jh
def G2 (m:Nat) (names:List Bs) (nm tx:Bs):List Dg :=
 if Gj nm=false then [⟨m,1,1,10⟩]
 else match V6 names nm with
 | some _=>[⟨m,1,1,8⟩]
 | none=>match P2 tx with
  | .inr (e,li,co)=>[⟨m,li,co,e⟩]
  | .inl _=>[]
def K9:Nat->List (Bs×Bs)->R1->R1
 | _,[],s=>s
 | m,x :: l,s=>K9 (m+1) l ⟨s.names ++ [x.1],s.mods ++ [L6 x.2],s.ds ++ G2 m s.names x.1 x.2⟩
structure FR (m:Nat) (s:L1) (r:R1):Prop where
 ds:s.ds=r.ds
 nl:r.names.length=m
 lk:∀ q,Gj q=true->(Yp s.num q=none↔V6 r.names q=none)
 ok:s.ds=[]->s.names=r.names/\s.mods=r.mods/\∀ q,Yp s.num q=V6 r.names q
theorem qU (j:List Bs) (a q:Bs):V6 (j ++ [a]) q=(V6 j q).or (if (a == q)=true then some j.length else none):=by
 unfold V6
 rw [List.findIdx?_append,List.findIdx?_cons]
 cases h:(a == q) <;> simp
theorem fW (a:Bs) (m:Nat) (num:Wo) (q:Bs):Yp ((a,m) :: num) q=if (a == q)=true then some m else Yp num q:=rfl
theorem zbb {m:Nat} {s:L1} {r:R1} (h:FR m s r) (a b:Bs):FR (m+1) (Tx m a b s) ⟨r.names ++ [a],r.mods ++ [L6 b],r.ds ++ G2 m r.names a b⟩:=by
 have F:(r.names ++ [a]).length=m+1:=by simp [h.nl]
 unfold Tx G2 L6
 by_cases A:Gj a=false
 ·rw [if_pos A,if_pos A]
  refine⟨by rw [h.ds],F,fun q j=>?_,fun e=>by simp at e⟩
  have O:(a == q)=false:=by
   by_cases e:a=q
   ·subst e; rw [A] at j; cases j
   ·simpa using e
  rw [qU,O];show Yp s.num q=none↔_;rw [h.lk q j];simp
 ·rw [if_neg A,if_neg A]
  have H:Gj a=true:=by simpa using A
  have z:=h.lk a H
  cases e1:Yp s.num a with
  | some k =>
   cases C:V6 r.names a with
   | none=>rw [e1,C] at z; simp at z
   | some k2 =>
    refine⟨by simp only; rw [h.ds],F,fun q j=>?_,fun e=>by simp at e⟩;show Yp s.num q=none↔_;rw [qU,h.lk q j];by_cases e:a=q
    ·subst e; rw [C]; simp
    ·have:(a == q)=false:=by simpa using e
     rw [this]; simp
  | none =>
   have C:V6 r.names a=none:=z.1 e1;rw [C];simp only
   have I:∀ q,Gj q=true->(Yp ((a,m) :: s.num) q=none↔V6 (r.names ++ [a]) q=none):=fun q j=>by
    rw [fW,qU];by_cases e:(a == q)=true
    ·rw [if_pos e,if_pos e]; simp
    ·rw [if_neg e,if_neg e,h.lk q j]; simp
   cases P2 b with
   | inr p=>exact⟨by simp only; rw [h.ds],F,I,fun e=>by simp at e⟩
   | inl D =>
    refine⟨by simp only [List.append_nil]; exact h.ds,F,I,fun e=>?_⟩;obtain⟨N,J,M⟩:=h.ok e;refine⟨by simp only; rw [N],by simp only; rw [J],fun q=>?_⟩;show Yp ((a,m) :: s.num) q=V6 (r.names ++ [a]) q;rw [fW,qU,<- M q];by_cases e':(a == q)=true
    ·have:a=q:=by simpa using e'
     subst this;rw [if_pos e',if_pos e',e1,h.nl];rfl
    ·rw [if_neg e',if_neg e']
     cases Yp s.num q <;> rfl
theorem jY:∀ (l:List (Bs×Bs)) (m:Nat) (s:L1) (r:R1),FR m s r->FR (m+l.length) (Q5 m l s) (K9 m l r)
 | [],_,_,_,h=>h
 | x :: l,m,s,r,h=>by
  have:=jY l (m+1) _ _ (zbb h x.1 x.2);rw [show m+(x :: l).length=m+1+l.length by simp; omega];exact this
theorem zaz (l:List (Bs×Bs)):FR l.length (Q5 0 l ⟨[],[],[],[]⟩) (K9 0 l ⟨[],[],[]⟩):=by
 have:=jY l 0 ⟨[],[],[],[]⟩ ⟨[],[],[]⟩ ⟨rfl,rfl,fun _ _=>by simp [Yp],fun _=>⟨rfl,rfl,fun _=>by simp [Yp]⟩⟩
 rwa [Nat.zero_add] at this
theorem zel (o:Mo) (f m li co:Nat) (n:Bs) (es:List En) (ds:List Dg):Lb o f m li co n (es,ds)=((Lb o f m li co n (es,[])).1,ds ++ (Lb o f m li co n (es,[])).2):=by
 unfold Lb
 split
 ·simp
 ·split
  ·simp
  ·split <;> simp
theorem nU (o:Mo) (f m li co:Nat):∀ (l:List Bs) (es:List En) (ds:List Dg),Pj o f m li co l (es,ds)=((Pj o f m li co l (es,[])).1,ds ++ (Pj o f m li co l (es,[])).2)
 | [],es,ds=>by simp [Pj]
 | n :: l,es,ds=>by
  unfold Pj;rw [zel];obtain⟨p,j⟩:=xE (Lb o f m li co n (es,[]));rw [<- j];have h:=nU o f m li co l p.1 (ds ++ p.2);have z:=nU o f m li co l p.1 p.2;rw [h,show p=(p.1,p.2) from rfl,z];simp
theorem zbu (num:Wo) (mods:List Mo) (m:Nat) (i:Vx) (es:List En) (ds:List Dg):J5 num mods m i (es,ds)=((J5 num mods m i (es,[])).1,ds ++ (J5 num mods m i (es,[])).2):=by
 unfold J5
 split
 ·simp
 ·exact nU _ _ _ _ _ _ _ _
theorem qN {num:Wo} {n:Nat} (hv:∀ p ∈ num,p.2<n) {s:Bs} {m:Nat} (h:Yp num s=some m):m<n:=by
 induction num with
 | nil=>cases h
 | cons p num ih =>
  unfold Yp at h
  split at h
  ·injection h with h
   rw [<- h];exact hv p (by simp)
  ·exact ih (fun q j=>hv q (by simp [j])) h
theorem kY {num:Wo} (hv:∀ p ∈ num,p.2<16) {j:Nat}:∀ (l:List Vx) (r:List Bool),r.length=16->(∀ x ∈ l,∃ f,Yp num x.fr=some f)->(SB (Hy num l r) j↔SB r j∨∃ x ∈ l,Yp num x.fr=some j)
 | [],r,_,_=>by simp [Hy]
 | i :: l,r,hl,ha=>by
  obtain⟨f,A⟩:=ha i (by simp);have hf16:f<16:=qN hv A;unfold Hy;rw [show Fl num i.fr=f by unfold Fl; rw [A]; rfl];rw [kY hv l _ (by rw [List.length_set]; exact hl) (fun x z=>ha x (by simp [z])),uS (by omega)]
  constructor
  ·rintro((rfl | h) | ⟨x,z,h⟩)
   ·exact .inr ⟨i,by simp,A⟩
   ·exact .inl h
   ·exact .inr ⟨x,by simp [z],h⟩
  ·rintro(h | ⟨x,z,h⟩)
   ·exact .inl (.inr h)
   ·rcases List.mem_cons.1 z with rfl | z
    ·rw [A] at h
     injection h with h;exact .inl (.inl h.symm)
    ·exact .inr ⟨x,z,h⟩
section
variable {num : Wo} {mods : List Mo}
theorem zam (hv:∀ p ∈ num,p.2<mods.length) (hm:mods.length<=16) (ha:∀ o ∈ mods,∀ x ∈ o.is,∃ f,Yp num x.fr=some f) (k j:Nat):(j<16/\E7 (Pu num mods) k j)↔Ck (Yp num) mods k j:=by
 have z:∀ p ∈ num,p.2<16:=fun p H=>by have:=hv p H; omega
 have e:(Pu num mods).getD k Vh=match mods[k]? with | some o=>Hy num o.is Vh | none=>Vh:=by
  unfold Pu;rw [List.getD_eq_getElem?_getD,List.getElem?_map]
  cases mods[k]? <;> rfl
 unfold E7 Ck
 rw [e]
 cases ho:mods[k]? with
 | none =>
  simp only
  constructor
  ·rintro⟨_,h⟩
   exact absurd h (pF j)
  ·rintro⟨o,h,_⟩
   cases h
 | some o =>
  simp only;have F:o ∈ mods:=List.mem_of_getElem? ho;have C:=kY z (j:=j) o.is Vh rfl (ha o F)
  constructor
  ·rintro⟨_,h⟩
   rcases C.1 h with h | ⟨x,A,h⟩
   ·exact absurd h (pF j)
   ·exact⟨o,rfl,x,A,h⟩
  ·rintro⟨o',h,x,A,hj⟩
   injection h with h;subst h;exact⟨qN z hj,C.2 (.inr ⟨x,A,hj⟩)⟩
theorem zgo (hv:∀ p ∈ num,p.2<mods.length) (hm:mods.length<=16) (ha:∀ o ∈ mods,∀ x ∈ o.is,∃ f,Yp num x.fr=some f) {a:Nat} (C:a<mods.length) (t:Nat):((Ai (Pu num mods)).getD a Vh).getD t false=(Cr (Yp num) mods a).getD t false:=by
 have hlen:(Pu num mods).length=mods.length:=by unfold Pu; rw [List.length_map]
 have e:(Ai (Pu num mods)).getD a Vh=Ka (Pu num mods) 17 a Vh:=by
  unfold Ai;rw [List.getD_eq_getElem?_getD,List.getElem?_map,List.getElem?_range (by omega)];rfl
 rw [e]
 have A:(fun k j=>j<16/\E7 (Pu num mods) k j)=Ck (Yp num) mods:=funext fun k=>funext fun j=>propext (zam hv hm ha k j)
 have z:=zkv (Pu num mods) (a:=a) (by omega)
 rw [A] at z
 have F:=zgm (md:=Yp num) (mods:=mods) (fun s m h=>qN hv h) C
 have:=zcn z F t
 unfold SB at this
 cases e1:(Ka (Pu num mods) 17 a Vh).getD t false with
 | true=>exact(this.1 e1).symm
 | false =>
  cases e2:(Cr (Yp num) mods a).getD t false with
  | true=>rw [this.2 e2] at e1; cases e1
  | false=>rfl
end
def O9 (md:Bs->Option Nat) (mods:List Mo) (m:Nat):List Vx->List Dg->List Dg
 | [],ds=>ds
 | i :: l,ds=>O9 md mods m l (match md i.fr with | some f=>if (Cr md mods f).getD m false then ds ++ [⟨m,i.li,i.co,13⟩] else ds | none=>ds)
def G5 (md:Bs->Option Nat) (mods:List Mo):Nat->List Mo->List Dg->List Dg
 | _,[],ds=>ds
 | m,o :: l,ds=>G5 md mods (m+1) l (O9 md mods m o.is ds)
section
variable {num : Wo} {mods : List Mo}
theorem kE (hv:∀ p ∈ num,p.2<mods.length) (hm:mods.length<=16) (ha:∀ o ∈ mods,∀ x ∈ o.is,∃ f,Yp num x.fr=some f) {m:Nat}:∀ (l:List Vx) (ds:List Dg),(∀ x ∈ l,∃ f,Yp num x.fr=some f)->O9 (Yp num) mods m l ds=Aw num (Ai (Pu num mods)) m l ds
 | [],_,_=>rfl
 | i :: l,ds,h=>by
  obtain⟨f,j⟩:=h i (by simp);unfold O9 Aw;rw [show Fl num i.fr=f by unfold Fl; rw [j]; rfl,j,zgo hv hm ha (qN hv j) m]
  exact kE hv hm ha l _ fun x z=>h x (by simp [z])
theorem kG (hv:∀ p ∈ num,p.2<mods.length) (hm:mods.length<=16) (ha:∀ o ∈ mods,∀ x ∈ o.is,∃ f,Yp num x.fr=some f):∀ (l:List Mo) (m:Nat) (ds:List Dg),(∀ o ∈ l,∀ x ∈ o.is,∃ f,Yp num x.fr=some f)->G5 (Yp num) mods m l ds=G6 num (Ai (Pu num mods)) m l ds
 | [],_,_,_=>rfl
 | o :: l,m,ds,h=>by
  unfold G5 G6;rw [kE hv hm ha _ _ (h o (by simp))]
  exact kG hv hm ha l _ _ fun p j=>h p (by simp [j])
end
def Rl (w:wD) (a:oA) (l:List Bs):Prop:=∀ i (_:i<l.length),∃ g,a=some (aP g 0)/\g<w.heap.size/\w.cell? (aP g i)=some (.string ⟨l[i].toArray⟩)
def B9:Option Nat->Int
 | some k=>k
 | none => -1
theorem mO (a b:bA):(a.toList == b.toList)=(a.data.toList == b.data.toList):=by rw [Go.ByteArray.toList_eq,Go.ByteArray.toList_eq]
theorem uF (a:oA) (cap:Nat) (z:List Bs) (S:bA) (w:wD) (h:Rl w a z) (hl:(z.length:Int)<=9223372036854775807) :
  Calls prog 19 #[.slice a z.length cap,.string S] w fun e w'=>e = .returned (iP (B9 (V6 z S.data.toList)))/\w'=w:=by
 have HS:=Za h
 obtain⟨R,N⟩:=xE (B9 (V6 z S.data.toList))
 rw [<- N]
 have J:=Za N
 clear h N
 go_enter func19,ntmps19
 go_wp2_with fail
 go_loopw [5] (fun i wr=>∃ j:Nat,j<=z.length/\i=iP j/\xQ (wr=w)/\xQ (∀ k (C:k<z.length),k<j->(z[k] == S.data.toList)=false)) (fun i _=>z.length - (intOf i).toNat)
 case atStart=>exact⟨0,xZ _,rfl,rfl,fun k _ h=>absurd h (Nat.not_lt_zero _)⟩
 case round =>
  obtain⟨j,hj,rfl,O,M⟩:=hrel;have hw:=O.o;subst hw;clear O;by_cases T:j<z.length
  ·have Y:(j:Int)<(z.length:Int):=by omega
   obtain⟨g,rfl,hg,Z⟩:=HS.o j T
   obtain⟨I,H⟩:∃ I:ByteArray,I=⟨z[j].toArray⟩:=⟨_,rfl⟩
   rw [<- H] at Z
   have F:(I.toList == S.toList)=(z[j] == S.data.toList):=by rw [mO,H]
   cases Bh:(z[j] == S.data.toList)with
   | true =>
    rw [Bh] at F
    have A:R=(j:Int):=by
     rw [J.o];have:V6 z S.data.toList=some j:=List.findIdx?_eq_some_iff_getElem.2 ⟨T,Bh,fun k C=>by rw [M.o k (by omega) C]; simp⟩;rw [this];rfl
    subst A;clear H Bh J;go_wp2_with fail;go_ret;exact⟨rfl,rfl⟩
   | false =>
    rw [Bh] at F;have V:=Za Bh;clear H Bh;go_wp2_with fail
    exact⟨⟨j+1,by omega,by go_num,True.intro,fun k C hkj=>by
     by_cases e:k=j
     ·subst e; exact V.o
     ·exact M.o k C (by omega)⟩,by simp [intOf]; omega⟩
  ·have Y:¬ (j:Int)<(z.length:Int):=by omega
   have A:R = -1:=by
    rw [J.o]
    have:V6 z S.data.toList=none:=List.findIdx?_eq_none_iff.2 fun x hx=>by
     obtain⟨k,C,rfl⟩:=List.getElem_of_mem hx;exact M.o k C (by omega)
    rw [this];rfl
   subst A;go_wp2_with fail;go_ret;exact⟨rfl,rfl⟩
def lJ (w:wD) (a:oA) (l:List Tz):Prop:=∀ i (_:i<l.length),∃ g,a=some (aP g 0)/\g<w.heap.size/\w.cell? (aP g (i*15))=some (.string ⟨l[i].nm.toArray⟩)
theorem kL (Z:oA) (V ic:Nat) (a:oA) (cap:Nat) (ds:List Tz) (S:bA) (w:wD) (h:lJ w a ds) (hl:(ds.length:Int)<=9223372036854775807) :
  Calls prog 20 #[.agg #[.slice Z V ic,.slice a ds.length cap],.string S] w fun e w'=>e = .returned (iP (B9 (K6 ds S.data.toList)))/\Below w.heap.size w w':=by
 have HS:=Za h
 obtain⟨R,hR⟩:=xE (B9 (K6 ds S.data.toList))
 rw [<- hR]
 have O:=Za hR
 clear h hR
 go_enter func20,ntmps20
 go_wp2_with fail
 obtain⟨N,H⟩:=xE (w.alloc (.cells #[.slice Z V ic,.slice a ds.length cap] 40))
 rw [<- H]
 obtain⟨pb,T⟩:=xE w.heap.size
 have M:xQ (Below w.heap.size w N):=by rw [H]; exact(Below.refl _ w).alloc (xR) _
 have HX:xQ (N.heap[pb]?=some (.cells #[.slice Z V ic,.slice a ds.length cap] 40)):=by rw [H,T]; exact xL w _
 rw [<- T]
 clear H T
 go_loopw [5] (fun i wr=>∃ j:Nat,j<=ds.length/\i=iP j/\xQ (wr=N)/\xQ (∀ k (A:k<ds.length),k<j->(ds[k].nm == S.data.toList)=false)) (fun i _=>ds.length - (intOf i).toNat)
 case atStart=>exact⟨0,xZ _,rfl,rfl,fun k _ h=>absurd h (Nat.not_lt_zero _)⟩
 case round =>
  obtain⟨j,hj,rfl,HW,Y⟩:=hrel;have hw:=HW.o;subst hw;clear HW
  have x1:wr.cell? (aP pb 1)=some (.slice a ds.length cap):=by have h:=HX.o; simp [World.cell?,h]
  have Ys:=xB HX.o;by_cases Qe:j<ds.length
  ·have yU:(j:Int)<(ds.length:Int):=by omega
   obtain⟨g,rfl,hg,I⟩:=HS.o j Qe
   obtain⟨F,J⟩:∃ F:ByteArray,F=⟨ds[j].nm.toArray⟩:=⟨_,rfl⟩
   rw [<- J] at I;have hc:wr.cell? (aP g (j*15))=some (.string F):=(M.o.cell (p:=(aP g (j*15))) hg).trans I
   have C:(F.toList == S.toList)=(ds[j].nm == S.data.toList):=by rw [mO,J]
   cases Bh:(ds[j].nm == S.data.toList)with
   | true =>
    rw [Bh] at C
    have z:R=(j:Int):=by
     rw [O.o];have:K6 ds S.data.toList=some j:=List.findIdx?_eq_some_iff_getElem.2 ⟨Qe,Bh,fun k A=>by rw [Y.o k (by omega) A]; simp⟩;rw [this];rfl
    subst z;clear J Bh O I;go_wp2_with fail;go_ret;exact⟨rfl,M.o⟩
   | false =>
    rw [Bh] at C;have HQ:=Za Bh;clear J Bh I;go_wp2_with fail
    exact⟨⟨j+1,by omega,by go_num,True.intro,fun k A hkj=>by
     by_cases e:k=j
     ·subst e; exact HQ.o
     ·exact Y.o k A (by omega)⟩,by simp [intOf]; omega⟩
  ·have yU:¬ (j:Int)<(ds.length:Int):=by omega
   have z:R = -1:=by
    rw [O.o]
    have:K6 ds S.data.toList=none:=List.findIdx?_eq_none_iff.2 fun x hx=>by
     obtain⟨k,A,rfl⟩:=List.getElem_of_mem hx;exact Y.o k A (by omega)
    rw [this];rfl
   subst z;go_wp2_with fail;go_ret;exact⟨rfl,M.o⟩
theorem sO {w:wD} {b:Nat} {C A z c0 c1 c2:vL} {T:TypeId} (h:w.heap[b]?=some (.cells #[C,A,z] T)):(((w.setCell (aP b 0) c0).setCell (aP b 1) c1).setCell (aP b 2) c2).heap[b]?=some (.cells #[c0,c1,c2] T):=by
 have j:=Y1 (o:=2) (u:=c2) (Y1 (o:=1) (u:=c1) (Y1 (o:=0) (u:=c0) h))
 simpa using j
theorem sN {B:Nat} {w:wD} {b:Nat} {c0 c1 c2:vL} (h:B<=b):Below B w (((w.setCell (aP b 0) c0).setCell (aP b 1) c1).setCell (aP b 2) c2) :=
 (((Below.refl B w).setCell (p:=aP b 0) h _).setCell (p:=aP b 1) h _).setCell (p:=aP b 2) h _
def EnsR (w:wD) (a:oA) (es:List En):Prop:=∀ k (_:k<es.length),∃ g,a=some (aP g 0)/\g<w.heap.size/\w.cell? (aP g (k*3))=some (.string ⟨es[k].nm.toArray⟩)/\w.cell? (aP g (k*3+1))=some (iP es[k].m)/\w.cell? (aP g (k*3+2))=some (iP es[k].d)
theorem jN (a:oA) (cap:Nat) (es:List En) (S:bA) (w:wD) (h:EnsR w a es) (hl:(es.length:Int)<=9223372036854775807) :
  Calls prog 31 #[.slice a es.length cap,.string S] w fun e w'=>(∃ s a b,e = .returned (.tuple #[.agg #[.string s,iP a,iP b],.bool (La es S.data.toList)]))/\Below w.heap.size w w':=by
 have HS:=Za h
 obtain⟨R,hR⟩:=xE (La es S.data.toList)
 rw [<- hR]
 have Z:=Za hR
 clear h hR
 go_enter func31,ntmps31
 go_wp2_with fail
 obtain⟨O,J⟩:=xE (w.alloc (.cells #[sP,iP 0,iP 0] 29))
 rw [<- J]
 obtain⟨pb,M⟩:=xE w.heap.size
 have C:xQ (Below w.heap.size w O):=by rw [J]; exact(Below.refl _ w).alloc (xR) _
 have HX:xQ (O.heap[pb]?=some (.cells #[sP,iP 0,iP 0] 29)):=by rw [J,M]; exact xL w _
 rw [<- M]
 have T:xQ (pb=w.heap.size):=M
 clear J M
 go_loopw [6] (fun i wr=>∃ j:Nat,j<=es.length/\i=iP j/\xQ (wr=O)/\xQ (∀ k (I:k<es.length),k<j->(es[k].nm == S.data.toList)=false)) (fun i _=>es.length - (intOf i).toNat)
 case atStart=>exact⟨0,xZ _,rfl,rfl,fun k _ h=>absurd h (Nat.not_lt_zero _)⟩
 case round =>
  obtain⟨j,hj,rfl,HW,HN⟩:=hrel;have hw:=HW.o;subst hw;clear HW;have z:=HX.o
  have x0:wr.cell? (aP pb 0)=some sP:=by simp [World.cell?,z]
  have x1:wr.cell? (aP pb 1)=some (iP 0):=by simp [World.cell?,z]
  have x2:wr.cell? (aP pb 2)=some (iP 0):=by simp [World.cell?,z]
  have f0:wr.frozen? (aP pb 0)=false:=by simp [World.frozen?,z]
  have f1:wr.frozen? (aP pb 1)=false:=by simp [World.frozen?,z]
  have f2:wr.frozen? (aP pb 2)=false:=by simp [World.frozen?,z]
  have Ys:=xB z;clear z;by_cases Qe:j<es.length
  ·have yU:(j:Int)<(es.length:Int):=by omega
   obtain⟨g,rfl,hg,Y,Ti,Qd⟩:=HS.o j Qe
   obtain⟨F,N⟩:∃ F:ByteArray,F=⟨es[j].nm.toArray⟩:=⟨_,rfl⟩
   rw [<- N] at Y;replace Y:=(C.o.cell (p:=(aP g (j*3))) hg).trans Y;replace Ti:=(C.o.cell (p:=(aP g (j*3+1))) hg).trans Ti;replace Qd:=(C.o.cell (p:=(aP g (j*3+2))) hg).trans Qd
   have H:(F.toList == S.toList)=(es[j].nm == S.data.toList):=by rw [mO,N]
   cases Bh:(es[j].nm == S.data.toList)with
   | true =>
    rw [Bh] at H
    have A:R=true:=by
     rw [Z.o];unfold La;rw [List.any_eq_true];exact⟨es[j],List.getElem_mem Qe,Bh⟩
    subst A
    have hgp:g≠pb:=by have:=T.o; omega
    clear N Bh Z;go_wp2_with fail;have V:=sO (c0 := .string F) (c1:=iP es[j].m) (c2:=iP es[j].d) HX.o;have Ts:Below w.heap.size wr (((wr.setCell (aP pb 0) (.string F)).setCell (aP pb 1) (iP es[j].m)).setCell (aP pb 2) (iP es[j].d)):=sN (by have:=T.o; omega);exact bodyPost_ret (bL rfl _ rfl V underlying29 (by kernel_rfl)) rfl ⟨⟨_,_,_,rfl⟩,C.o.trans Ts⟩
   | false =>
    rw [Bh] at H;have HQ:=Za Bh;clear N Bh;go_wp2_with fail
    exact⟨⟨j+1,by omega,by go_num,True.intro,fun k I hkj=>by
     by_cases e:k=j
     ·subst e; exact HQ.o
     ·exact HN.o k I (by omega)⟩,by simp [intOf]; omega⟩
  ·have yU:¬ (j:Int)<(es.length:Int):=by omega
   have A:R=false:=by
    rw [Z.o];unfold La;rw [List.any_eq_false];intro x hx;obtain⟨k,I,rfl⟩:=List.getElem_of_mem hx;rw [HN.o k I (by omega)]
    decide
   subst A;go_wp2_with fail;have V:=sO (c0:=sP) (c1:=iP 0) (c2:=iP 0) HX.o;have Ts:Below w.heap.size wr (((wr.setCell (aP pb 0) sP).setCell (aP pb 1) (iP 0)).setCell (aP pb 2) (iP 0)):=sN (by have:=T.o; omega);exact bodyPost_ret (bL rfl _ rfl V underlying29 (by kernel_rfl)) rfl ⟨⟨_,_,_,rfl⟩,C.o.trans Ts⟩
def ImpsR (w:wD) (a:oA) (l:List Vx):Prop:=∀ k (_:k<l.length),∃ g,a=some (aP g 0)/\g<w.heap.size/\w.cell? (aP g (k*4))=some (.string ⟨l[k].fr.toArray⟩)
def lN (w:wD) (a:oA) (l:List Mo):Prop:=∀ i (_:i<l.length),∃ g ia ic,a=some (aP g 0)/\g<w.heap.size/\w.cell? (aP g (i*2))=some (.slice ia l[i].is.length ic)/\l[i].is.length<=8193/\ImpsR w ia l[i].is
def Rh (w:wD) (sb n:Nat) (s:List Bool):Prop:=s.length=n/\∃ cs T,w.heap[sb]?=some (.cells cs T)/\∀ k,k<n->cs[k]?=some (.bool (s.getD k false))
theorem Rh.cell {w:wD} {sb n:Nat} {s:List Bool} (h:Rh w sb n s) {k:Nat} (A:k<n):w.cell? (aP sb k)=some (.bool (s.getD k false))/\w.frozen? (aP sb k)=false/\sb<w.heap.size:=by
 obtain⟨_,cs,T,j,z⟩:=h
 refine⟨?_,by simp [World.frozen?,j],xB j⟩
 simp only [World.cell?,j]
 exact z k A
theorem Rh.put {w:wD} {sb n:Nat} {s:List Bool} (h:Rh w sb n s) {k:Nat} (H:k<n):Rh (w.setCell (aP sb k) (.bool true)) sb n (s.set k true):=by
 obtain⟨F,cs,T,C,z⟩:=h
 refine⟨by simpa using F,_,T,Y1 C,fun j I=>?_⟩
 have A:k<cs.size:=by
  have:=z k H;rw [Array.getElem?_eq_some_iff] at this;exact this.1
 rw [Array.getElem?_setIfInBounds,List.getD_eq_getElem?_getD]
 by_cases e:k=j
 ·subst e
  rw [if_pos rfl,if_pos A,List.getElem?_set_self (by omega)];rfl
 ·rw [if_neg e,List.getElem?_set_ne e,<- List.getD_eq_getElem?_getD]
  exact z j I
theorem Rl.below {w w':wD} {a:oA} {l:List Bs} (h:Rl w a l) (z:Below w.heap.size w w'):Rl w' a l:=fun i A=>by
 obtain⟨g,e,j,C⟩:=h i A
 exact⟨g,e,xT j z.size,(z.cell (p:=aP g i) j).trans C⟩
def setO (s:List Bool):Option Nat->List Bool
 | some m=>s.set m true
 | none=>s
theorem zbq {md:Bs->Option Nat} {i:Nat} {x:Vx} {l:List Vx} {s:List Bool} (h:s.getD i false=true):Gi md i (x :: l) s=Gi md i l (setO s (md x.fr)):=by
 show(if s.getD i false=true then Gi md i l (match md x.fr with | some m=>s.set m true | none=>s)else s)=_
 rw [if_pos h]
 cases md x.fr <;> rfl
theorem zbr {md:Bs->Option Nat} {i:Nat} {x:Vx} {l:List Vx} {s:List Bool} (h:s.getD i false=false):Gi md i (x :: l) s=s:=by
 show(if s.getD i false=true then Gi md i l (match md x.fr with | some m=>s.set m true | none=>s)else s)=_
 rw [if_neg (by rw [h]; decide)]
theorem zce:(prog.info? 4).map (fun i=>(i.zero,i.size,i.bytes))=some (some (.bool false),1,1):=by kernel_rfl
abbrev Ux (aN:oA) (nN cN:Nat) (aM:oA) (nM cM:Nat) (aS:oA) (nS cS:Nat) (M:bA) (x y:Int):Obj := .cells #[.slice aN nN cN,.slice aM nM cM,.slice aS nS cS,.string M,iP x,iP y] 31
theorem zgp (J:oA) (N:Nat) (T:oA) (Z:Nat) (aS:oA) (nS cS:Nat) (M:bA) (x y:Int) (j:List Bs) (mods:List Mo) (a t:Nat) (w:wD)
  (hN:Rl w J j) (hM:lN w T mods) (hl:j.length=mods.length) (hm:mods.length<=100000) (ha:a<mods.length) (ht:t<mods.length) :
  Calls prog 32 #[.agg #[.slice J j.length N,.slice T mods.length Z,.slice aS nS cS,.string M,iP x,iP y],iP a,iP t] w fun e w' =>
   e = .returned (.bool ((Cr (V6 j) mods a).getD t false))/\Below w.heap.size w w':=by
 have HN:=Za hN
 have HM:=Za hM
 have HL:=Za hl
 obtain⟨F,A⟩:=xE (Cr (V6 j) mods a)
 rw [<- A]
 have HF:=Za A
 obtain⟨i0,hi,Xr,Xg,Xw⟩:=info_parts zce
 have hmz:((mods.length:Int)<=9223372036854775807):=by omega
 have ha':(a:Int)<(mods.length:Int):=by omega
 have ht':(t:Int)<(mods.length:Int):=by omega
 clear hN hM hl A
 go_enter func32,ntmps32
 go_wp2_with(at_make; refine wpList_make_full _ rfl (.tmp 15) (.tmp 15) 109 rfl (w.heap.size+1) 4 i0 (.bool false) 1 underlying109 hi Xr Xg .i64 .i64 _ _ mods.length rfl rfl rfl rfl (by rw [Xw]; omega) (by unfold maxLen; omega) (by rw [xS]; omega) ?_)
 intro w1 Wh Zo
 obtain⟨pb,Xo⟩:=xE w.heap.size
 have Ye:xQ (Below w.heap.size w w1):=((Below.refl _ w).alloc (xR) _).trans ⟨Zo.os,Zo.tape,Zo.output,Zo.size,fun k hk=>Zo.block k (by rw [xS]; omega) (fun e=>by cases e)⟩
 have HX1:xQ (w1.heap[pb]?=some (Ux J j.length N T mods.length Z aS nS cS M x y)):=by
  rw [Xo];exact(Zo.block w.heap.size (by rw [xS]; omega) (fun e=>by cases e)).trans (xL w _)
 have Y5:xQ (Rh w1 (pb+1) mods.length (List.replicate mods.length false)):=by
  rw [Xo];have ho:=Wh;rw [toList_madeCells_one] at ho;rcases ho.2 with⟨_,e⟩ | ⟨g,cap,cur,e,hg,hh,_⟩
  ·omega
  ·injection e with e1 e2 e3
   injection e1 with e1;injection e1 with e1 _ _;subst e1;refine⟨by simp,cur,_,hh,fun k hk=>?_⟩;have hc:=ho.cellAt k (by omega);simp only [World.cell?,hh] at hc;rw [List.getElem?_replicate,if_pos hk] at hc;rw [List.getD_eq_getElem?_getD,List.getElem?_replicate,if_pos hk];exact hc
 rw [<- Xo]
 have HP:=Za Xo
 clear Wh Zo Xo
 obtain⟨c0,f0,L2⟩:=Y5.o.cell ha
 go_wp2_with fail
 have Xa:xQ (Below w.heap.size w (w1.setCell (aP (pb+1) a) (.bool true))):=Ye.o.setCell (p:=(aP (pb+1) a)) (by have:=HP.o; show w.heap.size<=pb+1; omega) _
 have Zv:xQ ((w1.setCell (aP (pb+1) a) (.bool true)).heap[pb]?=some (Ux J j.length N T mods.length Z aS nS cS M x y)):=(xH (by show pb≠pb+1; omega)).trans HX1.o
 have Vn:=Za (Y5.o.put ha)
 generalize w1.setCell (aP (pb+1) a) (.bool true)=w2 at Xa Zv Vn ⊢
 clear c0 f0 L2 Ye HX1 Y5
 obtain⟨md,Nq⟩:=xE (V6 j)
 have Uj:=Za Nq
 have Hj:xQ (F=Gn md mods mods.length ((List.replicate mods.length false).set a true)):=by rw [Nq]; exact HF.o
 clear Nq HF
 go_loopw [8] (fun i wr=>∃ (r:Nat) (s:List Bool),r<=mods.length/\i=iP r/\xQ (Below w.heap.size w wr/\wr.heap[pb]?=some (Ux J j.length N T mods.length Z aS nS cS M x y)/\Rh wr (pb+1) mods.length s/\F=Gn md mods (mods.length - r) s)) (fun i _=>mods.length - (intOf i).toNat)
 case atStart=>exact⟨0,_,xZ _,rfl,Xa.o,Zv.o,Vn.o,by rw [Nat.sub_zero]; exact Hj.o⟩
 case round =>
  clear Xa Zv Vn Hj;obtain⟨r,s,hr,rfl,HI⟩:=hrel;obtain⟨z,C,I,A⟩:=HI.o
  have x1:wr.cell? (aP pb 1)=some (.slice T mods.length Z):=by simp [World.cell?,C]
  have Ys:=xB C;by_cases Xe:r<mods.length
  ·have xC:(r:Int)<(mods.length:Int):=by omega
   have Li:xQ (F=Gn md mods (mods.length - r - 1) (Ld md 0 mods s)):=by
    rw [A]
    obtain⟨q,hq⟩:∃ q,mods.length - r=q+1:=⟨mods.length - r - 1,by omega⟩
    rw [hq];rfl
   have HI3:=Za (And.intro z (And.intro C I));clear z C I A;go_wp2_with fail
   go_loopw [9] (fun i wq=>∃ (k:Nat) (s:List Bool),k<=mods.length/\i=iP k/\xQ ((Below w.heap.size w wq/\wq.heap[pb]?=some (Ux J j.length N T mods.length Z aS nS cS M x y)/\Rh wq (pb+1) mods.length s)/\F=Gn md mods (mods.length - r - 1) (Ld md k (mods.drop k) s))) (fun i _=>mods.length - (intOf i).toNat)
   case atStart=>exact⟨0,s,xZ _,rfl,HI3.o,Li.o⟩
   case round =>
    clear HI3 Li HI x1 Ys;obtain⟨k,s,hk,rfl,O⟩:=hrel;obtain⟨⟨z,C,I⟩,A⟩:=O.o
    have x1:wr.cell? (aP pb 1)=some (.slice T mods.length Z):=by simp [World.cell?,C]
    have Ys:=xB C;by_cases Z8:k<mods.length
    ·have Un:(k:Int)<(mods.length:Int):=by omega
     obtain⟨g,ia,ic,rfl,hg,hc,h8,Cb⟩:=HM.o k Z8;have Qc:wr.cell? (aP g (k*2))=some (.slice ia mods[k].is.length ic):=(z.cell (p:=(aP g (k*2))) hg).trans hc
     have M9:xQ (F=Gn md mods (mods.length - r - 1) (Ld md (k+1) (mods.drop (k+1)) (Gi md k mods[k].is s))):=by
      rw [A,List.drop_eq_getElem_cons Z8];rfl
     have Gt:=Za (And.intro z (And.intro C I));have V:=Za Cb;obtain⟨is,his⟩:=xE (mods[k].is);rw [<- his] at Qc h8 M9 V;clear z C I A hc Cb his;go_wp2_with fail
     have hiz:((is.length:Int)<=9223372036854775807):=by omega
     go_loopw [11] (fun i wq=>∃ (q:Nat) (s:List Bool),q<=is.length/\i=iP q/\xQ ((Below w.heap.size w wq/\wq.heap[pb]?=some (Ux (J) j.length N (some (aP g 0)) mods.length Z aS nS cS M x y)/\Rh wq (pb+1) mods.length s)/\F=Gn md mods (mods.length - r - 1) (Ld md (k+1) (mods.drop (k+1)) (Gi md k (is.drop q) s)))) (fun i _=>is.length - (intOf i).toNat)
     case atStart=>exact⟨0,s,xZ _,rfl,Gt.o,M9.o⟩
     case round =>
      clear Gt M9 x1 Ys Qc O;obtain⟨q,s,hq,rfl,O⟩:=hrel;obtain⟨⟨z,C,I⟩,A⟩:=O.o
      have x0:wr.cell? (aP pb 0)=some (.slice J j.length N):=by simp [World.cell?,C]
      have Ys:=xB C;obtain⟨s0,_,L2⟩:=I.cell Z8;by_cases Py:q<is.length
      ·have hql':(q:Int)<(is.length:Int):=by omega
       cases hsk:s.getD k false with
       | true =>
        rw [hsk] at s0;obtain⟨gi,rfl,hgi,Pf⟩:=V.o q Py
        obtain⟨Y,Qb⟩:∃ Y:ByteArray,Y=⟨is[q].fr.toArray⟩:=⟨_,rfl⟩
        rw [<- Qb] at Pf;have hci':wr.cell? (aP gi (q*4))=some (.string Y):=(z.cell (p:=(aP gi (q*4))) hgi).trans Pf
        have hNl:Y.data.toList=is[q].fr:=by rw [Qb]
        have Fb:∀ n,Below w.heap.size w (wr.drewN n):=fun n=>⟨z.os,z.tape,z.output,z.size,z.block⟩
        obtain⟨R,hR⟩:=xE (md is[q].fr)
        have HC:xQ (∀ n,Calls prog 19 #[.slice J j.length N,.string Y] (wr.drewN n) fun e w'=>e = .returned (iP (B9 R))/\w'=wr.drewN n):=fun n=>by
         have h:=uF J N j Y (wr.drewN n) (HN.o.below (Fb n)) (by have:=HL.o; omega);rw [hNl,<- Uj.o,<- hR] at h;exact h
        have Bz:xQ (F=Gn md mods (mods.length - r - 1) (Ld md (k+1) (mods.drop (k+1)) (Gi md k (is.drop (q+1)) (setO s R)))):=A.trans (by rw [List.drop_eq_getElem_cons Py,zbq hsk,hR])
        have HRm:xQ (∀ m,R=some m->m<mods.length):=fun m e=>by
         rw [hR,Uj.o] at e;obtain⟨h1,_⟩:=List.findIdx?_eq_some_iff_getElem.1 e;have:=HL.o;omega
        have H:=Za (And.intro z (And.intro C I));clear z C I A Pf Qb hNl Fb hR hsk
        cases R with
        | none =>
         have hC:=HC.o;clear HC;have To:xQ (∀ n,Calls prog 19 #[.slice J j.length N,.string Y] (wr.drewN n) fun e w'=>e = .returned (iP (-1))/\w'=wr.drewN n):=hC;clear hC;go_wp2_with fail
         go_quiet((go_at_call 19; exact Calls.quiet_of_same (To.o _)))
         go_wp2_with fail;exact⟨⟨q+1,s,by omega,by go_num,⟨⟨H.o.1.os,H.o.1.tape,H.o.1.output,H.o.1.size,H.o.1.block⟩,H.o.2.1,H.o.2.2⟩,Bz.o⟩,by simp [intOf]; omega⟩
        | some m =>
         have Uu:=HRm.o m rfl
         have hml':(m:Int)<(mods.length:Int):=by omega
         have hC:=HC.o;clear HC;have To:xQ (∀ n,Calls prog 19 #[.slice J j.length N,.string Y] (wr.drewN n) fun e w'=>e = .returned (iP (m:Int))/\w'=wr.drewN n):=hC;clear hC;obtain⟨m0,mf,_⟩:=H.o.2.2.cell Uu;go_wp2_with fail
         go_quiet((go_at_call 19; exact Calls.quiet_of_same (To.o _)))
         go_wp2_with fail;refine⟨⟨q+1,s.set m true,by omega,by go_num,⟨?_,?_,?_⟩,Bz.o⟩,by simp [intOf]; omega⟩
         ·have z:Below w.heap.size w (wr.drewN nq):=⟨H.o.1.os,H.o.1.tape,H.o.1.output,H.o.1.size,H.o.1.block⟩
          exact z.setCell (p:=(aP (pb+1) m)) (by have:=HP.o; show w.heap.size<=pb+1; omega) _
         ·exact(xH (by show pb≠pb+1; omega)).trans H.o.2.1
         ·exact Rh.put (w:=wr.drewN nq) H.o.2.2 Uu
       | false =>
        rw [hsk] at s0;have Bz:xQ (F=Gn md mods (mods.length - r - 1) (Ld md (k+1) (mods.drop (k+1)) s)):=A.trans (by rw [List.drop_eq_getElem_cons Py,zbr hsk]);clear z C I A hsk;go_wp2_with fail;exact⟨⟨k+1,s,by omega,by go_num,O.o.1,Bz.o⟩,by simp [intOf]; omega⟩
      ·have hql':¬ (q:Int)<(is.length:Int):=by omega
       have e0:is.drop q=[]:=List.drop_eq_nil_of_le (by omega);have Bz:xQ (F=Gn md mods (mods.length - r - 1) (Ld md (k+1) (mods.drop (k+1)) s)):=A.trans (by rw [e0]; rfl);clear z C I A;go_wp2_with fail;exact⟨⟨k+1,s,by omega,by go_num,O.o.1,Bz.o⟩,by simp [intOf]; omega⟩
    ·have Un:¬ (k:Int)<(mods.length:Int):=by omega
     have HF5:xQ (F=Gn md mods (mods.length - (r+1)) s):=by
      rw [A,List.drop_eq_nil_of_le (by omega)];rfl
     clear z C I A;go_wp2_with fail;exact⟨⟨r+1,s,by omega,by go_num,O.o.1.1,O.o.1.2.1,O.o.1.2.2,HF5.o⟩,by simp [intOf]; omega⟩
  ·have xC:¬ (r:Int)<(mods.length:Int):=by omega
   have De:F=s:=by
    rw [A,show mods.length - r=0 by omega];rfl
   obtain⟨t0,_,L2⟩:=I.cell ht;rw [<- De] at t0;clear z C I A De;go_wp2_with fail;go_ret;exact⟨rfl,HI.o.1⟩
end Go.Proofs.YtoppemkjhhlegaaGreatDoor
