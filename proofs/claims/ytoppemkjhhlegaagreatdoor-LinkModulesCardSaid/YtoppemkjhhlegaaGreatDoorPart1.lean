/- Part. -/
import Derived.Below
import Derived.Laws.Rows
import Derived.Laws.World
import Derived.Deep.WholeRow
import Derived.OneCell
import Derived.Test.YtoppemkjhhlegaaGreatDoorProg
import Derived.WalkKit
import Derived.KernelRfl
import Derived.WalkLawsBesides
import Derived.LoopTactic
import Derived.Deep.QuietTactic
import Derived.BigQuiet
import Derived.Deep.MidRow
import Derived.ChangeArms
import Derived.SizedLaws
import Derived.WalkSmall
import Derived.Laws.OwnMore
set_option maxRecDepth 100000
set_option maxHeartbeats 4000000
namespace Go.Proofs.YtoppemkjhhlegaaGreatDoor
open Go.Proofs.Tryz
section
open Go.RowKit
def xQ (p:Prop):Prop:=p
theorem xQ.o {p:Prop} (h:xQ p):p:=h
theorem xE {α:Type _} (t:α):∃ x,x=t:=⟨t,rfl⟩
theorem xS (w:World) (o:Obj):(w.alloc o).heap.size=w.heap.size+1:=World.size_alloc w o
theorem xB {w:World} {b:Nat} {o:Obj} (h:w.heap[b]?=some o):b<w.heap.size:=lt_of_block h
theorem xR {n:Nat}:n<=n:=Nat.le_refl n
theorem xH {w:World} {p:Addr} {v:Value} {k:Nat} (h:k≠p.block):(w.setCell p v).heap[k]?=w.heap[k]?:=Below.heap_setCell w p v k h
theorem xA {w:World} {o:Obj} {k:Nat} (h:k<w.heap.size):(w.alloc o).heap[k]?=w.heap[k]?:=Below.heap_alloc w o k h
theorem xL (w:World) (o:Obj):(w.alloc o).heap[w.heap.size]?=some o:=heap_alloc_last w o
theorem xM {α:Type} {a:α} {l:List α}:a ∈ a :: l:=List.mem_cons_self
theorem xW {α:Type} (b:α) {a:α} {l:List α} (h:a ∈ l):a ∈ b :: l:=List.mem_cons_of_mem b h
theorem xZ (n:Nat):0<=n:=Nat.zero_le n
theorem xT {a b c:Nat} (h:a<b) (k:b<=c):a<c:=Nat.lt_of_lt_of_le h k
theorem xU (n:Nat):n<n+1:=Nat.lt_succ_self n
end
abbrev aP (b o:Nat):Addr:=⟨b,o,none⟩
abbrev iP (n:Int):Value := .int .i64 n
abbrev wD:=World
abbrev vL:=Value
abbrev oA:=Option Addr
abbrev bS:=List UInt8
abbrev bA:=ByteArray
abbrev qP (b:Nat):Value := .pointer (some ⟨b,0,none⟩)
abbrev lP (b n c:Nat):Value := .slice (some ⟨b,0,none⟩) n c
abbrev nP:Value := .slice none 0 0
abbrev sP:Value := .string ⟨#[]⟩
abbrev uP (l:bS):Value := .string ⟨l.toArray⟩
abbrev c3 (w:World) (b:Nat) (v0 v1 v2:Value):Prop:=w.cell? ⟨b,0,none⟩=some v0/\w.cell? ⟨b,1,none⟩=some v1/\w.cell? ⟨b,2,none⟩=some v2
abbrev c4 (w:World) (b:Nat) (v0 v1 v2 v3:Value):Prop:=w.cell? ⟨b,0,none⟩=some v0/\w.cell? ⟨b,1,none⟩=some v1/\w.cell? ⟨b,2,none⟩=some v2/\w.cell? ⟨b,3,none⟩=some v3
abbrev c5 (w:World) (b:Nat) (v0 v1 v2 v3 v4:Value):Prop:=w.cell? ⟨b,0,none⟩=some v0/\w.cell? ⟨b,1,none⟩=some v1/\w.cell? ⟨b,2,none⟩=some v2/\w.cell? ⟨b,3,none⟩=some v3/\w.cell? ⟨b,4,none⟩=some v4
abbrev c6 (w:World) (b:Nat) (v0 v1 v2 v3 v4 v5:Value):Prop:=w.cell? ⟨b,0,none⟩=some v0/\w.cell? ⟨b,1,none⟩=some v1/\w.cell? ⟨b,2,none⟩=some v2/\w.cell? ⟨b,3,none⟩=some v3/\w.cell? ⟨b,4,none⟩=some v4/\w.cell? ⟨b,5,none⟩=some v5
abbrev c8 (w:World) (b:Nat) (v0 v1 v2 v3 v4 v5 v6 v7:Value):Prop:=w.cell? ⟨b,0,none⟩=some v0/\w.cell? ⟨b,1,none⟩=some v1/\w.cell? ⟨b,2,none⟩=some v2/\w.cell? ⟨b,3,none⟩=some v3/\w.cell? ⟨b,4,none⟩=some v4/\w.cell? ⟨b,5,none⟩=some v5/\w.cell? ⟨b,6,none⟩=some v6/\w.cell? ⟨b,7,none⟩=some v7
abbrev c9 (w:World) (b:Nat) (v0 v1 v2 v3 v4 v5 v6 v7 v8:Value):Prop:=w.cell? ⟨b,0,none⟩=some v0/\w.cell? ⟨b,1,none⟩=some v1/\w.cell? ⟨b,2,none⟩=some v2/\w.cell? ⟨b,3,none⟩=some v3/\w.cell? ⟨b,4,none⟩=some v4/\w.cell? ⟨b,5,none⟩=some v5/\w.cell? ⟨b,6,none⟩=some v6/\w.cell? ⟨b,7,none⟩=some v7/\w.cell? ⟨b,8,none⟩=some v8
abbrev c15 (w:World) (b:Nat) (v0 v1 v2 v3 v4 v5 v6 v7 v8 v9 v10 v11 v12 v13 v14:Value):Prop:=w.cell? ⟨b,0,none⟩=some v0/\w.cell? ⟨b,1,none⟩=some v1/\w.cell? ⟨b,2,none⟩=some v2/\w.cell? ⟨b,3,none⟩=some v3/\w.cell? ⟨b,4,none⟩=some v4/\w.cell? ⟨b,5,none⟩=some v5/\w.cell? ⟨b,6,none⟩=some v6/\w.cell? ⟨b,7,none⟩=some v7/\w.cell? ⟨b,8,none⟩=some v8/\w.cell? ⟨b,9,none⟩=some v9/\w.cell? ⟨b,10,none⟩=some v10/\w.cell? ⟨b,11,none⟩=some v11/\w.cell? ⟨b,12,none⟩=some v12/\w.cell? ⟨b,13,none⟩=some v13/\w.cell? ⟨b,14,none⟩=some v14
abbrev d4 (w:World) (b o:Nat) (v0 v1 v2 v3:Value):Prop:=w.cell? ⟨b,o,none⟩=some v0/\w.cell? ⟨b,o+1,none⟩=some v1/\w.cell? ⟨b,o+2,none⟩=some v2/\w.cell? ⟨b,o+3,none⟩=some v3
abbrev d5 (w:World) (b o:Nat) (v0 v1 v2 v3 v4:Value):Prop:=w.cell? ⟨b,o,none⟩=some v0/\w.cell? ⟨b,o+1,none⟩=some v1/\w.cell? ⟨b,o+2,none⟩=some v2/\w.cell? ⟨b,o+3,none⟩=some v3/\w.cell? ⟨b,o+4,none⟩=some v4
abbrev d8 (w:World) (b o:Nat) (v0 v1 v2 v3 v4 v5 v6 v7:Value):Prop:=w.cell? ⟨b,o,none⟩=some v0/\w.cell? ⟨b,o+1,none⟩=some v1/\w.cell? ⟨b,o+2,none⟩=some v2/\w.cell? ⟨b,o+3,none⟩=some v3/\w.cell? ⟨b,o+4,none⟩=some v4/\w.cell? ⟨b,o+5,none⟩=some v5/\w.cell? ⟨b,o+6,none⟩=some v6/\w.cell? ⟨b,o+7,none⟩=some v7
abbrev d15 (w:World) (b o:Nat) (v0 v1 v2 v3 v4 v5 v6 v7 v8 v9 v10 v11 v12 v13 v14:Value):Prop:=w.cell? ⟨b,o,none⟩=some v0/\w.cell? ⟨b,o+1,none⟩=some v1/\w.cell? ⟨b,o+2,none⟩=some v2/\w.cell? ⟨b,o+3,none⟩=some v3/\w.cell? ⟨b,o+4,none⟩=some v4/\w.cell? ⟨b,o+5,none⟩=some v5/\w.cell? ⟨b,o+6,none⟩=some v6/\w.cell? ⟨b,o+7,none⟩=some v7/\w.cell? ⟨b,o+8,none⟩=some v8/\w.cell? ⟨b,o+9,none⟩=some v9/\w.cell? ⟨b,o+10,none⟩=some v10/\w.cell? ⟨b,o+11,none⟩=some v11/\w.cell? ⟨b,o+12,none⟩=some v12/\w.cell? ⟨b,o+13,none⟩=some v13/\w.cell? ⟨b,o+14,none⟩=some v14
def Lc:bS->Int->Option Int
 | [],n=>some n
 | d :: r,n=>if (d.toNat:Int)<48∨57<(d.toNat:Int)then none else if (9223372036854775807 - ((d.toNat:Int) - 48)) / 10<n then none else Lc r (n*10+((d.toNat:Int) - 48))
def Ns (l:bS):Option Int :=
 match l with
 | []=>none
 | d :: r=>if (d.toNat:Int)=48/\r≠[] then none else Lc (d :: r) 0
theorem Wz (s:bA):s.data.toList.length=s.size:=Array.length_toList
theorem Ue (s:bA) (k:Nat) (j:k<s.size):s.data.toList.drop k=s[k] :: s.data.toList.drop (k+1):=by
 have h:k<s.data.toList.length:=by rw [Wz]; exact j
 rw [List.drop_eq_getElem_cons h]
 rfl
theorem sB {s:bA} {k:Nat} (j:k<s.size) (n:Int) (h:(s[k].toNat:Int)<48∨57<(s[k].toNat:Int)):Lc (s.data.toList.drop k) n=none:=by
 rw [Ue s k j,Lc,if_pos h]
theorem zfh {s:bA} {k:Nat} (z:k<s.size) (n:Int) (h:¬ ((s[k].toNat:Int)<48∨57<(s[k].toNat:Int))) (j:(9223372036854775807 - ((s[k].toNat:Int) - 48)) / 10<n):Lc (s.data.toList.drop k) n=none:=by
 rw [Ue s k z,Lc,if_neg h,if_pos j]
theorem zfg {s:bA} {k:Nat} (z:k<s.size) (n:Int) (h:¬ ((s[k].toNat:Int)<48∨57<(s[k].toNat:Int))) (j:¬ (9223372036854775807 - ((s[k].toNat:Int) - 48)) / 10<n) :
  Lc (s.data.toList.drop k) n=Lc (s.data.toList.drop (k+1)) (n*10+((s[k].toNat:Int) - 48)):=by
 rw [Ue s k z,Lc,if_neg h,if_neg j]
theorem zff {s:bA} {k:Nat} (hk:¬ k<s.size) (n:Int):Lc (s.data.toList.drop k) n=some n:=by
 rw [List.drop_eq_nil_of_le (by rw [Wz]; omega),Lc]
theorem sD {s:bA} (h:s.size=0):Ns s.data.toList=none:=by
 have:s.data.toList=[]:=List.eq_nil_of_length_eq_zero (by rw [Wz]; exact h)
 rw [this]
 rfl
theorem sE {s:bA} (A:0<s.size) (h:(s[0].toNat:Int)=48) (h1:1<s.size):Ns s.data.toList=none:=by
 have e:=Ue s 0 A
 rw [List.drop_zero] at e
 rw [e,Ns,if_pos]
 refine⟨h,fun z=>?_⟩
 have j:=congrArg List.length z
 rw [List.length_drop,Wz] at j
 simp only [List.length_nil] at j
 omega
theorem bE {s:bA} (F:0<s.size) (h:¬ ((s[0].toNat:Int)=48/\1<s.size)):Ns s.data.toList=Lc s.data.toList 0:=by
 have e:=Ue s 0 F
 rw [List.drop_zero] at e
 rw [e,Ns,if_neg ?_]
 rintro⟨A,C⟩
 apply h
 refine⟨A,?_⟩
 have z:(List.drop (0+1) s.data.toList).length≠0:=fun j=>C (List.eq_nil_of_length_eq_zero j)
 rw [List.length_drop,Wz] at z
 omega
theorem pX (s:bA):s.toList.isEmpty=decide (s.size=0):=by
 rw [ByteArray.toList_eq,<- Wz]
 cases s.data.toList <;> simp
def Cp (o:Option Int):vL := .tuple #[iP (o.getD 0),.bool o.isSome]
def Tw (b:UInt8):Bool:=(decide (97<=b.toNat) && decide (b.toNat<=122)) || (decide (65<=b.toNat) && decide (b.toNat<=90)) || decide (b.toNat=95)
def Xh (b:UInt8):Bool:=decide (48<=b.toNat) && decide (b.toNat<=57)
def Xm (b:UInt8):Bool:=Tw b || Xh b
def Br (b:UInt8):Bool:=!decide (b.toNat=10)
def P5:List (bS):=[[97,110,100],[97,110,121],[97,115],[98,111,111,108],[101,108,115,101],[101,120,112,111,114,116],[102,97,108,115,101],[102,110],[102,117,110,99,116,105,111,110],[105,102],[105,109,112,111,114,116],[105,110],[105,110,116],[105,115],[108,101,116],[110,111,116],[110,117,108,108],[111,114],[112,114,105,110,116],[114,101,97,100],[114,101,99,111,114,100],[115,116,114],[116,104,101,110],[116,114,117,101],[119,105,116,104]]
def Gq:List (UInt8×UInt8):=[(45,62),(61,62),(60,58),(60,60),(60,61),(62,62),(61,61),(43,43)]
def A9:bS:=[40,41,123,125,91,93,44,58,59,61,43,45,42,47,37,38,94,60,124,46]
def U9:bS->Nat
 | []=>0
 | [a]=>if A9.contains a then 1 else 0
 | a :: b :: _=>if Gq.contains (a,b)then 2 else if A9.contains a then 1 else 0
def Ft (b:UInt8):Option UInt8:=if b=92 then some 92 else if b=34 then some 34 else if b=110 then some 10 else if b=116 then some 9 else none
def Nu:bS->bS->Option (bS×bS)
 | [],_=>none
 | b :: r,acc =>
  if b=34 then some (acc,r)else if b.toNat<32 then none
  else if b=92 then
   match r with
   | []=>none
   | c :: r'=>match Ft c with
    | none=>none
    | some x=>Nu r' (acc ++ [x])
  else Nu r (acc ++ [b])
def Vf:Bool->bS->Nat->Nat->bS×Nat×Nat
 | _,[],li,co=>([],li,co)
 | true,b :: r,li,co=>if b=10 then Vf false r (li+1) 1 else Vf true r li (co+1)
 | false,b :: r,li,co =>
  if b=10 then Vf false r (li+1) 1 else if b=32∨b=9∨b=13 then Vf false r li (co+1)
  else if b=35 then Vf true r li (co+1)else(b :: r,li,co)
abbrev Rd:=Int⊕(Int×bS×bS)
abbrev Rd.bad (e:Int):Rd := .inl e
abbrev Rd.tok (kind:Int) (text rest:bS):Rd := .inr (kind,text,rest)
theorem Od {k j:Int} {t A r z:bS} (h:Rd.tok k t r=Rd.tok j A z):k=j/\t=A/\r=z:=by
 injection h with h
 injection h with h1 h2
 injection h2 with h2 h3
 exact⟨h1,h2,h3⟩
def U1 (l:bS):Rd :=
 match l with
 | [] => .bad 5
 | b :: r =>
  if Tw b then
   if 32<((b :: r).takeWhile Xm).length then .bad 2
   else .tok (if P5.contains ((b :: r).takeWhile Xm)then 2 else 1) ((b :: r).takeWhile Xm) ((b :: r).dropWhile Xm)
  else if Xh b then
   match Ns ((b :: r).takeWhile Xh)with
   | none => .bad 3
   | some _ => .tok 3 ((b :: r).takeWhile Xh) ((b :: r).dropWhile Xh)
  else if b=34 then
   match Nu r [] with
   | none => .bad 4
   | some (said,rest)=>if 256<said.length then .bad 2 else .tok 4 said rest
  else if U9 (b :: r)=0 then .bad 5
  else .tok 5 ((b :: r).take (U9 (b :: r))) ((b :: r).drop (U9 (b :: r)))
structure Tok where
 kind:Int
 text:bS
 line:Nat
 col:Nat
abbrev Lx:=List Tok⊕(Int×Nat×Nat)
abbrev Lx.toks (l:List Tok):Lx := .inl l
abbrev Lx.bad (e:Int) (line col:Nat):Lx := .inr (e,line,col)
def Lx.pre (a:List Tok):Lx->Lx
 | .inl l => .inl (a ++ l)
 | .inr b => .inr b
def Kn:Nat->bS->Nat->Nat->Nat->Lx
 | 0,_,_,_,_ => .bad 0 0 0
 | f+1,l,li,co,n =>
  match Vf false l li co with
  | ([],li',co') => .toks [⟨0,[],li',co'⟩]
  | (b :: r,li',co') =>
   match U1 (b :: r)with
   | .inl e => .bad e li' co'
   | .inr (k,t,rest)=>if n=8192 then .bad 19 li' co' else(Kn f rest li' (co'+((b :: r).length - rest.length)) (n+1)).pre [⟨k,t,li',co'⟩]
def Pz (l:bS):Lx:=if 65536<l.length then .bad 2 1 1 else Kn (l.length+1) l 1 1 0
def Gj (l:bS):Bool :=
 match l with
 | []=>false
 | b :: r=>decide ((b :: r).length<=32) && Tw b && (b :: r).all Xm && !P5.contains (b :: r)
/-! What follows of them by themselves. -/
theorem zfs (a b:List Tok) (x:Lx):(x.pre b).pre a=x.pre (a ++ b):=by
 cases x <;> simp [Lx.pre]
theorem zfr (x:Lx):x.pre []=x:=by
 cases x <;> simp [Lx.pre]
theorem ziu (l:bS) (li co:Nat):Vf true l li co=Vf false (l.dropWhile Br) li (co+(l.takeWhile Br).length):=by
 induction l generalizing co with
 | nil=>simp [Vf]
 | cons b r ih =>
  by_cases h:b=10
  ·subst h
   simp [Vf,Br,List.takeWhile,List.dropWhile]
  ·have j:Br b=true:=by
    simp only [Br,Bool.not_eq_true',decide_eq_false_iff_not];intro z;exact h (UInt8.toNat_inj.1 z)
   rw [Vf,if_neg h,ih,List.dropWhile_cons_of_pos j,List.takeWhile_cons_of_pos j];simp [Nat.add_assoc,Nat.add_comm 1]
theorem uU (c:Bool) (l:bS) (li co:Nat):(Vf c l li co).1 <:+ l:=by
 induction l generalizing c li co with
 | nil=>cases c <;> simp [Vf]
 | cons b r ih =>
  cases c
  ·rw [Vf]
   split
   ·exact(ih _ _ _).trans (List.suffix_cons b r)
   split
   ·exact(ih _ _ _).trans (List.suffix_cons b r)
   split
   ·exact(ih _ _ _).trans (List.suffix_cons b r)
   ·exact List.suffix_refl _
  ·rw [Vf]
   split
   ·exact(ih _ _ _).trans (List.suffix_cons b r)
   ·exact(ih _ _ _).trans (List.suffix_cons b r)
theorem zjf (acc:bS):Nu [] acc=none:=rfl
theorem rU (r acc:bS):Nu (34 :: r) acc=some (acc,r):=by
 rw [Nu.eq_def]
 simp
theorem rQ {b:UInt8} (h:b.toNat<32) (r acc:bS):Nu (b :: r) acc=none:=by
 rw [Nu.eq_def]
 have j:¬ b=34:=fun e=>by rw [e] at h; revert h; decide
 simp [j,h]
theorem rP (acc:bS):Nu [92] acc=none:=by
 rw [Nu.eq_def]
 simp
theorem rR {c:UInt8} (h:Ft c=none) (r acc:bS):Nu (92 :: c :: r) acc=none:=by
 rw [Nu.eq_def]
 simp [h]
theorem rV {c x:UInt8} (h:Ft c=some x) (r acc:bS):Nu (92 :: c :: r) acc=Nu r (acc ++ [x]):=by
 rw [Nu.eq_def]
 simp [h]
theorem rT {b:UInt8} (h:¬ b=34) (j:¬ b.toNat<32) (z:¬ b=92) (r acc:bS):Nu (b :: r) acc=Nu r (acc ++ [b]):=by
 rw [Nu.eq_def]
 simp [h,j,z]
theorem zje {P:bS->bS->Prop} (j:∀ acc,P [] acc) (J:∀ r acc,P (34 :: r) acc) (A:∀ b r acc,b.toNat<32->P (b :: r) acc) (F:∀ acc,P [92] acc)
  (I:∀ c r acc,Ft c=none->P (92 :: c :: r) acc) (C:∀ c x r acc,Ft c=some x->P r (acc ++ [x])->P (92 :: c :: r) acc)
  (z:∀ b r acc,¬ b=34->¬ b.toNat<32->¬ b=92->P r (acc ++ [b])->P (b :: r) acc) (l acc:bS):P l acc:=by
 suffices H:∀ n (l acc:bS),l.length<=n->P l acc from H l.length l acc (xR)
 intro n
 induction n with
 | zero =>
  intro l acc h;rw [List.eq_nil_of_length_eq_zero (Nat.le_zero.1 h)];exact j acc
 | succ n ih =>
  intro l acc h
  match l,h with
  | [],_=>exact j acc
  | b :: r,h =>
   by_cases b1:b=34
   ·subst b1; exact J r acc
   by_cases b2:b.toNat<32
   ·exact A b r acc b2
   by_cases b3:b=92
   ·subst b3
    match r,h with
    | [],_=>exact F acc
    | c :: r,h =>
     cases hc:Ft c with
     | none=>exact I c r acc hc
     | some x=>exact C c x r acc hc (ih _ _ (by simp at h; omega))
   ·exact z b r acc b1 b2 b3 (ih _ _ (by simp at h; omega))
theorem zjg (l acc z j:bS) (h:Nu l acc=some (z,j)):∃ c,l=c ++ j/\c≠[]:=by
 revert h
 refine zje (P:=fun l acc=>Nu l acc=some (z,j)->∃ c,l=c ++ j/\c≠[]) ?_ ?_ ?_ ?_ ?_ ?_ ?_ l acc
 ·intro acc h; cases h
 ·intro r acc h
  rw [rU] at h;injection h with h;injection h with h1 h2;exact⟨[34],by simp [h2],by simp⟩
 ·intro b r acc J h; rw [rQ J] at h; cases h
 ·intro acc h; rw [rP] at h; cases h
 ·intro c r acc A h; rw [rR A] at h; cases h
 ·intro c x r acc A C h
  rw [rV A] at h;obtain⟨d,rfl,_⟩:=C h;exact⟨92 :: c :: d,by simp,by simp⟩
 ·intro b r acc I H F C h
  rw [rT I H F] at h;obtain⟨d,rfl,_⟩:=C h;exact⟨b :: d,by simp,by simp⟩
theorem pS (l:bS):U9 l<=l.length:=by
 match l with
 | []=>simp [U9]
 | [a]=>simp only [U9]; split <;> simp
 | a :: b :: r=>simp only [U9]; split <;> (try split) <;> simp
theorem pL {l t j:bS} {k:Int} (h:U1 l = .tok k t j):∃ c,l=c ++ j/\c≠[]:=by
 unfold U1 at h
 split at h
 ·cases h
 ·rename_i b r
  split at h
  ·rename_i F
   split at h
   ·cases h
   ·obtain⟨C,A,z⟩:=Od h
    have J:Xm b=true:=by simp [Xm,F]
    exact⟨(b :: r).takeWhile Xm,by rw [<- z,List.takeWhile_append_dropWhile],by rw [List.takeWhile_cons_of_pos J]; simp⟩
  split at h
  ·rename_i F
   split at h
   ·cases h
   ·obtain⟨C,A,z⟩:=Od h
    exact⟨(b :: r).takeWhile Xh,by rw [<- z,List.takeWhile_append_dropWhile],by rw [List.takeWhile_cons_of_pos F]; simp⟩
  split at h
  ·split at h
   ·cases h
   ·rename_i said rest' hs
    split at h
    ·cases h
    ·obtain⟨C,A,z⟩:=Od h
     subst z;obtain⟨c,I,_⟩:=zjg _ _ _ _ hs;exact⟨b :: c,by rw [I]; rfl,by simp⟩
  split at h
  ·cases h
  ·rename_i h0
   obtain⟨C,A,z⟩:=Od h;refine⟨(b :: r).take (U9 (b :: r)),by rw [<- z,List.take_append_drop],?_⟩;intro H;have:=congrArg List.length H;rw [List.length_take] at this;have:=pS (b :: r);simp at *;omega
section
open Go.RowKit
theorem Za {p:Prop} (h:p):xQ p:=h
theorem Cs {s t:bA}:(s.toList == t.toList)=true↔s=t:=by
 rw [ByteArray.toList_eq,ByteArray.toList_eq,beq_iff_eq]
 constructor
 ·intro h
  cases s; cases t
  simp at h;rw [h]
 ·rintro rfl; rfl
theorem uY {s t:bA} (h:(s.toList == t.toList)=false):s≠t:=fun e=>by
 rw [Cs.2 e] at h
 cases h
end
abbrev Ty:=DataW Unit
def Y7 (k:Int) (nm:List UInt8) (ns:List (List UInt8)) (ks:List Ty):Ty := .agg [.lit (.int .i64 k),.lit (.string nm),.agg (ns.map fun s => .lit (.string s)),.agg ks]
def uV:Ty->List UInt8
 | .lit (.string s)=>s
 | _=>[]
def fC:Ty->Int
 | .agg (.lit (.int _ k) :: _)=>k
 | _=>0
def nameT:Ty->List UInt8
 | .agg (_ :: s :: _)=>uV s
 | _=>[]
def dI:Ty->List (List UInt8)
 | .agg (_ :: _ :: .agg l :: _)=>l.map uV
 | _=>[]
def kidsT:Ty->List Ty
 | .agg (_ :: _ :: _ :: .agg l :: _)=>l
 | _=>[]
section
variable (k : Int) (nm : List UInt8) (ns : List (List UInt8)) (ks : List Ty)
theorem dL:dI (Y7 k nm ns ks)=ns:=by
 show(ns.map fun s=>(DataW.lit (.string s):Ty)).map uV=ns
 rw [List.map_map]
 exact List.map_id _
end
theorem f9 {k F:Int} {nm z:List UInt8} {ns A:List (List UInt8)} {ks j:List Ty} (h:Y7 k nm ns ks=Y7 F z A j):k=F/\nm=z/\ns=A/\ks=j:=by
 have H:=congrArg fC h
 have J:=congrArg nameT h
 have C:=congrArg dI h
 have I:=congrArg kidsT h
 rw [dL,dL] at C
 exact⟨H,J,C,I⟩
def Xb (k:Int):List UInt8:=if k=0 then [97,110,121] else if k=1 then [110,117,108,108] else if k=2 then [98,111,111,108] else if k=3 then [105,110,116] else [115,116,114]
section
variable {n : Nat} {b : Bool}
end
section
open Go.RowKit
def Id (w:wD) (a:oA) (ns:List (bS)):Prop :=
 ns=[]∨∃ b o,a=some (aP b o)/\b<w.heap.size/\∀ i (h:i<ns.length),w.cell? (aP b (o+i))=some (.string ⟨ns[i].toArray⟩)
def Hg (w:wD) (b:Nat):Prop:=∃ cs t,w.heap[b]?=some (.cells cs t (0,0))
def tR (w:wD) (u:Bool) (T:vL->Ty->Prop) (ka:oA) (ks:List Ty):Prop :=
 ks=[]∨∃ b o,ka=some (aP b o)/\b<w.heap.size/\w.frozen? (aP b o)=false/\(u=true->Hg w b)/\∀ i (h:i<ks.length),∃ c0 c1 c2 c3,w.cell? (aP b (o+i*4))=some c0/\w.cell? (aP b (o+i*4+1))=some c1 /\
   w.cell? (aP b (o+i*4+2))=some c2/\w.cell? (aP b (o+i*4+3))=some c3/\T (.agg #[c0,c1,c2,c3]) ks[i]
def Ig (w:wD) (u:Bool):Nat->vL->Ty->Prop
 | 0,_,_=>False
 | n+1,v,D=>∃ (k:Int) (nm:bA) (na:oA) (nc:Nat) (ka:oA) (kc:Nat) (ns:List (bS)) (ks:List Ty),
  v = .agg #[iP k,.string nm,.slice na ns.length nc,.slice ka ks.length kc]/\D=Y7 k nm.data.toList ns ks/\(Lit.int .i64 k).wf=true/\nm.size<=reachBytes/\(∀ s ∈ ns,s.length<=reachBytes) /\
  (ns.length<=nc/\ns.length<=reachBytes)/\(ks.length<=kc/\ks.length<=reachBytes)/\Id w na ns/\tR w u (fun v D=>Ig w u n v D) ka ks
abbrev yH (w:wD) (u:Bool) (n:Nat) (ka:oA) (ks:List Ty):Prop:=tR w u (fun v D=>Ig w u n v D) ka ks
theorem zP {w w':wD} {a:oA} {ns:List (bS)} (h:Id w a ns) (z:Below w.heap.size w w'):Id w' a ns:=by
 rcases h with h | ⟨b,o,ha,j,C⟩
 ·exact .inl h
 ·exact .inr ⟨b,o,ha,xT j z.size,fun i A=>(z.cell (p:=(aP b (o+i))) j).trans (C i A)⟩
theorem oV {w w':wD} {b:Nat} (h:Hg w b) (j:Below w.heap.size w w'):Hg w' b:=by
 obtain⟨cs,t,h⟩:=h
 exact⟨cs,t,(j.block b (xB h)).trans h⟩
theorem aI {w w':wD} {u:Bool} {T A:vL->Ty->Prop} {ka:oA} {ks:List Ty} (J:∀ v D,D ∈ ks->T v D->A v D) (h:tR w u T ka ks) (j:Below w.heap.size w w'):tR w' u A ka ks:=by
 rcases h with O | ⟨b,o,ha,z,hf,Z,M⟩
 ·exact .inl O
 ·refine .inr ⟨b,o,ha,xT z j.size,(j.frozen (p:=aP b o) z).trans hf,fun F=>oV (Z F) j,fun i C=>?_⟩
  obtain⟨c0,c1,c2,c3,H,Y,I,N,V⟩:=M i C
  exact⟨c0,c1,c2,c3,(j.cell (p:=(aP b (o+i*4))) z).trans H,(j.cell (p:=(aP b (o+i*4+1))) z).trans Y,(j.cell (p:=(aP b (o+i*4+2))) z).trans I,
   (j.cell (p:=(aP b (o+i*4+3))) z).trans N,J _ _ (List.getElem_mem C) V⟩
theorem tD {w w':wD} {u:Bool} {n:Nat} {v:vL} {D:Ty} (h:Ig w u n v D) (j:Below w.heap.size w w'):Ig w' u n v D:=by
 induction n generalizing v D with
 | zero=>exact h.elim
 | succ n ih =>
  obtain⟨k,nm,na,nc,ka,kc,ns,ks,z,N,F,I,A,C,J,M,H⟩:=h;exact⟨k,nm,na,nc,ka,kc,ns,ks,z,N,F,I,A,C,J,zP M j,aI (fun _ _ _ h=>ih h) H j⟩
theorem xG {w w':wD} {u:Bool} {n:Nat} {ka:oA} {ks:List Ty} (h:yH w u n ka ks) (j:Below w.heap.size w w'):yH w' u n ka ks:=aI (fun _ _ _ h=>tD h j) h j
theorem fA {w:wD} {u:Bool} {n:Nat} {ka:oA} {ks:List Ty} (h:yH w u n ka ks) {i:Nat} (A:i<ks.length) :
  ∃ b o k nm na nl nc la ll lc,ka=some (aP b o)/\b<w.heap.size/\w.cell? (aP b (o+i*4))=some (iP k)/\w.cell? (aP b (o+i*4+1))=some (.string nm)/\w.cell? (aP b (o+i*4+2))=some (.slice na nl nc) /\
   w.cell? (aP b (o+i*4+3))=some (.slice la ll lc)/\Ig w u n (.agg #[iP k,.string nm,.slice na nl nc,.slice la ll lc]) ks[i]:=by
 rcases h with rfl | ⟨b,o,rfl,C,_,_,H⟩
 ·cases A
 ·obtain⟨c0,c1,c2,c3,F,M,I,J,z⟩:=H i A
  cases n with
  | zero=>exact z.elim
  | succ n =>
   have j:=z;obtain⟨k,nm,na,nc,ka,kc,ns,ks',h1,_⟩:=z;injection h1 with e;injection e with e;injection e with e0 e;injection e with e1 e;injection e with e2 e;injection e with e3 _;subst e0 e1 e2 e3;exact⟨b,o,k,nm,na,ns.length,nc,ka,ks'.length,kc,rfl,C,F,M,I,J,j⟩
theorem cG {H:Type} {P:Program} {e:TypeId}:∀ {ds:List (DataW H)} {d:DataW H},d ∈ ds->∀ m ∈ d.weights P e,m ∈ DataW.weightsAll P e ds
 | [],_,h,_,_=>by cases h
 | d0 :: ds,d,h,m,hm=>by
  rw [DataW.weightsAll,List.mem_append];rcases List.mem_cons.1 h with rfl | h
  ·exact .inl hm
  ·exact .inr (cG h m hm)
theorem wB {cs:List vL} {o:Nat} (h:cs.length=4) (j:o<4):∃ c,(cs.drop o).take 1=[c]/\cs[o]?=some c:=by
 match cs,h,o,j with
 | [a,b,c,d],_,0,_=>exact⟨a,rfl,rfl⟩
 | [a,b,c,d],_,1,_=>exact⟨b,rfl,rfl⟩
 | [a,b,c,d],_,2,_=>exact⟨c,rfl,rfl⟩
 | [a,b,c,d],_,3,_=>exact⟨d,rfl,rfl⟩
theorem Zz {w w1 w2:wD} (h:Below w.heap.size w w1) (k:Below w1.heap.size w1 w2):Below w.heap.size w w2:=h.trans (k.mono h.size)
theorem Zq (w:wD) (o:Obj):Below w.heap.size w (w.alloc o):=(Below.refl _ w).alloc (xR) o
abbrev Z7 (k:Int) (nm:bA) (na:oA) (nl nc:Nat) (ka:oA) (kl kc:Nat):Obj := .cells #[iP k,.string nm,.slice na nl nc,.slice ka kl kc] 94
def Bb (w:wD) (lo:Nat) (a:oA) (ns:List (bS)):Prop :=
 ns=[]∨∃ b o,a=some (aP b o)/\lo<=b/\b<w.heap.size/\∀ i (h:i<ns.length),w.cell? (aP b (o+i))=some (.string ⟨ns[i].toArray⟩)
def RowF (w:wD) (lo:Nat) (T:vL->Ty->Prop) (ka:oA) (ks:List Ty):Prop :=
 ks=[]∨∃ b o,ka=some (aP b o)/\lo<=b/\Hg w b/\∀ i (h:i<ks.length),∃ c0 c1 c2 c3,w.cell? (aP b (o+i*4))=some c0/\w.cell? (aP b (o+i*4+1))=some c1 /\
   w.cell? (aP b (o+i*4+2))=some c2/\w.cell? (aP b (o+i*4+3))=some c3/\T (.agg #[c0,c1,c2,c3]) ks[i]
def K0 (w:wD) (lo:Nat):Nat->vL->Ty->Prop
 | 0,_,_=>False
 | n+1,v,D=>∃ (k:Int) (nm:bA) (na:oA) (nc:Nat) (ka:oA) (kc:Nat) (ns:List (bS)) (ks:List Ty),
  v = .agg #[iP k,.string nm,.slice na ns.length nc,.slice ka ks.length kc]/\D=Y7 k nm.data.toList ns ks/\(Lit.int .i64 k).wf=true/\nm.size<=reachBytes/\(∀ s ∈ ns,s.length<=reachBytes) /\
  (ns.length<=nc/\ns.length<=reachBytes)/\(ks.length<=kc/\ks.length<=reachBytes)/\Bb w lo na ns/\RowF w lo (fun v D=>K0 w lo n v D) ka ks
abbrev Qk (w:wD) (lo n:Nat) (ka:oA) (ks:List Ty):Prop:=RowF w lo (fun v D=>K0 w lo n v D) ka ks
theorem l8 {w:wD} {b o:Nat} (h:Hg w b):w.frozen? (aP b o)=false:=by
 obtain⟨cs,t,h⟩:=h
 simp [World.frozen?,h]
theorem Lq {w:wD} {b:Nat} (h:Hg w b):b<w.heap.size:=by
 obtain⟨cs,t,h⟩:=h
 exact xB h
section
variable {w w' : wD} {lo lo' n m : Nat} {v : vL} {D : Ty} {a ka : oA} {ns : List (bS)} {ks : List Ty}
theorem Bb.at (h:Bb w lo a ns):Id w a ns:=by
 rcases h with h | ⟨b,o,e,_,j,z⟩
 ·exact .inl h
 ·exact .inr ⟨b,o,e,j,z⟩
theorem mB (h:K0 w lo n v D) (M:w.heap.size<=w'.heap.size) (N:∀ b,lo<=b->b<w.heap.size->w'.heap[b]?=w.heap[b]?):K0 w' lo n v D:=by
 induction n generalizing v D with
 | zero=>exact h.elim
 | succ n ih =>
  obtain⟨k,nm,na,nc,ka,kc,ns,ks,Y,h2,h3,h4,h5,h6,h7,J,H⟩:=h;refine⟨k,nm,na,nc,ka,kc,ns,ks,Y,h2,h3,h4,h5,h6,h7,?_,?_⟩
  ·rcases J with J | ⟨b,o,e,z,A,F⟩
   ·exact .inl J
   ·exact .inr ⟨b,o,e,z,xT A M,fun i I=>(World.cell?_of_block (w:=w) (a:=(aP b (o+i))) (N b z A)).trans (F i I)⟩
  ·rcases H with H | ⟨b,o,e,z,O,F⟩
   ·exact .inl H
   ·have A:=Lq O
    have V:Hg w' b:=by
     obtain⟨cs,t,T⟩:=O;exact⟨cs,t,(N b z A).trans T⟩
    refine .inr ⟨b,o,e,z,V,fun i I=>?_⟩;obtain⟨c0,c1,c2,c3,Z,e1,e2,e3,ht⟩:=F i I
    have C:∀ j,w'.cell? (aP b j)=w.cell? (aP b j):=fun j=>World.cell?_of_block (w:=w) (a:=aP b j) (N b z A)
    exact⟨c0,c1,c2,c3,(C _).trans Z,(C _).trans e1,(C _).trans e2,(C _).trans e3,ih ht⟩
theorem lA (h:K0 w lo n v D) (hl:lo'<=lo):K0 w lo' n v D:=by
 induction n generalizing v D with
 | zero=>exact h.elim
 | succ n ih =>
  obtain⟨k,nm,na,nc,ka,kc,ns,ks,F,h2,O,V,I,M,Y,A,z⟩:=h;refine⟨k,nm,na,nc,ka,kc,ns,ks,F,h2,O,V,I,M,Y,?_,?_⟩
  ·rcases A with A | ⟨b,o,e,Z,C,j⟩
   ·exact .inl A
   ·exact .inr ⟨b,o,e,by omega,C,j⟩
  ·rcases z with z | ⟨b,o,e,Z,Xl,j⟩
   ·exact .inl z
   ·refine .inr ⟨b,o,e,by omega,Xl,fun i hi=>?_⟩
    obtain⟨c0,c1,c2,c3,H,e1,J,N,T⟩:=j i hi;exact⟨c0,c1,c2,c3,H,e1,J,N,ih T⟩
theorem Rf (h:K0 w lo n v D) (hm:n<=m):K0 w lo m v D:=by
 induction n generalizing m v D with
 | zero=>exact h.elim
 | succ n ih =>
  obtain⟨m,rfl⟩:∃ p,m=p+1:=⟨m - 1,by omega⟩
  obtain⟨k,nm,na,nc,ka,kc,ns,ks,z,h2,M,O,C,I,T,Z,j⟩:=h;refine⟨k,nm,na,nc,ka,kc,ns,ks,z,h2,M,O,C,I,T,Z,?_⟩;rcases j with j | ⟨b,o,e,V,Xl,H⟩
  ·exact .inl j
  ·refine .inr ⟨b,o,e,V,Xl,fun i Y=>?_⟩
   obtain⟨c0,c1,c2,c3,A,e1,F,J,N⟩:=H i Y;exact⟨c0,c1,c2,c3,A,e1,F,J,ih N (by omega)⟩
theorem eJ (h:K0 w lo n v D):∃ (k:Int) (nm:bA) (na:oA) (nl nc:Nat) (ka:oA) (kl kc:Nat),v = .agg #[iP k,.string nm,.slice na nl nc,.slice ka kl kc]/\fC D=k:=by
 cases n with
 | zero=>exact h.elim
 | succ n =>
  obtain⟨k,nm,na,nc,ka,kc,ns,ks,j,z,_⟩:=h;exact⟨k,nm,na,_,nc,ka,_,kc,j,by rw [z]; rfl⟩
theorem zck (h:Qk w lo n ka ks) {i:Nat} (z:i<ks.length) :
  ∃ b o k nm na nl nc la ll lc,ka=some (aP b o)/\b<w.heap.size/\w.cell? (aP b (o+i*4))=some (iP k)/\w.cell? (aP b (o+i*4+1))=some (.string nm)/\w.cell? (aP b (o+i*4+2))=some (.slice na nl nc) /\
   w.cell? (aP b (o+i*4+3))=some (.slice la ll lc)/\K0 w lo n (.agg #[iP k,.string nm,.slice na nl nc,.slice la ll lc]) ks[i]:=by
 rcases h with rfl | ⟨b,o,rfl,_,J,C⟩
 ·cases z
 ·obtain⟨c0,c1,c2,c3,A,I,F,H,j⟩:=C i z
  obtain⟨k,nm,na,nl,nc,ka,kl,kc,e,_⟩:=eJ j;injection e with e;injection e with e;injection e with e0 e;injection e with e1 e;injection e with e2 e;injection e with e3 _;subst e0 e1 e2 e3;exact⟨b,o,k,nm,na,nl,nc,ka,kl,kc,rfl,Lq J,A,I,F,H,j⟩
end
abbrev tK:=Int×ByteArray×oA×Nat×Nat×oA×Nat×Nat
def tK.list (c:tK):List vL:=[iP c.1,.string c.2.1,.slice c.2.2.1 c.2.2.2.1 c.2.2.2.2.1,.slice c.2.2.2.2.2.1 c.2.2.2.2.2.2.1 c.2.2.2.2.2.2.2]
def tK.val (c:tK):vL := .agg c.list.toArray
abbrev zTy:vL := .agg #[iP 0,sP,nP,nP]
theorem bL {F:Func} {p u:Tmp} {z:TypeId} (h:F.results=#[.cell p z,.tmp u]) (j:Array vL) {P:Program} {w:wD} {g:Nat} {t:TypeId} {cs:Array vL} {C:Nat×Nat} {N:Array Field}
  (J:j.getD p undef=qP g) (M:w.heap[g]?=some (.cells cs t C))
  (H:P.underlying z=some (.struct N)) (I:(P.info? z).map (·.size)=some cs.size) :
  (results F j).run P w = .ok (.tuple #[.agg cs,j.getD u undef]) w:=by
 have A:j[p]?.getD undef=qP g:=by simpa using J
 simp [results,h,A,asAddr,run_loadVar_row w g t z cs C _ M H rfl I]
theorem lB:(prog.info? 94).map (·.size)=some 4:=by kernel_rfl
theorem Iy:(prog.info? 94).map (fun i=>(i.zero,i.size,i.bytes))=some (some zTy,4,72):=by kernel_rfl
theorem Ix:(prog.info? 9).map (fun i=>(i.zero,i.size,i.bytes))=some (some sP,1,16):=by kernel_rfl
theorem Y1 {w:wD} {b o:Nat} {cs:Array vL} {u:vL} {t:TypeId} {j:Nat×Nat} (h:w.heap[b]?=some (.cells cs t j)):(w.setCell (aP b o) u).heap[b]?=some (.cells (cs.setIfInBounds o u) t j):=by
 simp [World.setCell,Array.getElem?_modify,h]
theorem set4 {w:wD} {b:Nat} {y0 y1 y2 y3:vL} {t:TypeId} {A:Nat×Nat} (h:w.heap[b]?=some (.cells #[y0,y1,y2,y3] t A)) (j C F z:vL) :
  ((((w.setCell (aP b 0) j).setCell (aP b 1) C).setCell (aP b 2) F).setCell (aP b 3) z).heap[b]?=some (.cells #[j,C,F,z] t A) :=
 Y1 (Y1 (Y1 (Y1 h)))
theorem G4 {B:Nat} {a w:wD} {b:Nat} (h:Below B a w) (j:B<=b) (z C F A:vL):Below B a ((((w.setCell (aP b 0) z).setCell (aP b 1) C).setCell (aP b 2) F).setCell (aP b 3) A) :=
 (((h.setCell j _).setCell j _).setCell j _).setCell j _
theorem Q1 {w:wD} {b i:Nat} (h:i≠b) (j A C z:vL):((((w.setCell (aP b 0) j).setCell (aP b 1) A).setCell (aP b 2) C).setCell (aP b 3) z).heap[i]?=w.heap[i]?:=by
 rw [xH h,xH h,xH h,xH h]
theorem Bg (w:wD) (j h:Obj):((w.alloc j).alloc h).heap[w.heap.size+1]?=some h:=by
 have:=xL (w.alloc j) h
 simpa using this
theorem Yh {w1:wD} {b:Nat} {y0 y1 y2 y3:vL} {t:TypeId} (h:w1.heap[b]?=some (.cells #[y0,y1,y2,y3] t)) :
  (c4 w1 b y0 y1 y2 y3) /\
  (w1.frozen? (aP b 0)=false/\w1.frozen? (aP b 1)=false/\w1.frozen? (aP b 2)=false/\w1.frozen? (aP b 3)=false)/\b<w1.heap.size:=by
 refine⟨⟨?_,?_,?_,?_⟩,⟨?_,?_,?_,?_⟩,xB h⟩
 all_goals first | (rw [cell_of_row _ _ _ _ _ _ h]; rfl) | simp [World.frozen?,h]
theorem Ak (w:wD) (b:Nat) (h z A j:vL):((((w.setCell (aP b 0) h).setCell (aP b 1) z).setCell (aP b 2) A).setCell (aP b 3) j).heap.size=w.heap.size:=by simp [World.setCell]
end
def Zp (k:Int) (tx:List UInt8) (N:Int) (l c:Nat) (ts:List Ty) (ns:List (List UInt8)) (ks:List Ty):Ty :=
 .agg [.lit (.int .i64 k),.lit (.string tx),.lit (.int .i64 N),.lit (.int .i64 l),.lit (.int .i64 c),.agg ts,.agg (ns.map fun s => .lit (.string s)),.agg ks]
abbrev Pr (α:Type):=(α×Nat)⊕(Int×Nat×Nat)
def Pr.go {α β:Type} (r:Pr α) (f:α->Nat->Pr β):Pr β :=
 match r with
 | .inl (x,a)=>f x a
 | .inr e => .inr e
section
variable (ts : List Tok)
def Zk (a:Nat):Tok:=ts.getD a ⟨0,[],0,0⟩
def Vj {α:Type} (e:Int) (a:Nat):Pr α := .inr (e,(Zk ts a).line,(Zk ts a).col)
def Zg (a:Nat) (s:List UInt8):Bool:=((Zk ts a).kind == 2 || (Zk ts a).kind == 5) && (Zk ts a).text == s
def Ze (a:Nat) (s:List UInt8):Pr Unit:=if Zg ts a s then .inl ((),a+1)else Vj ts 7 a
def Zu (a:Nat):Pr (List UInt8):=if (Zk ts a).kind == 1 then .inl ((Zk ts a).text,a+1)else Vj ts 7 a
def Z9 {α:Type} (one:Nat->Pr α) (sep:List UInt8):Nat->Nat->Pr (List α)
 | 0,a=>Vj ts 7 a
 | f+1,a=>(one a).go fun x a=>if Zg ts a sep then(Z9 one sep f (a+1)).go fun l a => .inl (x :: l,a)else .inl ([x],a)
def Qy {α:Type} (K:Nat->Pr α) (a:Nat):Pr (List UInt8×α):=(Zu ts a).go fun s a=>(Ze ts a [58]).go fun _ a=>(K a).go fun t a => .inl ((s,t),a)
def Mw (K:Nat->Pr Ty) (f a:Nat):Pr Ty :=
 if Zg ts a (Xb 0)then .inl (Y7 0 [] [] [],a+1)
 else if Zg ts a (Xb 1)then .inl (Y7 1 [] [] [],a+1)
 else if Zg ts a (Xb 2)then .inl (Y7 2 [] [] [],a+1)
 else if Zg ts a (Xb 3)then .inl (Y7 3 [] [] [],a+1)
 else if Zg ts a (Xb 4)then .inl (Y7 4 [] [] [],a+1)
 else if Zg ts a [40] then(K (a+1)).go fun t a=>(Ze ts a [41]).go fun _ a => .inl (t,a)
 else if Zg ts a [123] then
  if Zg ts (a+1) [125] then .inl (Y7 5 [] [] [],a+2)
  else(Z9 ts (Qy ts K) [44] f (a+1)).go fun l a=>(Ze ts a [125]).go fun _ a => .inl (Y7 5 [] (l.map (·.1)) (l.map (·.2)),a)
 else(Zu ts a).go fun s a => .inl (Y7 8 s [] [],a)
def Jv (K:Nat->Pr Ty) (f a:Nat):Pr Ty:=(Z9 ts (Mw ts K f) [124] f a).go fun l a=>match l with
 | [t] => .inl (t,a)
 | l => .inl (Y7 7 [] [] l,a)
def Wg (f:Nat):Nat->Nat->Nat->Pr Ty
 | 0,_,a=>Vj ts 6 a
 | n+1,d,a=>if 100<=d then Vj ts 6 a else(Jv ts (Wg f n (d+1)) f a).go fun t a=>if Zg ts a [45,62] then(Wg f n (d+1) (a+1)).go fun r a => .inl (Y7 6 [] [] [t,r],a)else .inl (t,a)
def Vp (K:Nat->Pr Ty) (a:Nat):Pr (List Ty):=if Zg ts a [58] then(K (a+1)).go fun t a => .inl ([t],a)else .inl ([],a)
def B8 (K:Nat->Pr Ty) (a:Nat):Pr (List UInt8×List Ty):=(Ze ts a [40]).go fun _ a=>(Zu ts a).go fun s a=>(Vp ts K a).go fun x a=>(Ze ts a [41]).go fun _ a=>(Vp ts K a).go fun y a => .inl ((s,(if x.isEmpty then [Y7 0 [] [] []] else x) ++ y),a)
def Yj (a:Nat):Nat:=(Zk ts a).line
def Yi (a:Nat):Nat:=(Zk ts a).col
def Uw (signs:List (List UInt8)) (sub:Nat->Pr Ty):Nat->Ty->Nat->Pr Ty
 | 0,_,a=>Vj ts 7 a
 | f+1,x,a=>match signs.find? (Zg ts a)with
  | none => .inl (x,a)
  | some s=>(sub (a+1)).go fun y b=>Uw signs sub f (Zp 14 s 0 (Yj ts a) (Yi ts a) [] [] [x,y]) b
def Qj:List (List UInt8):=[[110,117,108,108],[98,111,111,108],[105,110,116],[115,116,114],[114,101,99,111,114,100],[102,117,110,99,116,105,111,110]]
def Hx (K:Nat->Pr Ty) (sub:Nat->Pr Ty) (a:Nat):Pr Ty:=(sub a).go fun x a=>match ([[60],[60,61],[61,61]]:List (List UInt8)).find? (Zg ts a)with
 | some s=>(sub (a+1)).go fun y b => .inl (Zp 14 s 0 (Yj ts a) (Yi ts a) [] [] [x,y],b)
 | none =>
  if Zg ts a [97,115] then(K (a+1)).go fun t b => .inl (Zp 13 [] 0 (Yj ts a) (Yi ts a) [t] [] [x],b)
  else if Zg ts a [105,115] then match Qj.findIdx? (Zg ts (a+1))with
   | some i => .inl (Zp 12 [] i (Yj ts a) (Yi ts a) [] [] [x],a+2)
   | none=>Vj ts 7 (a+1)
  else .inl (x,a)
def Oi (U:Nat->Pr Ty) (f a:Nat):Pr Ty:=(U a).go fun x a=>Uw ts [[42],[47],[37],[38],[60,60],[62,62]] U f x a
def Ct (U:Nat->Pr Ty) (f a:Nat):Pr Ty:=(Oi ts U f a).go fun x a=>Uw ts [[43],[45],[94]] (Oi ts U f) f x a
def F9 (U:Nat->Pr Ty) (f a:Nat):Pr Ty:=(Ct ts U f a).go fun x a=>Uw ts [[43,43]] (Ct ts U f) f x a
def Ih (K U:Nat->Pr Ty) (f a:Nat):Pr Ty:=(Hx ts K (F9 ts U f) a).go fun x a=>Uw ts [[97,110,100]] (Hx ts K (F9 ts U f)) f x a
def Co (K U:Nat->Pr Ty) (f a:Nat):Pr Ty:=(Ih ts K U f a).go fun x a=>Uw ts [[111,114]] (Ih ts K U f) f x a
def Nh (K E U:Nat->Pr Ty) (f a:Nat):Pr Ty :=
 if Zg ts a [108,101,116] then(Zu ts (a+1)).go fun s b=>(Vp ts K b).go fun t b=>(Ze ts b [61]).go fun _ b=>(E b).go fun v b=>(Ze ts b [59]).go fun _ b=>(E b).go fun r b => .inl (Zp 5 s 0 (Yj ts a) (Yi ts a) t [] [v,r],b)
 else if Zg ts a [105,102] then(E (a+1)).go fun c b=>(Ze ts b [116,104,101,110]).go fun _ b=>(E b).go fun x b=>(Ze ts b [101,108,115,101]).go fun _ b=>(E b).go fun y b => .inl (Zp 11 [] 0 (Yj ts a) (Yi ts a) [] [] [c,x,y],b)
 else if Zg ts a [102,110] then(B8 ts K (a+1)).go fun h b=>(Ze ts b [61,62]).go fun _ b=>(E b).go fun x b => .inl (Zp 6 h.1 0 (Yj ts a) (Yi ts a) h.2 [] [x],b)
 else Co ts K U f a
def Aj (E:Nat->Pr Ty) (f a:Nat):Pr Ty :=
 if Zg ts (a+1) [125] then .inl (Zp 8 [] 0 (Yj ts a) (Yi ts a) [] [] [],a+2)
 else if (Zk ts (a+1)).kind == 1 && ((Zk ts (a+2)).kind == 5 && (Zk ts (a+2)).text == [58])then(Z9 ts (Qy ts E) [44] f (a+1)).go fun l b=>(Ze ts b [125]).go fun _ b => .inl (Zp 8 [] 0 (Yj ts a) (Yi ts a) [] (l.map (·.1)) (l.map (·.2)),b)
 else(E (a+1)).go fun x b=>(Ze ts b [119,105,116,104]).go fun _ b=>(Zu ts b).go fun s b=>(Ze ts b [58]).go fun _ b=>(E b).go fun y b=>(Ze ts b [125]).go fun _ b => .inl (Zp 10 s 0 (Yj ts a) (Yi ts a) [] [] [x,y],b)
def Pt (K E:Nat->Pr Ty) (f a:Nat):Pr Ty :=
 if (Zk ts a).kind == 3 then .inl (Zp 0 [] ((Ns (Zk ts a).text).getD 0) (Yj ts a) (Yi ts a) [] [] [],a+1)
 else if (Zk ts a).kind == 4 then .inl (Zp 1 (Zk ts a).text 0 (Yj ts a) (Yi ts a) [] [] [],a+1)
 else if Zg ts a [116,114,117,101] then .inl (Zp 2 [] 1 (Yj ts a) (Yi ts a) [] [] [],a+1)
 else if Zg ts a [102,97,108,115,101] then .inl (Zp 2 [] 0 (Yj ts a) (Yi ts a) [] [] [],a+1)
 else if Zg ts a [110,117,108,108] then .inl (Zp 3 [] 0 (Yj ts a) (Yi ts a) [] [] [],a+1)
 else if Zg ts a [114,101,97,100] then(Ze ts (a+1) [40]).go fun _ b=>(Ze ts b [41]).go fun _ b => .inl (Zp 18 [] 0 (Yj ts a) (Yi ts a) [] [] [],b)
 else if Zg ts a [112,114,105,110,116] then(Ze ts (a+1) [40]).go fun _ b=>(E b).go fun x b=>(Ze ts b [41]).go fun _ b => .inl (Zp 17 [] 0 (Yj ts a) (Yi ts a) [] [] [x],b)
 else if Zg ts a [40] then(E (a+1)).go fun x b=>(Ze ts b [41]).go fun _ b => .inl (x,b)
 else if Zg ts a [123] then Aj ts E f a
 else(Zu ts a).go fun s b=>if Zg ts b [91] then(Z9 ts K [44] f (b+1)).go fun l b=>(Ze ts b [93]).go fun _ b => .inl (Zp 19 s 0 (Yj ts a) (Yi ts a) l [] [],b)else .inl (Zp 4 s 0 (Yj ts a) (Yi ts a) [] [] [],b)
def U8 (E:Nat->Pr Ty):Nat->Ty->Nat->Pr Ty
 | 0,_,a=>Vj ts 7 a
 | f+1,x,a =>
  if Zg ts a [40] then(E (a+1)).go fun y b=>(Ze ts b [41]).go fun _ b=>U8 E f (Zp 7 [] 0 (Yj ts a) (Yi ts a) [] [] [x,y]) b
  else if Zg ts a [46] then(Zu ts (a+1)).go fun s b=>U8 E f (Zp 9 s 0 (Yj ts a) (Yi ts a) [] [] [x]) b
  else .inl (x,a)
def Vo (f:Nat):Nat->Bool->Nat->Nat->Pr Ty
 | 0,_,_,a=>Vj ts 6 a
 | n+1,u,d,a=>if 100<=d then Vj ts 6 a else
  match u with
  | false=>Nh ts (Wg ts f 101 (d+1)) (Vo f n false (d+1)) (Vo f n true (d+1)) f a
  | true =>
   if Zg ts a [45] then(Vo f n true (d+1) (a+1)).go fun x b => .inl (Zp 16 [] 0 (Yj ts a) (Yi ts a) [] [] [x],b)
   else if Zg ts a [110,111,116] then(Vo f n true (d+1) (a+1)).go fun x b => .inl (Zp 15 [] 0 (Yj ts a) (Yi ts a) [] [] [x],b)
   else(Pt ts (Wg ts f 101 (d+1)) (Vo f n false (d+1)) f a).go fun x b=>U8 ts (Vo f n false (d+1)) f x b
def My (K:Nat->Pr Ty) (a:Nat):Pr (List UInt8×Ty):=(Zu ts a).go fun s b=>if Zg ts b [60,58] then(K (b+1)).go fun t b => .inl ((s,t),b)else .inl ((s,Y7 0 [] [] []),b)
def Mp (K:Nat->Pr Ty) (f a:Nat):Pr (List (List UInt8×Ty)):=if Zg ts a [91] then(Z9 ts (My ts K) [44] f (a+1)).go fun l b=>(Ze ts b [93]).go fun _ b => .inl (l,b)else .inl ([],a)
def L5 (from':List UInt8) (ns:List (List UInt8)) (l c:Nat):Ty := .agg [.lit (.string from'),.agg (ns.map fun s => .lit (.string s)),.lit (.int .i64 l),.lit (.int .i64 c)]
def Mm (nm:List UInt8) (ex:Bool) (vs:List (List UInt8×Ty)) (pm:List UInt8) (tys:List Ty) (body:Ty) (l c:Nat):Ty := .agg [.lit (.string nm),.lit (.bool ex),.agg (vs.map fun v => .agg [.lit (.string v.1),v.2]),.lit (.string pm),.agg tys,body,.lit (.int .i64 l),.lit (.int .i64 c)]
def L3:Nat->Nat->Pr (List Ty)
 | 0,a=>Vj ts 7 a
 | f+1,a=>if Zg ts a [105,109,112,111,114,116] then(Zu ts (a+1)).go fun s b=>(Ze ts b [58]).go fun _ b=>(Z9 ts (Zu ts) [44] ts.length b).go fun l b=>(Ze ts b [59]).go fun _ b=>(L3 f b).go fun r b => .inl (L5 s l (Yj ts a) (Yi ts a) :: r,b)else .inl ([],a)
def Ng (a:Nat):Pr Ty :=
 let ex:=Zg ts a [101,120,112,111,114,116]
 let a:=if ex then a+1 else a
 (Ze ts a [102,110]).go fun _ b=>(Zu ts b).go fun s b=>(Mp ts (Wg ts ts.length 101 0) ts.length b).go fun vs b=>(B8 ts (Wg ts ts.length 101 0) b).go fun h b=>(Ze ts b [61]).go fun _ b=>(Vo ts ts.length 101 false 0 b).go fun x b=>(Ze ts b [59]).go fun _ b =>
  .inl (Mm s ex vs h.1 (if h.2.length=1 then h.2 ++ [Y7 0 [] [] []] else h.2) x (Yj ts a) (Yi ts a),b)
def Bc:Nat->Nat->Pr (List Ty)
 | 0,a=>Vj ts 7 a
 | f+1,a=>if (Zk ts a).kind == 0 then .inl ([],a)else(Ng ts a).go fun d b=>(Bc f b).go fun r b => .inl (d :: r,b)
def Du:Pr (List Ty×List Ty):=(L3 ts ts.length 0).go fun i a=>(Bc ts (ts.length+1) a).go fun d a => .inl ((i,d),a)
def K7 {α:Type} (r:Pr α):Pr α:=r.go fun x a=>if (Zk ts a).kind == 0 then .inl (x,a)else Vj ts 7 a
end
def typeTextV (l:List UInt8):Ty⊕(Int×Nat×Nat):=match Pz l with
 | .inr e => .inr e
 | .inl ts=>match K7 ts (Wg ts ts.length 101 0 0)with
  | .inl (t,_) => .inl t
  | .inr e => .inr e
def P2 (l:List UInt8):(List Ty×List Ty)⊕(Int×Nat×Nat):=match Pz l with
 | .inr e => .inr e
 | .inl ts=>match K7 ts (Du ts)with
  | .inl (t,_) => .inl t
  | .inr e => .inr e
section
open Go.RowKit
structure NV where
 k:Int
 tx:ByteArray
 N:Int
 li:Nat
 co:Nat
 ta:oA
 tl:Nat
 tc:Nat
 na:oA
 nl:Nat
 nc:Nat
 ka:oA
 kl:Nat
 kc:Nat
abbrev NV.val (x:NV):vL := .agg #[iP x.k,.string x.tx,iP x.N,iP x.li,iP x.co,.slice x.ta x.tl x.tc,.slice x.na x.nl x.nc,.slice x.ka x.kl x.kc]
abbrev NV.obj (x:NV):Obj := .cells #[iP x.k,.string x.tx,iP x.N,iP x.li,iP x.co,.slice x.ta x.tl x.tc,.slice x.na x.nl x.nc,.slice x.ka x.kl x.kc] 64
def vB (w:wD) (b o:Nat) (x:NV):Prop :=
 w.cell? (aP b o)=some (iP x.k)/\w.cell? (aP b (o+1))=some (.string x.tx)/\w.cell? (aP b (o+2))=some (iP x.N)/\w.cell? (aP b (o+3))=some (iP x.li)/\w.cell? (aP b (o+4))=some (iP x.co) /\
 w.cell? (aP b (o+5))=some (.slice x.ta x.tl x.tc)/\w.cell? (aP b (o+6))=some (.slice x.na x.nl x.nc)/\w.cell? (aP b (o+7))=some (.slice x.ka x.kl x.kc)
def lO (w:wD) (lo:Nat) (T:NV->Ty->Prop) (ka:oA) (ks:List Ty):Prop :=
 ks=[]∨∃ b o,ka=some (aP b o)/\lo<=b/\Hg w b/\∀ i (h:i<ks.length),∃ x,vB w b (o+i*8) x/\T x ks[i]
def Hv (w:wD) (lo:Nat):Nat->NV->Ty->Prop
 | 0,_,_=>False
 | n+1,x,D=>∃ (tys:List Ty) (ns:List (bS)) (ks:List Ty),D=Zp x.k x.tx.data.toList x.N x.li x.co tys ns ks/\(x.tl=tys.length/\x.nl=ns.length/\x.kl=ks.length) /\
  (tys.length<=100000/\ns.length<=100000/\ks.length<=100000)/\Qk w lo n x.ta tys/\Bb w lo x.na ns/\lO w lo (Hv w lo n) x.ka ks
abbrev O4 (w:wD) (lo n:Nat) (ka:oA) (ks:List Ty):Prop:=lO w lo (Hv w lo n) ka ks
section
variable {w w' : wD} {lo lo' n m : Nat} {x : NV} {D : Ty} {ka : oA} {ks : List Ty}
theorem vB.keep {b o:Nat} (h:vB w b o x) (O:w'.heap[b]?=w.heap[b]?):vB w' b o x:=by
 have z:∀ j,w'.cell? (aP b j)=w.cell? (aP b j):=fun j=>World.cell?_of_block (w:=w) (a:=aP b j) O
 obtain⟨N,F,M,C,J,I,H,A⟩:=h
 exact⟨(z _).trans N,(z _).trans F,(z _).trans M,(z _).trans C,(z _).trans J,(z _).trans I,(z _).trans H,(z _).trans A⟩
theorem Ec {a:oA} {ns:List (bS)} (h:Bb w lo a ns) (j:w.heap.size<=w'.heap.size) (I:∀ b,lo<=b->b<w.heap.size->w'.heap[b]?=w.heap[b]?):Bb w' lo a ns:=by
 rcases h with F | ⟨b,o,e,A,z,H⟩
 ·exact .inl F
 ·exact .inr ⟨b,o,e,A,xT z j,fun i C=>(World.cell?_of_block (w:=w) (a:=(aP b (o+i))) (I b A z)).trans (H i C)⟩
theorem L4 (h:Qk w lo n ka ks) (C:w.heap.size<=w'.heap.size) (F:∀ b,lo<=b->b<w.heap.size->w'.heap[b]?=w.heap[b]?):Qk w' lo n ka ks:=by
 rcases h with Y | ⟨b,o,e,A,I,T⟩
 ·exact .inl Y
 ·have H:=Lq I
  have M:Hg w' b:=by
   obtain⟨cs,t,J⟩:=I;exact⟨cs,t,(F b A H).trans J⟩
  refine .inr ⟨b,o,e,A,M,fun i hi=>?_⟩;obtain⟨c0,c1,c2,c3,N,e1,O,V,Z⟩:=T i hi
  have z:∀ j,w'.cell? (aP b j)=w.cell? (aP b j):=fun j=>World.cell?_of_block (w:=w) (a:=aP b j) (F b A H)
  exact⟨c0,c1,c2,c3,(z _).trans N,(z _).trans e1,(z _).trans O,(z _).trans V,mB Z C F⟩
theorem nW (h:Hv w lo n x D) (j:w.heap.size<=w'.heap.size) (z:∀ b,lo<=b->b<w.heap.size->w'.heap[b]?=w.heap[b]?):Hv w' lo n x D:=by
 induction n generalizing x D with
 | zero=>exact h.elim
 | succ n ih =>
  obtain⟨tys,ns,ks,e,M,h2,O,T,A⟩:=h;refine⟨tys,ns,ks,e,M,h2,L4 O j z,Ec T j z,?_⟩;rcases A with A | ⟨b,o,e,C,H,N⟩
  ·exact .inl A
  ·have F:=Lq H
   have J:Hg w' b:=by
    obtain⟨cs,t,I⟩:=H;exact⟨cs,t,(z b C F).trans I⟩
   refine .inr ⟨b,o,e,C,J,fun i Z=>?_⟩;obtain⟨y,Y,V⟩:=N i Z;exact⟨y,Y.keep (z b C F),ih V⟩
theorem pD (h:Hv w lo n x D) (j:Below w.heap.size w w'):Hv w' lo n x D:=nW h j.size fun b _ z=>j.block b z
theorem dT (h:O4 w lo n ka ks) (z:w.heap.size<=w'.heap.size) (A:∀ b,lo<=b->b<w.heap.size->w'.heap[b]?=w.heap[b]?):O4 w' lo n ka ks:=by
 rcases h with J | ⟨b,o,e,j,F,M⟩
 ·exact .inl J
 ·have C:=Lq F
  have I:Hg w' b:=by
   obtain⟨cs,t,H⟩:=F;exact⟨cs,t,(A b j C).trans H⟩
  refine .inr ⟨b,o,e,j,I,fun i T=>?_⟩;obtain⟨y,O,N⟩:=M i T;exact⟨y,O.keep (A b j C),nW N z A⟩
theorem dS (h:O4 w lo n ka ks) (j:Below w.heap.size w w'):O4 w' lo n ka ks:=dT h j.size fun b _ z=>j.block b z
theorem zcm (h:Qk w lo n ka ks) (j:Below w.heap.size w w'):Qk w' lo n ka ks:=L4 h j.size fun b _ z=>j.block b z
theorem dR (h:O4 w lo n ka ks) {i:Nat} (j:i<ks.length):∃ b o y,ka=some (aP b o)/\b<w.heap.size/\vB w b (o+i*8) y/\Hv w lo n y ks[i]:=by
 rcases h with rfl | ⟨b,o,rfl,_,C,z⟩
 ·cases j
 ·obtain⟨y,F,A⟩:=z i j
  exact⟨b,o,y,rfl,Lq C,F,A⟩
end
theorem zeb {k O:Int} {H A:bS} {N M:Int} {l J c I:Nat} {ts C:List Ty} {ns F:List (bS)} {ks j:List Ty} (h:Zp k H N l c ts ns ks=Zp O A M J I C F j):k=O/\H=A/\N=M/\l=J/\c=I/\ts=C/\ns=F/\ks=j:=by
 unfold Zp at h
 simp only [DataW.agg.injEq,List.cons.injEq,DataW.lit.injEq,Lit.int.injEq,Lit.string.injEq,true_and,and_true] at h
 obtain⟨T,h2,Y,h4,h5,V,Z,h8⟩:=h
 refine⟨T,h2,Y,by omega,by omega,V,?_,h8⟩
 have:=congrArg (List.map uV) Z
 rw [List.map_map,List.map_map] at this
 have z:∀ l:List (bS),l.map (uV ∘ fun s=>(DataW.lit (.string s):Ty))=l:=fun l=>List.map_id _
 rw [z,z] at this
 exact this
end
end Go.Proofs.YtoppemkjhhlegaaGreatDoor
