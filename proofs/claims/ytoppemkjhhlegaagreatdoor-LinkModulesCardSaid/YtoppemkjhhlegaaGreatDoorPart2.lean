/- Part. -/
import Derived.Deep.RegionHeld
import Derived.Deep.RegionWith
import Derived.RegionTactic
import Derived.Maps.AppendAt
import Derived.Maps.OwnSet
import Derived.Test.YtoppemkjhhlegaaGreatDoorPart1
set_option maxRecDepth 100000
set_option maxHeartbeats 4000000
namespace Go.Proofs.YtoppemkjhhlegaaGreatDoor
open Go.Proofs.Tryz
def Xu {α:Type} (ts:List Tok) (r:Pr α):Prop :=
 match r with
 | .inl (_,a)=>a<ts.length
 | .inr (e,l,c)=>(e=6∨e=7)/\∃ t ∈ ts,t.line=l/\t.col=c
def Qr (ts:List Tok):Prop:=∀ a,a<ts.length->(Zk ts a).kind≠0->a+1<ts.length
section
variable {ts : List Tok} {α β : Type}
theorem tok_in {a:Nat} (h:a<ts.length):Zk ts a ∈ ts:=by
 unfold Zk
 rw [List.getD_eq_getElem?_getD,List.getElem?_eq_getElem h]
 exact List.getElem_mem h
theorem G3 {e:Int} (j:e=6∨e=7) {a:Nat} (h:a<ts.length):Xu ts (Vj ts e a:Pr α):=⟨j,_,tok_in h,rfl,rfl⟩
theorem Yx {r:Pr α} {f:α->Nat->Pr β} (h:Xu ts r) (j:∀ x a,a<ts.length->Xu ts (f x a)):Xu ts (r.go f):=by
 unfold Pr.go
 match r,h with
 | .inl (x,a),h=>exact j x a h
 | .inr _,h=>exact h
theorem Fk {c:Prop} [Decidable c] {x y:Pr α} (j:c->Xu ts x) (z:¬ c->Xu ts y):Xu ts (if c then x else y):=by
 by_cases h:c
 ·rw [if_pos h]
  exact j h
 ·rw [if_neg h]
  exact z h
theorem Xx (z:Qr ts) {a:Nat} {s:bS} (h:a<ts.length) (j:Zg ts a s=true):a+1<ts.length:=by
 refine z a h fun A=>?_
 unfold Zg at j
 rw [A] at j
 simp at j
theorem P4 (j:Qr ts) {a:Nat} (s:bS) (h:a<ts.length):Xu ts (Ze ts a s):=by
 unfold Ze
 split
 ·rename_i z
  exact Xx j h z
 ·exact G3 (.inr rfl) h
theorem Af (z:Qr ts) {a:Nat} (h:a<ts.length):Xu ts (Zu ts a):=by
 unfold Zu
 split
 ·rename_i j
  exact z a h fun A=>by rw [A] at j; simp at j
 ·exact G3 (.inr rfl) h
theorem zM (z:Qr ts) {one:Nat->Pr α} (j:∀ a,a<ts.length->Xu ts (one a)) (sep:bS):∀ (f a:Nat),a<ts.length->Xu ts (Z9 ts one sep f a)
 | 0,_,h=>G3 (.inr rfl) h
 | f+1,a,h=>by
  rw [Z9]
  refine Yx (j a h) fun x b A=>?_
  split
  ·rename_i F
   exact Yx (zM z j sep f (b+1) (Xx z A F)) fun _ _ C=>C
  ·exact A
theorem jF (j:Qr ts) {K:Nat->Pr α} (C:∀ a,a<ts.length->Xu ts (K a)) {a:Nat} (h:a<ts.length):Xu ts (Qy ts K a) :=
 Yx (Af j h) fun _ _ A=>Yx (P4 j _ A) fun _ _ F=>Yx (C _ F) fun _ _ z=>z
theorem zfu (j:Qr ts) {K:Nat->Pr Ty} (F:∀ a,a<ts.length->Xu ts (K a)) (f:Nat) {a:Nat} (h:a<ts.length):Xu ts (Mw ts K f a):=by
 unfold Mw
 split
 ·rename_i z; exact Xx j h z
 split
 ·rename_i z; exact Xx j h z
 split
 ·rename_i z; exact Xx j h z
 split
 ·rename_i z; exact Xx j h z
 split
 ·rename_i z; exact Xx j h z
 split
 ·rename_i z
  exact Yx (F _ (Xx j h z)) fun _ _ A=>Yx (P4 j _ A) fun _ _ C=>C
 split
 ·rename_i z
  have A:=Xx j h z
  split
  ·rename_i H; exact Xx j A H
  ·exact Yx (zM j (fun _ h=>jF j F h) _ f _ A) fun _ _ C=>Yx (P4 j _ C) fun _ _ I=>I
 ·exact Yx (Af j h) fun _ _ A=>A
theorem alt_ok (j:Qr ts) {K:Nat->Pr Ty} (A:∀ a,a<ts.length->Xu ts (K a)) (f:Nat) {a:Nat} (h:a<ts.length):Xu ts (Jv ts K f a):=by
 unfold Jv
 refine Yx (zM j (fun _ h=>zfu j A f h) _ f _ h) fun l b z=>?_
 split <;> exact z
theorem xI (j:Qr ts) (f:Nat):∀ (n d a:Nat),a<ts.length->Xu ts (Wg ts f n d a)
 | 0,_,_,h=>G3 (.inl rfl) h
 | n+1,d,a,h=>by
  rw [Wg]
  split
  ·exact G3 (.inl rfl) h
  ·refine Yx (alt_ok j (fun a h=>xI j f n (d+1) a h) f h) fun t b z=>?_
   split
   ·rename_i C
    exact Yx (xI j f n (d+1) (b+1) (Xx j z C)) fun _ _ A=>A
   ·exact z
theorem nX (z:Qr ts) {K:Nat->Pr Ty} (A:∀ a,a<ts.length->Xu ts (K a)) {a:Nat} (h:a<ts.length):Xu ts (Vp ts K a):=by
 unfold Vp
 split
 ·rename_i C
  exact Yx (A _ (Xx z h C)) fun _ _ j=>j
 ·exact h
theorem gE (j:Qr ts) {K:Nat->Pr Ty} (z:∀ a,a<ts.length->Xu ts (K a)) {a:Nat} (h:a<ts.length):Xu ts (B8 ts K a) :=
 Yx (P4 j _ h) fun _ _ C=>Yx (Af j C) fun _ _ I=>Yx (nX j z I) fun _ _ A=>Yx (P4 j _ A) fun _ _ H=>Yx (nX j z H) fun _ _ F=>F
theorem jO {j:List (bS)} {a:Nat} {s:bS} (h:j.find? (Zg ts a)=some s):Zg ts a s=true:=List.find?_some h
theorem xK (A:Qr ts) (j:List (bS)) {sub:Nat->Pr Ty} (z:∀ a,a<ts.length->Xu ts (sub a)):∀ (f:Nat) (x:Ty) (a:Nat),a<ts.length->Xu ts (Uw ts j sub f x a)
 | 0,_,_,h=>G3 (.inr rfl) h
 | f+1,x,a,h=>by
  rw [Uw]
  split
  ·exact h
  ·rename_i s C
   exact Yx (z _ (Xx A h (jO C))) fun y b F=>xK A j z f _ b F
theorem kA (j:Qr ts) {K sub:Nat->Pr Ty} (I:∀ a,a<ts.length->Xu ts (K a)) (H:∀ a,a<ts.length->Xu ts (sub a)) {a:Nat} (h:a<ts.length):Xu ts (Hx ts K sub a):=by
 unfold Hx
 refine Yx (H _ h) fun x b z=>?_
 split
 ·rename_i s N
  exact Yx (H _ (Xx j z (jO N))) fun _ _ C=>C
 ·split
  ·rename_i A
   exact Yx (I _ (Xx j z A)) fun _ _ C=>C
  ·split
   ·rename_i A
    have F:=Xx j z A
    split
    ·rename_i i J
     obtain⟨Zt,M,_⟩:=List.findIdx?_eq_some_iff_getElem.1 J;exact Xx j F M
    ·exact G3 (.inr rfl) F
   ·exact z
section
variable {K E U : Nat -> Pr Ty}
theorem rY (z:Qr ts) (j:∀ a,a<ts.length->Xu ts (U a)) (f:Nat) {a:Nat} (h:a<ts.length):Xu ts (Oi ts U f a):=Yx (j _ h) fun x b A=>xK z _ j f x b A
theorem rW (j:Qr ts) (z:∀ a,a<ts.length->Xu ts (U a)) (f:Nat) {a:Nat} (h:a<ts.length):Xu ts (Ct ts U f a):=Yx (rY j z f h) fun x b A=>xK j _ (fun _ h=>rY j z f h) f x b A
theorem l6 (j:Qr ts) (z:∀ a,a<ts.length->Xu ts (U a)) (f:Nat) {a:Nat} (h:a<ts.length):Xu ts (F9 ts U f a):=Yx (rW j z f h) fun x b A=>xK j _ (fun _ h=>rW j z f h) f x b A
theorem lX (j:Qr ts) (A:∀ a,a<ts.length->Xu ts (K a)) (z:∀ a,a<ts.length->Xu ts (U a)) (f:Nat) {a:Nat} (h:a<ts.length):Xu ts (Ih ts K U f a):=Yx (kA j A (fun _ h=>l6 j z f h) h) fun x b C=>xK j _ (fun _ h=>kA j A (fun _ h=>l6 j z f h) h) f x b C
theorem or_ok (j:Qr ts) (A:∀ a,a<ts.length->Xu ts (K a)) (z:∀ a,a<ts.length->Xu ts (U a)) (f:Nat) {a:Nat} (h:a<ts.length):Xu ts (Co ts K U f a):=Yx (lX j A z f h) fun x b C=>xK j _ (fun _ h=>lX j A z f h) f x b C
theorem zas (j:Qr ts) (M:∀ a,a<ts.length->Xu ts (K a)) (z:∀ a,a<ts.length->Xu ts (E a)) (O:∀ a,a<ts.length->Xu ts (U a)) (f:Nat) {a:Nat} (h:a<ts.length):Xu ts (Nh ts K E U f a):=by
 unfold Nh
 split
 ·rename_i F
  exact Yx (Af j (Xx j h F)) fun _ _ C=>Yx (nX j M C) fun _ _ H=>Yx (P4 j _ H) fun _ _ A=>Yx (z _ A) fun _ _ I=>Yx (P4 j _ I) fun _ _ J=>Yx (z _ J) fun _ _ N=>N
 split
 ·rename_i F
  exact Yx (z _ (Xx j h F)) fun _ _ C=>Yx (P4 j _ C) fun _ _ H=>Yx (z _ H) fun _ _ A=>Yx (P4 j _ A) fun _ _ I=>Yx (z _ I) fun _ _ J=>J
 split
 ·rename_i F
  exact Yx (gE j M (Xx j h F)) fun _ _ C=>Yx (P4 j _ C) fun _ _ H=>Yx (z _ H) fun _ _ A=>A
 ·exact or_ok j M O f h
theorem rec_ok (j:Qr ts) (A:∀ a,a<ts.length->Xu ts (E a)) (f:Nat) {a:Nat} (h:a+1<ts.length):Xu ts (Aj ts E f a):=by
 unfold Aj
 split
 ·rename_i M; exact Xx j h M
 split
 ·exact Yx (zM j (fun _ h=>jF j A h) _ f _ h) fun _ _ z=>Yx (P4 j _ z) fun _ _ C=>C
 ·exact Yx (A _ h) fun _ _ z=>Yx (P4 j _ z) fun _ _ C=>Yx (Af j C) fun _ _ F=>Yx (P4 j _ F) fun _ _ I=>Yx (A _ I) fun _ _ J=>Yx (P4 j _ J) fun _ _ H=>H
theorem iV (z:Qr ts) (M:∀ a,a<ts.length->Xu ts (K a)) (H:∀ a,a<ts.length->Xu ts (E a)) (f:Nat) {a:Nat} (h:a<ts.length):Xu ts (Pt ts K E f a):=by
 unfold Pt
 refine Fk (fun j=>z a h fun F=>by rw [F] at j; simp at j) fun _=>?_
 refine Fk (fun j=>z a h fun F=>by rw [F] at j; simp at j) fun _=>?_
 refine Fk (fun j=>Xx z h j) fun _=>?_
 refine Fk (fun j=>Xx z h j) fun _=>?_
 refine Fk (fun j=>Xx z h j) fun _=>?_
 refine Fk (fun j=>Yx (P4 z _ (Xx z h j)) fun _ _ A=>Yx (P4 z _ A) fun _ _ C=>C) fun _=>?_
 refine Fk (fun j=>Yx (P4 z _ (Xx z h j)) fun _ _ A=>Yx (H _ A) fun _ _ C=>Yx (P4 z _ C) fun _ _ J=>J) fun _=>?_
 refine Fk (fun j=>Yx (H _ (Xx z h j)) fun _ _ A=>Yx (P4 z _ A) fun _ _ C=>C) fun _=>?_
 refine Fk (fun j=>rec_ok z H f (Xx z h j)) fun _=>?_
 exact Yx (Af z h) fun s b I=>Fk (fun j=>Yx (zM z M _ f _ (Xx z I j)) fun _ _ A=>Yx (P4 z _ A) fun _ _ C=>C) fun _=>I
theorem bF (j:Qr ts) (A:∀ a,a<ts.length->Xu ts (E a)):∀ (f:Nat) (x:Ty) (a:Nat),a<ts.length->Xu ts (U8 ts E f x a)
 | 0,_,_,h=>G3 (.inr rfl) h
 | f+1,x,a,h=>by
  rw [U8]
  split
  ·rename_i C
   exact Yx (A _ (Xx j h C)) fun _ _ z=>Yx (P4 j _ z) fun _ _ F=>bF j A f _ _ F
  split
  ·rename_i C
   exact Yx (Af j (Xx j h C)) fun _ _ z=>bF j A f _ _ z
  ·exact h
end
theorem zA (j:Qr ts) (f:Nat):∀ (n:Nat) (u:Bool) (d a:Nat),a<ts.length->Xu ts (Vo ts f n u d a)
 | 0,_,_,_,h=>G3 (.inl rfl) h
 | n+1,false,d,_,h=>Fk (fun _=>G3 (.inl rfl) h) fun _=>zas j (fun a h=>xI j f 101 (d+1) a h) (fun a h=>zA j f n false (d+1) a h) (fun a h=>zA j f n true (d+1) a h) f h
 | n+1,true,d,a,h=>Fk (fun _=>G3 (.inl rfl) h) fun _ =>
  Fk (fun A=>Yx (zA j f n true (d+1) (a+1) (Xx j h A)) fun _ _ z=>z) fun _ =>
  Fk (fun A=>Yx (zA j f n true (d+1) (a+1) (Xx j h A)) fun _ _ z=>z) fun _ =>
  Yx (iV j (fun a h=>xI j f 101 (d+1) a h) (fun a h=>zA j f n false (d+1) a h) f h) fun x b C=>bF j (fun a h=>zA j f n false (d+1) a h) f x b C
theorem var_ok (j:Qr ts) {K:Nat->Pr Ty} (C:∀ a,a<ts.length->Xu ts (K a)) {a:Nat} (h:a<ts.length):Xu ts (My ts K a):=by
 unfold My
 refine Yx (Af j h) fun s b z=>?_
 split
 ·rename_i F
  exact Yx (C _ (Xx j z F)) fun _ _ A=>A
 ·exact z
theorem zkt (j:Qr ts) {K:Nat->Pr Ty} (A:∀ a,a<ts.length->Xu ts (K a)) (f:Nat) {a:Nat} (h:a<ts.length):Xu ts (Mp ts K f a):=by
 unfold Mp
 split
 ·rename_i C
  exact Yx (zM j (fun _ h=>var_ok j A h) _ f _ (Xx j h C)) fun _ _ z=>Yx (P4 j _ z) fun _ _ F=>F
 ·exact h
theorem gO (j:Qr ts):∀ (f a:Nat),a<ts.length->Xu ts (L3 ts f a)
 | 0,_,h=>G3 (.inr rfl) h
 | f+1,a,h=>by
  rw [L3]
  split
  ·rename_i H
   exact Yx (Af j (Xx j h H)) fun _ _ A=>Yx (P4 j _ A) fun _ _ I=>Yx (zM j (fun _ h=>Af j h) _ _ _ I) fun _ _ z=>Yx (P4 j _ z) fun _ _ C=>Yx (gO j f _ C) fun _ _ F=>F
  ·exact h
theorem zac (j:Qr ts) {a:Nat} (h:a<ts.length):Xu ts (Ng ts a):=by
 unfold Ng
 have N:(if Zg ts a [101,120,112,111,114,116]=true then a+1 else a)<ts.length:=by
  split
  ·rename_i J; exact Xx j h J
  ·exact h
 exact Yx (P4 j _ N) fun _ _ C=>Yx (Af j C) fun _ _ M=>Yx (zkt j (fun a h=>xI j _ 101 0 a h) _ M) fun _ _ A=>Yx (gE j (fun a h=>xI j _ 101 0 a h) A) fun _ _ H=>Yx (P4 j _ H) fun _ _ I=>Yx (zA j _ 101 false 0 _ I) fun _ _ F=>Yx (P4 j _ F) fun _ _ z=>z
theorem kS (j:Qr ts):∀ (f a:Nat),a<ts.length->Xu ts (Bc ts f a)
 | 0,_,h=>G3 (.inr rfl) h
 | f+1,a,h=>by
  rw [Bc]
  split
  ·exact h
  ·exact Yx (zac j h) fun _ _ z=>Yx (kS j f _ z) fun _ _ A=>A
theorem end_ok {r:Pr α} (h:Xu ts r):Xu ts (K7 ts r):=by
 unfold K7
 refine Yx h fun x b j=>?_
 split
 ·exact j
 ·exact G3 (.inr rfl) j
theorem zeh (j:Qr ts) (h:0<ts.length):Xu ts (K7 ts (Du ts)) :=
 end_ok (Yx (gO j _ 0 h) fun _ _ z=>Yx (kS j _ _ z) fun _ _ A=>A)
end
section
open Go.RowKit
def Ie (w:wD) (tb:Nat) (ts:List Tok):Prop:=∀ a,a<ts.length ->
 w.cell? (aP tb (a*4))=some (iP (Zk ts a).kind)/\w.cell? (aP tb (a*4+1))=some (.string ⟨(Zk ts a).text.toArray⟩) /\
 w.cell? (aP tb (a*4+2))=some (iP (Zk ts a).line)/\w.cell? (aP tb (a*4+3))=some (iP (Zk ts a).col)
structure Ym (ts:List Tok):Prop where
 ends:Qr ts
 pos:0<ts.length
 len:ts.length<=8193
 txt:∀ a,(Zk ts a).text.length<=70000
 wrd:∀ a,a<ts.length->(Zk ts a).kind=2->(Zk ts a).text≠[58]
structure Ps (w:wD) (pb tb cap:Nat) (ts:List Tok) (a d:Nat):Prop where
 blk:w.heap[pb]?=some (.cells #[lP tb ts.length cap,iP a,iP d] 133)
 tlt:tb<pb
 toks:Ie w tb ts
 lt:a<ts.length
structure Rk (w:wD) (pb tb cap:Nat) (ts:List Tok) (a:Nat):Prop where
 c0:w.cell? (aP pb 0)=some (lP tb ts.length cap)
 c1:w.cell? (aP pb 1)=some (iP a)
 ltp:pb<w.heap.size
 tlt:tb<w.heap.size
 toks:Ie w tb ts
 lt:a<ts.length
structure Zl (pb:Nat) (w w':wD):Prop where
 below:Below pb w w'
 keep:∀ b,pb<b->b<w.heap.size->w'.heap[b]?=w.heap[b]?
abbrev Cv (t:Tok):vL := .agg #[iP t.kind,uP t.text,iP t.line,iP t.col]
abbrev Da (li co e:Int):vL := .agg #[iP 0,iP li,iP co,iP e]
abbrev j8 (e:Int) (li co:Nat):Ending := .panicked [{ v := .iface 47 (Da li co e),recovered:=false }]
def Ya {α:Type} (pb tb cap:Nat) (ts:List Tok) (d:Nat) (w:wD) (rep:Nat->wD->vL->α->Prop) (r:Pr α) (e:Ending) (w':wD):Prop :=
 Zl pb w w'/\match r with
 | .inl (x,b)=>Ps w' pb tb cap ts b d/\∃ v,e = .returned v/\rep w.heap.size w' v x
 | .inr (er,li,co)=>e=j8 er li co
theorem Yg (w:wD) (a:Addr) (u:vL):(w.setCell a u).heap.size=w.heap.size:=by simp [World.setCell]
theorem gG (w:wD) (a:Addr) (u:vL) (o:Obj):((w.setCell a u).alloc o).heap[w.heap.size]?=some o:=by
 have:=xL (w.setCell a u) o
 rw [Yg] at this
 exact this
section
variable {w w1 w2 : wD} {pb tb cap a d : Nat} {ts : List Tok}
theorem Zl.refl (pb:Nat) (w:wD):Zl pb w w:=⟨Below.refl _ _,fun _ _ _=>rfl⟩
theorem Zl.trans (h:Zl pb w w1) (k:Zl pb w1 w2):Zl pb w w2:=⟨h.below.trans k.below,fun b z j=>(k.keep b z (xT j h.below.size)).trans (h.keep b z j)⟩
theorem Zl.of (z:pb<w.heap.size) (h:Below w.heap.size w w1):Zl pb w w1:=⟨h.mono (Nat.le_of_lt z),fun b _ j=>h.block b j⟩
theorem Zl.set (h:Zl pb w w1) (o:Nat) (u:vL):Zl pb w (w1.setCell (aP pb o) u):=⟨h.below.setCell (xR) _,fun b z j=>(xH (by show b≠pb; omega)).trans (h.keep b z j)⟩
theorem Zl.drew (h:Zl pb w w1):Zl pb w w1.drew:=⟨h.below.drew,h.keep⟩
theorem Zl.alloc (h:Zl pb w w1) (hp:pb<w.heap.size) (o:Obj):Zl pb w (w1.alloc o):=⟨h.below.alloc (by have:=h.below.size; omega) _,fun b z j=>(xA (xT j h.below.size)).trans (h.keep b z j)⟩
theorem Zl.own (h:Zl pb w w1) {b:Nat} (hp:pb<w.heap.size) (hb:w.heap.size<=b) (o:Nat) (u:vL):Zl pb w (w1.setCell (aP b o) u):=⟨h.below.setCell (by show pb<=b; omega) _,fun c _ j=>(xH (by show c≠b; omega)).trans (h.keep c ‹_› j)⟩
theorem Zl.undrew (h:Zl pb w.drew w1):Zl pb w w1:=⟨⟨h.below.os,h.below.tape,h.below.output,h.below.size,h.below.block⟩,h.keep⟩
theorem Zl.size (h:Zl pb w w1):w.heap.size<=w1.heap.size:=h.below.size
theorem Ps.ltp (h:Ps w pb tb cap ts a d):pb<w.heap.size:=xB h.blk
theorem Ps.cells (h:Ps w pb tb cap ts a d):w.cell? (aP pb 0)=some (lP tb ts.length cap)/\w.cell? (aP pb 1)=some (iP a)/\w.cell? (aP pb 2)=some (iP d):=by
 refine⟨?_,?_,?_⟩ <;> (rw [cell_of_row _ _ _ _ _ _ h.blk]; rfl)
theorem Ps.fz (h:Ps w pb tb cap ts a d) (o:Nat):w.frozen? (aP pb o)=false:=by simp [World.frozen?,h.blk]
theorem Lf (h:Ie w tb ts) (J:w1.heap[tb]?=w.heap[tb]?):Ie w1 tb ts:=fun i A=>by
 have z:∀ j,w1.cell? (aP tb j)=w.cell? (aP tb j):=fun j=>World.cell?_of_block (w:=w) (a:=aP tb j) J
 obtain⟨C,F,H,I⟩:=h i A
 exact⟨(z _).trans C,(z _).trans F,(z _).trans H,(z _).trans I⟩
theorem Ps.below (h:Ps w pb tb cap ts a d) (j:Below w.heap.size w w1):Ps w1 pb tb cap ts a d :=
 ⟨(j.block _ h.ltp).trans h.blk,h.tlt,Lf h.toks (j.block _ (Nat.lt_trans h.tlt h.ltp)),h.lt⟩
theorem Ps.alloc (h:Ps w pb tb cap ts a d) (o:Obj):Ps (w.alloc o) pb tb cap ts a d:=h.below (Zq _ _)
theorem Ps.drew (h:Ps w pb tb cap ts a d):Ps w.drew pb tb cap ts a d:=h.below (Below.refl _ _).drew
theorem Ps.other (h:Ps w pb tb cap ts a d) {b:Nat} (hb:pb<b) (o:Nat) (u:vL):Ps (w.setCell (aP b o) u) pb tb cap ts a d :=
 ⟨(xH (by show pb≠b; omega)).trans h.blk,h.tlt,Lf h.toks (xH (by show tb≠b; have:=h.tlt; omega)),h.lt⟩
theorem Ps.setAt (h:Ps w pb tb cap ts a d) {b:Nat} (j:b<ts.length):Ps (w.setCell (aP pb 1) (iP b)) pb tb cap ts b d :=
 ⟨Y1 h.blk,h.tlt,Lf h.toks (xH (by show tb≠pb; have:=h.tlt; omega)),j⟩
theorem Ps.setDeep (h:Ps w pb tb cap ts a d) (b:Nat):Ps (w.setCell (aP pb 2) (iP b)) pb tb cap ts a b :=
 ⟨Y1 h.blk,h.tlt,Lf h.toks (xH (by show tb≠pb; have:=h.tlt; omega)),h.lt⟩
theorem Ps.rd (h:Ps w pb tb cap ts a d):Rk w pb tb cap ts a:=⟨h.cells.1,h.cells.2.1,h.ltp,Nat.lt_trans h.tlt h.ltp,h.toks,h.lt⟩
theorem Rk.below (h:Rk w pb tb cap ts a) (j:Below w.heap.size w w1):Rk w1 pb tb cap ts a :=
 ⟨(j.cell (p:=aP pb 0) h.ltp).trans h.c0,(j.cell (p:=aP pb 1) h.ltp).trans h.c1,xT h.ltp j.size,xT h.tlt j.size,Lf h.toks (j.block _ h.tlt),h.lt⟩
end
structure B5 {α:Type} (rep:Nat->wD->List vL->α->Prop):Prop where
 keep:∀ {lo w w' c x},rep lo w c x->w.heap.size<=w'.heap.size->(∀ b,lo<=b->b<w.heap.size->w'.heap[b]?=w.heap[b]?)->rep lo w' c x
 lower:∀ {lo lo' w c x},rep lo w c x->lo'<=lo->rep lo' w c x
section
variable {α : Type} {rep : Nat -> wD -> List vL -> α -> Prop} {B et k pb : Nat} {w wx wy w4 : wD} {v v' : vL} {cs : List (List vL)} {xs : List α} {c : List vL} {x : α} {g : Option Nat} {lo : Nat}
def Xt (rep:Nat->wD->List vL->α->Prop) (B:Nat) (G:Nat->Prop) (wx:wD) (c:List vL) (x:α):Prop :=
 ∃ wi lo,rep lo wi c x/\B<=lo/\wi.heap.size<=wx.heap.size/\(∀ b,lo<=b->b<wi.heap.size->wx.heap[b]?=wi.heap[b]?)/\∀ k,G k->k<lo∨wi.heap.size<=k
theorem Xt.now {G:Nat->Prop} (h:Xt rep B G wx c x) (j:B5 rep):rep B wx c x:=by
 obtain⟨wi,lo,A,F,z,C,_⟩:=h
 exact j.lower (j.keep A z C) F
theorem Xt.stay {G:Nat->Prop} (h:Xt rep B G wx c x) (j:Zl pb wx wy) (hp:pb<B):Xt rep B G wy c x:=by
 obtain⟨A,lo,C,J,z,I,H⟩:=h
 exact⟨A,lo,C,J,Nat.le_trans z j.size,fun b M F=>(j.keep b (by omega) (by omega)).trans (I b M F),H⟩
theorem Xt.grown {G G':Nat->Prop} (h:Xt rep B G wx c x) (A:wx.grownBy w4 g) (z:∀ q,g=some q->G q) (j:∀ q,G' q->G q∨wx.heap.size<=q):Xt rep B G' w4 c x:=by
 obtain⟨H,lo,I,M,F,J,C⟩:=h
 refine⟨H,lo,I,M,Nat.le_trans F A.size,fun b O j=>(A.block b (by omega) ?_).trans (J b O j),fun k N=>?_⟩
 ·intro e
  rcases C b (z b e.symm)with h | h <;> omega
 ·rcases j k N with h | h
  ·exact C k h
  ·exact .inr (by omega)
theorem Xt.new {G:Nat->Prop} (h:rep lo wx c x) (j:B<=lo) (z:∀ k,G k->k<lo):Xt rep B G wx c x:=⟨wx,lo,h,j,xR,fun _ _ _=>rfl,fun k A => .inl (z k A)⟩
structure Yq (rep:Nat->wD->List vL->α->Prop) (B et k:Nat) (o:Option Nat) (wx:wD) (v:vL) (cs:List (List vL)) (xs:List α):Prop where
 len:cs.length=xs.length
 each:∀ c ∈ cs,c.length=k
 ow:wx.ownsRow B et k v xs.length cs.flatten
 apart:∀ q,v.ownBlock=some q->o≠some q
 olt:∀ q,o=some q->B<=q/\q<wx.heap.size
 made:∀ i (h1:i<cs.length) (h2:i<xs.length),Xt rep B (fun q=>v.ownBlock=some q∨o=some q) wx cs[i] xs[i]
theorem Ha (rep:Nat->wD->List vL->α->Prop) (B et k:Nat) (w:wD):Yq rep B et k none w nP [] [] :=
 ⟨rfl,(fun _ h=>nomatch h),World.ownsRow_nil _ _ _ _,(fun _ h=>nomatch h),(fun _ h=>nomatch h),(fun _ h _=>nomatch h)⟩
variable {o o' : Option Nat}
theorem Yq.own (h:Yq rep B et k o wx v cs xs):∀ q,v.ownBlock=some q->B<=q/\q<wx.heap.size:=h.ow.lt
theorem Yq.all (h:Yq rep B et k o wx v cs xs):∀ q,v.ownBlock=some q∨o=some q->q<wx.heap.size:=fun q j=>j.elim (fun e=>(h.own q e).2) fun e=>(h.olt q e).2
theorem Yq.stay (h:Yq rep B et k o wx v cs xs) (A:Zl pb wx wy) (J:pb<B):Yq rep B et k o wy v cs xs:=by
 refine⟨h.len,h.each,?_,h.apart,fun q F=>⟨(h.olt q F).1,xT (h.olt q F).2 A.size⟩,fun i H N=>(h.made i H N).stay A J⟩
 obtain⟨I,z⟩:=h.ow
 refine⟨I,?_⟩
 rcases z with z | ⟨g,cap,j,e,M,C,r⟩
 ·exact .inl z
 ·exact .inr ⟨g,cap,j,e,M,(A.keep g (by omega) (xB C)).trans C,r⟩
theorem Yq.beside (h:Yq rep B et k o wx v cs xs) (A:wx.grownBy w4 o) (z:o'=o∨∃ q,o'=some q/\wx.heap.size<=q/\q<w4.heap.size) (hB:B<=wx.heap.size):Yq rep B et k o' w4 v cs xs:=by
 refine⟨h.len,h.each,h.ow.kept A ?_,fun q j e=>?_,fun q j=>?_,fun i F H=>(h.made i F H).grown A (fun q j => .inr j) fun q j=>?_⟩
 ·cases hv:v.ownBlock with
  | none=>exact .inl rfl
  | some q=>exact .inr fun e=>h.apart q hv e.symm
 ·rcases z with rfl | ⟨r,rfl,C,_⟩
  ·exact h.apart q j e
  ·injection e with e
   have:=(h.own q j).2;omega
 ·rcases z with rfl | ⟨r,rfl,C,Sw⟩
  ·exact⟨(h.olt q j).1,xT (h.olt q j).2 A.size⟩
  ·injection j with j
   exact⟨by omega,by omega⟩
 ·rcases j with j | j
  ·exact .inl (.inl j)
  ·rcases z with rfl | ⟨r,rfl,C,_⟩
   ·exact .inl (.inr j)
   ·injection j with j
    exact .inr (by omega)
theorem Yq.put (h:Yq rep B et k o wx v cs xs) (Y:w4.ownsRow B et k v' (xs.length+1) (cs.flatten ++ c)) (H:wy.grownBy w4 v.ownBlock) (A:v'.ownBlock=v.ownBlock∨∃ k,v'.ownBlock=some k/\wy.heap.size<=k)
  (z:Zl pb wx wy) (T:pb<B) (O:c.length=k) (hm:Xt rep B (fun q=>v.ownBlock=some q∨o=some q) wy c x):Yq rep B et k o w4 v' (cs ++ [c]) (xs ++ [x]):=by
 have I:∀ q,v'.ownBlock=some q∨o=some q->(v.ownBlock=some q∨o=some q)∨wy.heap.size<=q:=by
  intro q j;rcases j with j | j
  ·rcases A with e | ⟨r,e,M⟩
   ·exact .inl (.inl (e ▸ j))
   ·rw [e] at j
    injection j with j;exact .inr (by omega)
  ·exact .inl (.inr j)
 refine⟨by simp [h.len],?_,?_,fun q j e=>?_,fun q j=>⟨(h.olt q j).1,?_⟩,fun i J h2=>?_⟩
 ·intro y C
  rcases List.mem_append.1 C with C | C
  ·exact h.each y C
  ·rw [List.mem_singleton.1 C]
   exact O
 ·rw [List.length_append,List.flatten_append]
  simpa using Y
 ·rcases A with e' | ⟨r,e',M⟩
  ·exact h.apart q (e' ▸ j) e
  ·rw [e'] at j
   injection j with j;have:=(h.olt q e).2;have:=z.size;omega
 ·have:=(h.olt q j).2
  have:=z.size;have:=H.size;omega
 ·by_cases F:i<cs.length
  ·rw [List.getElem_append_left F,List.getElem_append_left (by rw [<- h.len]; exact F)]
   exact((h.made i F (by rw [<- h.len]; exact F)).stay z T).grown H (fun q j => .inl j) I
  ·have U5:i=cs.length:=by simp at J; omega
   have V:(cs ++ [c])[i]=c:=by
    rw [List.getElem_append_right (by omega)];simp
   have N:(xs ++ [x])[i]=x:=by
    rw [List.getElem_append_right (by rw [<- h.len]; omega)];simp
   rw [V,N];exact hm.grown H (fun q j => .inl j) I
theorem Zl.grown {w:wD} (h:Zl pb w wx) (z:wx.grownBy w4 g) (hp:pb<w.heap.size) (j:∀ k,g=some k->w.heap.size<=k):Zl pb w w4 where
 below:=h.below.grown z (by have:=h.size; omega) fun k C=>by have:=j k C; omega
 keep:=fun b F A=>(z.block b (by have:=h.size; omega) (fun e=>by have:=j b e.symm; omega)).trans (h.keep b F A)
theorem Ps.grown {tb cap a d:Nat} {ts:List Tok} (h:Ps wx pb tb cap ts a d) (z:wx.grownBy w4 g) (j:∀ k,g=some k->pb<k):Ps w4 pb tb cap ts a d :=
 ⟨(z.block _ h.ltp (fun e=>by have:=j _ e.symm; omega)).trans h.blk,h.tlt,Lf h.toks (z.block _ (Nat.lt_trans h.tlt h.ltp) (fun e=>by have:=j _ e.symm; have:=h.tlt; omega)),h.lt⟩
theorem zT (h:rep lo wx c x) (I:B<=lo) (A:B<=wx.heap.size) (z:c.length=k):Yq rep B et k none (wx.alloc (.cells c.toArray et)) (lP wx.heap.size 1 1) [c] [x]:=by
 refine⟨rfl,fun y J=>by rw [List.mem_singleton.1 J]; exact z,⟨by simp [z],.inr ⟨_,1,c.toArray,rfl,A,xL _ _,xR,by unfold maxLen; omega,by simp [z],by simp [<- z]⟩⟩,(fun _ _ h=>nomatch h),(fun _ h=>nomatch h),fun i C h2=>?_⟩
 have F:i=0:=by simp at C; exact C
 subst F
 exact⟨wx,lo,h,I,by simp,fun b _ H=>xA H,fun q j=>by
  rcases j with j | j
  ·simp [Value.ownBlock] at j
   exact .inr (by omega)
  ·cases j⟩
theorem Yt {n z:Nat} {C:List vL} (h:wx.ownsRow B et z v n C):∃ a cap,v = .slice a n cap:=by
 rcases h.2 with⟨j,A⟩ | ⟨g,cap,cur,j,_⟩
 ·exact⟨none,0,by rw [j,A]⟩
 ·exact⟨_,_,j⟩
theorem V2 (W:wD) (c:List vL) (t:TypeId):∀ j u,c[j]?=some u->(W.alloc (.cells c.toArray t)).cell? ((aP W.heap.size 0).add j)=some u:=by
 intro j u z
 have h:(aP W.heap.size 0).add j=(aP W.heap.size j):=by unfold Addr.add; split <;> simp_all
 rw [h,cell_of_row _ _ j _ t (0,0) (xL W _)]
 simpa using z
theorem Ij:∀ (cs:List (List vL)),(∀ c ∈ cs,c.length=k)->∀ (i:Nat) (z:i<cs.length) (j:Nat),j<k->cs.flatten[i*k+j]?=cs[i][j]?
 | [],_,_,z,_,_=>by cases z
 | c :: cs,h,0,_,j,hj=>by
  rw [List.flatten_cons,List.getElem?_append_left (by rw [h c (xM ..)]; omega)];simp
 | c :: cs,h,i+1,z,j,hj=>by
  have A:=h c (xM ..)
  have e:(i+1)*k+j=k+(i*k+j):=by rw [Nat.add_mul,Nat.one_mul]; omega
  rw [List.flatten_cons,List.getElem?_append_right (by rw [A,e]; omega),A,e,Nat.add_sub_cancel_left];exact Ij cs (fun c A=>h c (xW _ A)) i (by simpa using z) j hj
theorem Yq.form (h:Yq rep B et k o wx v cs xs) (I:B5 rep):∃ (a:oA) (cap:Nat),v = .slice a xs.length cap/\xs.length<=cap/\(xs=[]∨∃ g,a=some (aP g 0)/\B<=g/\Hg wx g /\
  ∀ i (z:i<xs.length),∃ c:List vL,c.length=k/\(∀ j,j<k->wx.cell? (aP g (i*k+j))=c[j]?)/\rep B wx c xs[i]):=by
 rcases h.ow.2 with⟨rfl,C⟩ | ⟨g,cap,cur,rfl,J,H,M,_,_,Di⟩
 ·exact⟨none,0,by rw [C],by omega,.inl (List.length_eq_zero_iff.1 C)⟩
 ·refine⟨_,cap,rfl,M,.inr ⟨g,rfl,J,⟨_,_,H⟩,fun i z=>?_⟩⟩
  have A:i<cs.length:=by rw [h.len]; exact z
  refine⟨cs[i],h.each _ (List.getElem_mem A),fun j N=>?_,(h.made i A z).now I⟩
  have F:i*k+j<xs.length*k:=by
   have:(i+1)*k<=xs.length*k:=Nat.mul_le_mul_right _ z;rw [Nat.add_mul,Nat.one_mul] at this;omega
  rw [h.ow.cellAt (i*k+j) F];exact Ij cs h.each i A j N
end
abbrev Bs:=bS
structure Dg where
 m:Nat
 li:Nat
 co:Nat
 er:Int
structure Vx where
 fr:Bs
 ns:List Bs
 li:Nat
 co:Nat
structure Tz where
 nm:Bs
 ex:Bool
 vs:Nat
 li:Nat
 co:Nat
structure Mo where
 is:List Vx
 ds:List Tz
 tr:List Ty×List Ty
structure En where
 nm:Bs
 m:Nat
 d:Nat
abbrev Wo:=List (Bs×Nat)
def Yp:Wo->Bs->Option Nat
 | [],_=>none
 | p :: l,s=>if p.1 == s then some p.2 else Yp l s
def tC:Ty->Bs
 | .lit (.string s)=>s
 | _=>[]
def xX:Ty->Nat
 | .lit (.int _ z)=>z.toNat
 | _=>0
def Ds:Ty->List Ty
 | .agg l=>l
 | _=>[]
def lZ:Ty->Bool
 | .lit (.bool b)=>b
 | _=>false
def qJ (t:Ty):Vx:=⟨tC ((Ds t).getD 0 (.agg [])),(Ds ((Ds t).getD 1 (.agg []))).map tC,xX ((Ds t).getD 2 (.agg [])),xX ((Ds t).getD 3 (.agg []))⟩
def vQ (t:Ty):Tz:=⟨tC ((Ds t).getD 0 (.agg [])),lZ ((Ds t).getD 1 (.agg [])),(Ds ((Ds t).getD 2 (.agg []))).length,xX ((Ds t).getD 6 (.agg [])),xX ((Ds t).getD 7 (.agg []))⟩
def Ea (D:List Ty×List Ty):Mo:=⟨D.1.map qJ,D.2.map vQ,D⟩
theorem gI (s:Bs) (l:List Bs) (a b:Nat):qJ (L5 s l a b)=⟨s,l,a,b⟩:=by
 simp [qJ,L5,Ds,tC,xX,Function.comp_def]
theorem kH (s:Bs) (h:Bool) (vs:List (bS×Ty)) (j:Bs) (tys:List Ty) (x:Ty) (a b:Nat):vQ (Mm s h vs j tys x a b)=⟨s,h,vs.length,a,b⟩:=by
 simp [vQ,Mm,Ds,tC,xX,lZ]
structure L1 where
 num:Wo
 names:List Bs
 mods:List Mo
 ds:List Dg
def Tx (m:Nat) (nm tx:Bs) (s:L1):L1 :=
 if Gj nm=false then { s with ds:=s.ds ++ [⟨m,1,1,10⟩] }
 else match Yp s.num nm with
 | some _=>{ s with ds:=s.ds ++ [⟨m,1,1,8⟩] }
 | none=>match P2 tx with
  | .inr (e,li,co)=>{ s with num:=(nm,m) :: s.num,ds:=s.ds ++ [⟨m,li,co,e⟩] }
  | .inl D=>{ num:=(nm,m) :: s.num,names:=s.names ++ [nm],mods:=s.mods ++ [Ea D],ds:=s.ds }
def Q5:Nat->List (Bs×Bs)->L1->L1
 | _,[],s=>s
 | m,x :: l,s=>Q5 (m+1) l (Tx m x.1 x.2 s)
def Y6 (l:List (Bs×Bs)):L1:=if 16<l.length then⟨[],[],[],[⟨16,1,1,19⟩]⟩else Q5 0 l ⟨[],[],[],[]⟩
def Kg:Nat->List Tz->Wo->Wo
 | _,[],a=>a
 | i,d :: l,a=>Kg (i+1) l (match Yp a d.nm with | some _=>a | none=>(d.nm,i) :: a)
abbrev Mt (o:Mo):Wo:=Kg 0 o.ds []
def La (es:List En) (s:Bs):Bool:=es.any fun e=>e.nm == s
abbrev Sc:=List En×List Dg
def Jh:Mo:=⟨[],[],([],[])⟩
def Ed:Tz:=⟨[],false,0,0,0⟩
def Lb (o:Mo) (f m li co:Nat) (n:Bs) (s:Sc):Sc :=
 match Yp (Mt o) n with
 | none=>(s.1,s.2 ++ [⟨m,li,co,12⟩])
 | some j=>if (o.ds.getD j Ed).ex=false then(s.1,s.2 ++ [⟨m,li,co,12⟩])else if La s.1 n then(s.1,s.2 ++ [⟨m,li,co,8⟩])else(s.1 ++ [⟨n,f,j⟩],s.2)
def Pj (o:Mo) (f m li co:Nat):List Bs->Sc->Sc
 | [],s=>s
 | n :: r,s=>Pj o f m li co r (Lb o f m li co n s)
def J5 (num:Wo) (mods:List Mo) (m:Nat) (i:Vx) (s:Sc):Sc :=
 match Yp num i.fr with
 | none=>(s.1,s.2 ++ [⟨m,i.li,i.co,11⟩])
 | some f=>Pj (mods.getD f Jh) f m i.li i.co i.ns s
def Ae (num:Wo) (mods:List Mo) (m:Nat):List Vx->Sc->Sc
 | [],s=>s
 | i :: r,s=>Ae num mods m r (J5 num mods m i s)
def Ay (m i:Nat) (d:Tz) (s:Sc):Sc:=if La s.1 d.nm then(s.1,s.2 ++ [⟨m,d.li,d.co,8⟩])else(s.1 ++ [⟨d.nm,m,i⟩],s.2)
def Qx (m:Nat):Nat->List Tz->Sc->Sc
 | _,[],s=>s
 | i,d :: r,s=>Qx m (i+1) r (Ay m i d s)
def zU (num:Wo) (mods:List Mo) (m:Nat) (o:Mo) (ds:List Dg):Sc:=Qx m 0 o.ds (Ae num mods m o.is ([],ds))
def Pk (num:Wo) (mods:List Mo):Nat->List Mo->List (List En)->List Dg->List (List En)×List Dg
 | _,[],ess,ds=>(ess,ds)
 | m,o :: r,ess,ds=>Pk num mods (m+1) r (ess ++ [(zU num mods m o ds).1]) (zU num mods m o ds).2
abbrev Fl (num:Wo) (s:Bs):Nat:=(Yp num s).getD 0
def Hy (num:Wo):List Vx->List Bool->List Bool
 | [],r=>r
 | i :: l,r=>Hy num l (r.set (Fl num i.fr) true)
def Vh:List Bool:=List.replicate 16 false
def Pu (num:Wo) (mods:List Mo):List (List Bool):=mods.map fun o=>Hy num o.is Vh
def Ka (dir:List (List Bool)):Nat->Nat->List Bool->List Bool
 | 0,_,r=>r
 | f+1,at',r=>if r.getD at' false then r else(List.range 16).foldl (fun r k=>if (dir.getD at' Vh).getD k false then Ka dir f k r else r) (r.set at' true)
def Ai (dir:List (List Bool)):List (List Bool):=(List.range dir.length).map fun m=>Ka dir 17 m Vh
def Aw (num:Wo) (reach:List (List Bool)) (m:Nat):List Vx->List Dg->List Dg
 | [],ds=>ds
 | i :: l,ds=>Aw num reach m l (if (reach.getD (Fl num i.fr) Vh).getD m false then ds ++ [⟨m,i.li,i.co,13⟩] else ds)
def G6 (num:Wo) (reach:List (List Bool)):Nat->List Mo->List Dg->List Dg
 | _,[],ds=>ds
 | m,o :: l,ds=>G6 num reach (m+1) l (Aw num reach m o.is ds)
def R9:Bs:=[109,97,105,110]
def I3 (num:Wo) (mods:List Mo):(Nat×Nat)⊕Dg :=
 match Yp num R9 with
 | none => .inr ⟨0,1,1,14⟩
 | some m=>match Yp (Mt (mods.getD m Jh)) R9 with
  | none => .inr ⟨m,1,1,14⟩
  | some i=>if 0<((mods.getD m Jh).ds.getD i Ed).vs then .inr ⟨m,((mods.getD m Jh).ds.getD i Ed).li,((mods.getD m Jh).ds.getD i Ed).co,14⟩else .inl (m,i)
structure Lk where
 names:List Bs
 mods:List Mo
 scopes:List (List En)
 main:Nat×Nat
def Tc (l:List (Bs×Bs)):Lk⊕List Dg :=
 let s:=Y6 l
 if s.ds.length≠0 then .inr s.ds else
 let c:=Pk s.num s.mods 0 s.mods [] []
 if c.2.length≠0 then .inr c.2 else
 let y:=G6 s.num (Ai (Pu s.num s.mods)) 0 s.mods []
 if y.length≠0 then .inr y else
 match I3 s.num s.mods with
 | .inr d => .inr [d]
 | .inl m => .inl ⟨s.names,s.mods,c.1,m⟩
def qA:List (Bs×Bs):=[([109,97,105,110],[105,109,112,111,114,116,32,97,58,32,102,59,32,102,110,32,109,97,105,110,40,120,41,32,61,32,102,40,120,41,59]),([97],[101,120,112,111,114,116,32,102,110,32,102,40,120,41,32,61,32,120,59])]
def mT:List (Bs×Bs):=[([109,97,105,110],[105,109,112,111,114,116,32,97,58,32,102,59,32,102,110,32,109,97,105,110,40,120,41,32,61,32,120,59]),([97],[105,109,112,111,114,116,32,109,97,105,110,58,32,109,97,105,110,59,32,101,120,112,111,114,116,32,102,110,32,102,40,120,41,32,61,32,120,59])]
def exMods:List Mo:=match Tc qA with | .inl x=>x.mods | .inr _=>[]
theorem zdg:Tc qA = .inl ⟨[[109,97,105,110],[97]],exMods,[[⟨[102],1,0⟩,⟨[109,97,105,110],0,0⟩],[⟨[102],1,0⟩]],(0,0)⟩:=by kernel_rfl
theorem zdj:Tc mT = .inr [⟨1,1,1,12⟩]:=by kernel_rfl
end
section
open Go.RowKit Go.Maps
structure Z0 (B:Nat) (S:Nat->Prop) (w w':wD):Prop where
 below:Below B w w'
 keep:∀ b,b<w.heap.size->¬ S b->w'.heap[b]?=w.heap[b]?
section
variable {B : Nat} {S S' : Nat -> Prop} {w w1 w2 : wD}
theorem Z0.refl (B:Nat) (S:Nat->Prop) (w:wD):Z0 B S w w:=⟨Below.refl _ _,fun _ _ _=>rfl⟩
theorem Z0.size (h:Z0 B S w w1):w.heap.size<=w1.heap.size:=h.below.size
theorem Z0.trans (h:Z0 B S w w1) (k:Z0 B S' w1 w2) (A:∀ b,b<w.heap.size->S' b->S b):Z0 B S w w2 :=
 ⟨h.below.trans k.below,fun b j z=>(k.keep b (xT j h.size) fun e=>z (A b j e)).trans (h.keep b j z)⟩
theorem Z0.mono (h:Z0 B S w w1) (A:∀ b,b<w.heap.size->S b->S' b):Z0 B S' w w1:=⟨h.below,fun b j z=>h.keep b j fun e=>z (A b j e)⟩
theorem Z0.of (h:Below w.heap.size w w1) (j:B<=w.heap.size):Z0 B S w w1:=⟨h.mono j,fun b z _=>h.block b z⟩
theorem Z0.alloc (h:Z0 B S w w1) (z:B<=w1.heap.size) (o:Obj):Z0 B S w (w1.alloc o):=⟨h.below.alloc z o,fun b j A=>(xA (xT j h.size)).trans (h.keep b j A)⟩
theorem Z0.drew (h:Z0 B S w w1):Z0 B S w w1.drew:=⟨h.below.drew,h.keep⟩
theorem Z0.undrew (h:Z0 B S w.drew w1):Z0 B S w w1:=⟨⟨h.below.os,h.below.tape,h.below.output,h.below.size,h.below.block⟩,h.keep⟩
theorem Z0.set (h:Z0 B S w w1) {b:Nat} (A:B<=b) (C:b<w.heap.size->S b) (o:Nat) (u:vL):Z0 B S w (w1.setCell (aP b o) u) :=
 ⟨h.below.setCell A _,fun c j z=>(xH (by show c≠b; rintro rfl; exact z (C j))).trans (h.keep c j z)⟩
theorem Z0.grown (h:Z0 B S w w1) {g:Option Nat} (C:w1.grownBy w2 g) (F:B<=w1.heap.size) (A:∀ q,g=some q->B<=q/\(q<w.heap.size->S q)):Z0 B S w w2 :=
 ⟨h.below.grown C F fun q e=>(A q e).1,fun c j z=>(C.block c (xT j h.size) fun e=>z ((A c e.symm).2 j)).trans (h.keep c j z)⟩
theorem Z0.row (h:Z0 B S w w1) {j et k n:Nat} {v:vL} {xs:List vL} (C:w.ownsRow j et k v n xs) (hv:∀ q,v.ownBlock=some q->¬ S q):w1.ownsRow j et k v n xs:=by
 refine⟨C.1,?_⟩
 rcases C.2 with H | ⟨g,cap,z,e,F,A,r⟩
 ·exact .inl H
 ·exact .inr ⟨g,cap,z,e,F,(h.keep g (xB A) (hv g (by rw [e]; rfl))).trans A,r⟩
theorem Z0.obj (h:Z0 B S w w1) {b:Nat} {o:Obj} (j:w.heap[b]?=some o) (z:¬ S b):w1.heap[b]?=some o:=(h.keep b (xB j) z).trans j
theorem Z0.cell (h:Z0 B S w w1) {a:Addr} {u:vL} (j:w.cell? a=some u) (z:¬ S a.block):w1.cell? a=some u:=(World.cell?_of_block (h.keep a.block (World.block_lt_of_cell? w a j) z)).trans j
theorem M7 {b1 b2 C z J I n1 n2:Nat} {j A:vL} {H M:List vL} (F:w.ownsRow b1 C J j n1 H) (O:w.ownsRow b2 z I A n2 M) (N:C≠z):∀ q,j.ownBlock=some q->A.ownBlock≠some q:=by
 intro q e e'
 rcases F.2 with⟨rfl,_⟩ | ⟨g,cap,cur,rfl,_,h,_⟩
 ·cases e
 ·rcases O.2 with⟨rfl,_⟩ | ⟨g',cap',cur',rfl,_,hh',_⟩
  ·cases e'
  ·injection e with e
   injection e' with e';simp only at e e';rw [e] at h;rw [e',h] at hh';injection hh' with hh';injection hh' with _ hh';exact N hh'
theorem Jl {b1 z F n1:Nat} {A:vL} {I:List vL} (H:w.ownsRow b1 z F A n1 I) {q:Nat} (j:A.ownBlock=some q):∃ h,w.heap[q]?=some (.cells h z (0,0)):=by
 rcases H.2 with⟨rfl,_⟩ | ⟨g,cap,h,rfl,_,C,_⟩
 ·cases j
 ·injection j with j
  simp only at j;exact⟨h,j ▸ C⟩
end
theorem xY {P:Program} {c:Code} {K:Act->wD->Prop} {Q:Exit->Act->wD->Prop} {a:Act} {w:wD} (W:wD) {A:Act} (j:Code.wp P c (Exit.then (fun a' w'=>a'=A/\w'=W) Q) a w) (z:K A W):Code.wp P c (Exit.then K Q) a w :=
 Code.wp_mono (fun e a' w' h=>by
  cases e with
  | normal=>obtain⟨rfl,rfl⟩:=h; exact z
  | _=>exact h) j
theorem n9 {P:Program} {c:Code} {K:Act->wD->Prop} {Q:Exit->Act->wD->Prop} {a:Act} {w:wD} (F:oA->Nat->wD->Prop) (G:oA->Nat->wD->wD) {A:oA->Nat->wD->Act}
  (j:Code.wp P c (Exit.then (fun a' w'=>∃ p n y,F p n y/\a'=A p n y/\w'=G p n y) Q) a w) (z:∀ p n y,F p n y->K (A p n y) (G p n y)):Code.wp P c (Exit.then K Q) a w :=
 Code.wp_mono (fun e a' w' h=>by
  cases e with
  | normal=>obtain⟨p,n,y,C,rfl,rfl⟩:=h; exact z p n y C
  | _=>exact h) j
abbrev lkO (c0 c1 c2 c3 c4 c5 c6 c7 c8:vL):Obj := .cells #[c0,c1,c2,c3,c4,c5,c6,c7,c8] 52
theorem Mc {W:wD} {b:Nat} {c0 c1 c2 c3 c4 c5 c6 j c8:vL} {t:TypeId} (h:W.heap[b]?=some (.cells #[c0,c1,c2,c3,c4,c5,c6,j,c8] t)) :
  (c9 W b c0 c1 c2 c3 c4 c5 c6 j c8) /\
  (∀ o,W.frozen? (aP b o)=false)/\b<W.heap.size:=by
 refine⟨⟨?_,?_,?_,?_,?_,?_,?_,?_,?_⟩,fun o=>by simp [World.frozen?,h],xB h⟩ <;> simp [World.cell?,h]
abbrev U3 (d:Dg):List vL:=[iP d.m,iP d.li,iP d.co,iP d.er]
theorem zcg:(prog.info? 47).map (fun i=>(i.zero,i.size,i.bytes))=some (some (.agg #[iP 0,iP 0,iP 0,iP 0]),4,32):=by kernel_rfl
theorem bV (kb lo n:Nat) (d:Dg) (xs:List vL) (w:wD) (c0 c1 c2 c3 c4 c5 c6 T vD:vL) (h:w.heap[kb]?=some (lkO c0 c1 c2 c3 c4 c5 c6 T vD)) (own:w.ownsRow lo 47 4 vD n xs) (hk:kb<lo) (hl:lo<=w.heap.size) (hn:n<=1000000000000) :
  Calls prog 23 #[qP kb,iP d.m,iP d.li,iP d.co,iP d.er] w fun e w'=>e = .returned (.tuple #[])/\∃ vD',w'.heap[kb]?=some (lkO c0 c1 c2 c3 c4 c5 c6 T vD') /\
   w'.ownsRow lo 47 4 vD' (n+1) (xs ++ U3 d)/\(vD'.ownBlock=vD.ownBlock∨∃ q,vD'.ownBlock=some q/\w.heap.size<=q)/\Z0 kb (fun b=>b=kb∨vD.ownBlock=some b) w w':=by
 obtain⟨i0,hi,Xr,V,Xw⟩:=info_parts zcg
 obtain⟨⟨O,M,J,I,F,N,C,z,p8⟩,hfr,Z8⟩:=Mc h
 have H:=Za h
 have A:=Za own
 obtain⟨av,cv,rfl⟩:=Yt own
 clear h own O M J I F N C z
 go_enter func23,ntmps23
 go_wp2_with(at_builtin; refine wpList_append_own_at _ rfl (.tmp 14) (.tmp 20) 32 rfl lo 47 i0 _ 4 32 underlying32 hi Xr V Xw rfl (by decide) _ _ _ rfl (A.o.alloc _) (aP _ 0) 1 1 [iP d.m,iP d.li,iP d.co,iP d.er] rfl rfl (V2 _ _ _) (by simp [Value.oneCell']) (by unfold maxLen; omega) (by omega) (by simp; omega) ?_)
 intro v' w4 Zr Zo _ Z4
 obtain⟨av',cv',rfl⟩:=Yt Zr
 have Z:=Za Zr
 have HG:=Za Zo
 have Y:=Za Z4
 have j:=Za ((Zo.block kb (by rw [xS]; omega) (fun e=>by have:=(A.o.lt kb e.symm).1; omega)).trans ((xA Z8).trans H.o))
 obtain⟨⟨O,M,J,I,F,N,C,z,p8'⟩,hfr',Un⟩:=Mc j.o
 clear Zr Zo Z4 O M J I F N C z
 go_wp2_with fail
 refine bodyPost_end (results_none rfl _ _ _) rfl ⟨rfl,.slice av' (n+1) cv',?_,?_,?_,?_⟩
 ·have:=Y1 (o:=8) (u := .slice av' (n+1) cv') j.o
  simpa using this
 ·exact ownsRow_setCell_below Z.o (a:=aP kb 8) hk _
 ·rcases Y.o with e | e
  ·exact .inl e
  ·exact .inr ⟨_,e,by omega⟩
 ·refine Z0.set ?_ (xR) (fun _ => .inl rfl) 8 _
  refine Z0.grown (Z0.alloc (Z0.refl _ _ _) (by omega) _) HG.o (by rw [xS]; omega) fun q e=>⟨by have:=(A.o.lt q e).1; omega,fun _ => .inr e⟩
theorem uB:Keyed prog 9:=string_keyed underlying9
def zN:Wo->DataW Unit
 | [] => .map []
 | p :: l=>(zN l).put (.string p.1) (.lit (.int .i64 p.2))
theorem nO:∀ l,IsMap (zN l)
 | []=>isMap_empty
 | _ :: l=>(nO l).put _ _
theorem gB (s:Bs):∀ l,Maps.has (zN l) (.string s)=(Yp l s).isSome
 | []=>rfl
 | p :: l=>by
  unfold Yp zN;by_cases h:p.1=s
  ·subst h
   rw [has_put_same (nO l) (by exact True.intro)];simp
  ·rw [has_put_other (by intro e; injection e with e; exact h e.symm),gB s l]
   simp [h]
theorem mM (s:Bs):∀ l,(zN l).atKey (.string s) (.lit (.int .i64 0)) = .lit (.int .i64 (((Yp l s).getD 0:Nat):Int))
 | []=>rfl
 | p :: l=>by
  unfold Yp zN;by_cases h:p.1=s
  ·subst h
   rw [atKey_put_same (nO l) (by exact True.intro)];simp
  ·rw [atKey_put_other (by intro e; injection e with e; exact h e.symm),mM s l]
   simp [h]
def Te (w:wD) (b:Nat) (l:Wo):Prop:=w.ownsMap (H:=Unit) prog 9 (plainElem prog 3) b l.length (zN l)
section
variable {w w' : wD} {b : Nat} {l : Wo}
theorem nZ (w:wD):Te (w.alloc (.map #[] 0)) w.heap.size []:=World.ownsMap_made _ _ _ _
theorem Te.block (h:Te w b l) (C:w'.heap[b]?=w.heap[b]?):Te w' b l:=by
 obtain⟨es,j,z,A⟩:=h
 exact⟨es,j,C.trans z,A⟩
theorem Te.obj (h:Te w b l):∃ es j,w.heap[b]?=some (.map es j):=by
 obtain⟨es,j,z,_⟩:=h
 exact⟨es,j,z⟩
theorem Te.lt (h:Te w b l):b<w.heap.size:=World.ownsMap.lt h
theorem nY (h:Te w b l) (S:bA) (A:S.size<=maxLen):(Instr.lookup 49 (.map (some b)) (.string S) true).run prog w = .ok (.tuple #[iP (((Yp l S.data.toList).getD 0:Nat):Int),.bool (Yp l S.data.toList).isSome]) w:=by
 obtain⟨v,ps,j,hv⟩:=World.ownsMap.look_ok h uB underlying49 (zeroValue3 w) (zd := .lit (.int .i64 0)) (zp:=[]) (plainElem_int underlying3 (by decide)) (Go.WideMaps.keyOf_string_mk underlying9 A)
 rw [mM] at hv
 obtain⟨c,rfl,z,_⟩:=plainElem_int_inv underlying3 hv
 rw [j,gB,(Lit.int.inj (DataW.lit.inj (Prod.mk.inj z).1)).2]
theorem dW (h:Te w b l) (S:bA) (A:S.size<=maxLen):(Instr.lookup 49 (.map (some b)) (.string S) false).run prog w = .ok (iP (((Yp l S.data.toList).getD 0:Nat):Int)) w:=by
 obtain⟨c,z,j,_⟩:=World.ownsMap.lookup_int h uB underlying49 underlying3 (zeroValue3 w) (Go.WideMaps.keyOf_string_mk underlying9 A)
 rw [mM] at j
 rw [z,(Lit.int.inj (DataW.lit.inj j)).2]
theorem dX (h:Te w b l) (hn:l.length<1000000000000) (S:bA) (j:S.size<=maxLen) (i:Nat) (hi:i<1000000000000):∃ w',(Instr.mapUpdate 49 (.map (some b)) (.string S) (iP i)).run prog w = .ok () w'/\Te w' b ((S.data.toList,i) :: l)/\w.grownBy w' (some b):=by
 obtain⟨w',h1,h2,h3⟩:=World.ownsMap.store h uB underlying49 (by unfold maxLen; omega) (Go.WideMaps.keyOf_string_mk underlying9 j) (plainElem_int underlying3 (WalkArith.wf_i64 (n:=(i:Int)) (by omega)))
 exact⟨w',h1,h2,h3.grown⟩
theorem Ao {ops:Array Oper} {j:List Oper} {o:Oper} {a:Act} {Q:Exit->Act->wD->Prop} (I:o.guard=none) (m x:Operand) (z:o.op=Op.lookup 49 m x true) (b:Nat) (l:Wo) (hm:a.eval m = .map (some b)) (h:Te w b l) (S:bA) (J:a.eval x = .string S) (F:S.size<=maxLen)
  (r:Option Nat) (C:Yp l S.data.toList=r) (H:wpList prog ops Q j (a.put o.dst (.tuple #[iP ((r.getD 0:Nat):Int),.bool r.isSome])) w):wpList prog ops Q (o :: j) a w:=by
 refine wpList_plain I fun K' hK'=>?_
 have A:=nY h S F
 rw [C] at A
 unfold Oper.wp
 simp [execOp,z,hm,J,A,Result.andThen]
 exact hK' _ _ H
theorem zli {ops:Array Oper} {j:List Oper} {o:Oper} {a:Act} {Q:Exit->Act->wD->Prop} (H:o.guard=none) (m x v:Operand) (z:o.op=Op.mapUpdate 49 m x v) (b:Nat) (l:Wo) (hm:a.eval m = .map (some b)) (h:Te w b l) (A:l.length<1000000000000) (S:bA) (J:a.eval x = .string S) (C:S.size<=maxLen)
  (i:Nat) (hv:a.eval v=iP i) (I:i<1000000000000) (F:∀ w',Te w' b ((S.data.toList,i) :: l)->w.grownBy w' (some b)->wpList prog ops Q j (a.put o.dst undef) w'):wpList prog ops Q (o :: j) a w:=by
 refine wpList_plain H fun K' hK'=>?_
 obtain⟨w',hr,h2,h3⟩:=dX h A S C i I
 unfold Oper.wp
 simp [execOp,z,hm,J,hv,hr,Result.andThen]
 exact hK' _ _ (F w' h2 h3)
end
def G0 (w:wD) (b:Nat) (es:List En):Prop:=w.ownsMap (H:=Unit) prog 9 unitElem b es.length (setOf (.agg []) (es.map fun e => .string e.nm))
theorem zbf (es:List En) (s:Bs):Maps.has (setOf (H:=Unit) (.agg []) (es.map fun e => .string e.nm)) (.string s)=La es s:=by
 rw [has_setOf _ _ _ (by intro x h; obtain⟨e,_,rfl⟩:=List.mem_map.1 h; exact True.intro)]
 unfold La
 rw [List.any_map]
 rfl
section
variable {w w' : wD} {b : Nat} {es : List En}
theorem zig (w:wD):G0 (w.alloc (.map #[] 0)) w.heap.size []:=World.ownsMap_made _ _ _ _
theorem G0.block (h:G0 w b es) (C:w'.heap[b]?=w.heap[b]?):G0 w' b es:=by
 obtain⟨x,j,z,A⟩:=h
 exact⟨x,j,C.trans z,A⟩
theorem G0.obj (h:G0 w b es):∃ x j,w.heap[b]?=some (.map x j):=by
 obtain⟨x,j,z,_⟩:=h
 exact⟨x,j,z⟩
theorem G0.lt (h:G0 w b es):b<w.heap.size:=World.ownsMap.lt h
theorem zif (h:G0 w b es) (S:bA) (z:S.size<=maxLen):(Instr.lookup 74 (.map (some b)) (.string S) true).run prog w = .ok (.tuple #[.agg #[],.bool (La es S.data.toList)]) w:=by
 obtain⟨v,ps,j,hv⟩:=World.ownsMap.look_ok h uB underlying74 (zeroValue100 w) (zd := .agg []) (zp:=[]) unitElem_mk (Go.WideMaps.keyOf_string_mk underlying9 z)
 obtain⟨rfl,_⟩:=unitElem_inv hv
 rw [j,zbf]
theorem zih (h:G0 w b es) (hn:es.length<1000000000000) (S:bA) (z:S.size<=maxLen) (i j:Nat):∃ w',(Instr.mapUpdate 74 (.map (some b)) (.string S) (.agg #[])).run prog w = .ok () w'/\G0 w' b (es ++ [⟨S.data.toList,i,j⟩])/\w.grownBy w' (some b):=by
 obtain⟨w',hr,h2,h3⟩:=World.ownsMap.store h uB underlying74 (by unfold maxLen; omega) (Go.WideMaps.keyOf_string_mk underlying9 z) unitElem_mk
 refine⟨w',hr,?_,h3.grown⟩
 unfold G0
 rw [List.map_append,List.length_append]
 show World.ownsMap _ _ _ _ _ _ (setOf _ (_ ++ [Lit.string S.data.toList]))
 rw [setOf_snoc]
 exact h2
end
abbrev Qa (e:En):List vL:=[uP e.nm,iP e.m,iP e.d]
theorem nB:(prog.info? 29).map (fun i=>(i.zero,i.size,i.bytes))=some (some (.agg #[sP,iP 0,iP 0]),3,32):=by kernel_rfl
end
abbrev kT (w:World) (b:Nat) (t:Tok):Prop:=c4 w b (iP t.kind) (uP t.text) (iP t.line) (iP t.col)
abbrev kN (w:World) (b:Nat) (x:NV):Prop:=c8 w b (iP x.k) (.string x.tx) (iP x.N) (iP x.li) (iP x.co) (.slice x.ta x.tl x.tc) (.slice x.na x.nl x.nc) (.slice x.ka x.kl x.kc)
section
open Go.RowKit
abbrev pP (pb:Nat):Value := .pointer (some ⟨pb,0,none⟩)
theorem r64 {M:Func} {p:Tmp} {Q:Ending->World->Prop} {a:Act} {W:World} {rb:Nat} {H j I z C A J F:Value} (h:M.results=#[.cell p 64]) (O:a.tmps.getD p undef = .pointer (some ⟨rb,0,none⟩)) (T:W.heap[rb]?=some (.cells #[H,j,I,z,C,A,J,F] 64)) (V:a.defers=[]) (N:Q (.returned (.agg #[H,j,I,z,C,A,J,F])) W):bodyPost prog M Q .ret a W:=bodyPost_ret (results_cell_row h _ _ rb 64 _ (0,0) _ O T underlying64 rfl (by kernel_rfl)) V N
theorem r94 {F:Func} {p:Tmp} {Q:Ending->World->Prop} {a:Act} {W:World} {rb:Nat} {j z A C:Value} (h:F.results=#[.cell p 94]) (H:a.tmps.getD p undef = .pointer (some ⟨rb,0,none⟩)) (I:W.heap[rb]?=some (.cells #[j,z,A,C] 94)) (M:a.defers=[]) (J:Q (.returned (.agg #[j,z,A,C])) W):bodyPost prog F Q .ret a W:=bodyPost_ret (results_cell_row h _ _ rb 94 _ (0,0) _ H I underlying94 rfl (by kernel_rfl)) M J
theorem sF (pb tb cap a:Nat) (ts:List Tok) (w:wD) (h:Rk w pb tb cap ts a) :
  Calls prog 81 #[qP pb] w fun e w'=>e = .returned (Cv (Zk ts a))/\Below w.heap.size w w':=by
 have c0:=h.c0
 have c1:=h.c1
 obtain⟨t0,z,A,j⟩:=h.toks a h.lt
 have Zt:(a:Int)<(ts.length:Int):=by have:=h.lt; omega
 generalize Zk ts a=t at t0 z A j ⊢
 have hp:=h.ltp
 have Uf:tb<w.heap.size:=h.tlt
 clear h
 go_enter func81,ntmps81
 go_wp2
 go_region
 all_goals
  go_wp2;refine bodyPost_ret (results_cell_row rfl _ _ w.heap.size 121 #[iP t.kind,uP t.text,iP t.line,iP t.col] (0,0) _ rfl (xL w _) underlying121 rfl (by kernel_rfl)) rfl ⟨rfl,?_⟩;exact(Zq _ _).drew
theorem J7 (pb tb cap a d:Nat) (ts:List Tok) (w:wD) (h:Ps w pb tb cap ts a d) :
  Calls prog 81 #[qP pb] w fun e w'=>e = .returned (Cv (Zk ts a))/\Below w.heap.size w w':=sF pb tb cap a ts w h.rd
abbrev zTok:Obj := .cells #[iP 0,sP,iP 0,iP 0] 121
theorem Jj (pb tb cap a d:Nat) (ts:List Tok) (w:wD) (h:Ps w pb tb cap ts a d) (M:a+1<ts.length) (hts:ts.length<=8193) :
  Calls prog 105 #[qP pb] w fun e w'=>e = .returned (Cv (Zk ts a))/\Zl pb w w'/\Ps w' pb tb cap ts (a+1) d:=by
 have H:=Za h
 clear h
 go_enter func105,ntmps105
 go_wp2_with fail
 refine(J7 pb tb cap a d ts _ (H.o.below (Zq _ _))).mono ?_
 rintro e w1 ⟨rfl,A⟩
 have P1:=Za (H.o.below (Zz (Zq _ _) A))
 have I:=Za (Zz (Zq _ _) A)
 have C:w1.heap[w.heap.size]?=some zTok:=(A.block _ (by simp)).trans (xL w _)
 obtain⟨⟨r0,r1,r2,r3⟩,⟨f0,f1,f2,f3⟩,F⟩:=Yh C
 have J:=Za C
 obtain⟨c0,c1,c2⟩:=P1.o.cells
 have z1:=P1.o.fz 1
 have Mk:=P1.o.ltp
 have hpw:¬ pb=w.heap.size:=by have:=H.o.ltp; omega
 have z:¬ w.heap.size=pb:=by have:=H.o.ltp; omega
 clear A C
 go_wp2_with fail
 have N:((a:Int)+1)=((a+1:Nat):Int):=by omega
 rw [N]
 refine bodyPost_ret (results_cell_row rfl _ _ w.heap.size 121 #[iP (Zk ts a).kind,.string ⟨(Zk ts a).text.toArray⟩,iP (Zk ts a).line,iP (Zk ts a).col] (0,0) _ rfl ?_ underlying121 rfl (by kernel_rfl)) rfl ⟨rfl,?_,?_⟩
 ·rw [xA (by simpa [World.setCell] using F)]
  exact set4 ((xH z).trans J.o) _ _ _ _
 ·have j:=H.o.ltp
  exact(((((((Zl.of j I.o).set 1 _).own j (xR) 0 _).own j (xR) 1 _).own j (xR) 2 _).own j (xR) 3 _).alloc j _)
 ·have j:=H.o.ltp
  exact((((((P1.o.setAt M).other j 0 _).other j 1 _).other j 2 _).other j 3 _).alloc _)
theorem yA (pb tb cap a d:Nat) (ts:List Tok) (w:wD) (h:Ps w pb tb cap ts a d) (x:Int) :
  Calls prog 82 #[qP pb,iP x] w fun e w'=>e = .returned (Da (Zk ts a).line (Zk ts a).col x)/\Below w.heap.size w w':=by
 have H:=Za h
 clear h
 go_enter func82,ntmps82
 go_wp2_with fail
 refine(J7 pb tb cap a d ts _ (H.o.below (Zq _ _))).mono ?_
 rintro e w1 ⟨rfl,z⟩
 have C:=Za (Zz (Zq _ _) z)
 have j:=(z.block w.heap.size (by simp)).trans (xL w _)
 obtain⟨⟨r0,r1,r2,r3⟩,⟨f0,f1,f2,f3⟩,A⟩:=Yh j
 have F:=Za j
 clear z j
 go_wp2_with fail
 refine bodyPost_ret (results_cell_row rfl _ _ w.heap.size 47 #[iP 0,iP (Zk ts a).line,iP (Zk ts a).col,iP x] (0,0) _ rfl ?_ underlying47 rfl (by kernel_rfl)) rfl ⟨rfl,?_⟩
 ·rw [xA (by simpa [World.setCell] using A)]
  exact set4 F.o _ _ _ _
 ·exact(G4 C.o (xR) _ _ _ _).alloc (by simp [World.setCell]; omega) _
def Ac (L:List (bS)) (s:bS):Int:=match L.findIdx? (· == s)with
 | some i=>i
 | none => -1
theorem zbp {L:List (bS)} {s:bS} {j:Nat} (A:j<L.length) (h:(L[j] == s)=true) (z:∀ m (hm:m<L.length),m<j->(L[m] == s)=false):Ac L s=j:=by
 have:L.findIdx? (· == s)=some j:=List.findIdx?_eq_some_iff_getElem.2 ⟨A,h,fun m hm=>by rw [z m (by omega) hm]; simp⟩
 rw [Ac,this]
theorem zbo {L:List (bS)} {s:bS} (j:∀ m (hm:m<L.length),(L[m] == s)=false):Ac L s = -1:=by
 have:L.findIdx? (· == s)=none:=List.findIdx?_eq_none_iff.2 fun x h=>by
  obtain⟨m,hm,rfl⟩:=List.mem_iff_getElem.1 h;exact j m hm
 rw [Ac,this]
theorem zcd (N cap:Nat) (L:List (bS)) (s:bS) (w:wD) (O:∀ i (h:i<L.length),w.cell? (aP N i)=some (.string ⟨L[i].toArray⟩)) (hl:L.length<=100) :
  Calls prog 104 #[lP N L.length cap,.string ⟨s.toArray⟩] w fun e w'=>e = .returned (iP (Ac L s))/\∃ q,w'=w.drewN q:=by
 have Y:=Za O
 clear O
 go_enter func104,ntmps104
 go_wp2_with fail
 go_loopw [5,8] (fun _ i wx=>∃ j q:Nat,i=iP j/\j<=L.length/\wx=w.drewN q/\xQ (∀ m (hm:m<L.length),m<j->(L[m] == s)=false)) (fun _ i _=>L.length - (intOf i).toNat)
 case atStart=>exact⟨0,0,rfl,xZ _,rfl,fun _ _ h=>absurd h (Nat.not_lt_zero _)⟩
 case round =>
  obtain⟨j,q,rfl,hj,rfl,J⟩:=hrel;by_cases M:j<L.length
  ·have Qe:(j:Int)<(L.length:Int):=by omega
   have T:=Y.o j M
   obtain⟨F,A⟩:∃ F:ByteArray,F=⟨L[j].toArray⟩:=⟨_,rfl⟩
   obtain⟨C,z⟩:∃ C:ByteArray,C=⟨s.toArray⟩:=⟨_,rfl⟩
   rw [<- A] at T;rw [<- z]
   cases he:(L[j] == s)with
   | true =>
    have Z:(C.toList == F.toList)=true:=Cs.2 (by rw [A,z,beq_iff_eq.1 he]);have H:=Za he;have V:=Za (And.intro A z);clear he A z;go_wp2_with fail;go_ret;refine⟨?_,q,rfl⟩;exact congrArg (fun x=>Ending.returned (iP x)) (zbp M H.o J.o).symm
   | false =>
    have Z:(C.toList == F.toList)=false:=by
     rw [A,z,ByteArray.toList_eq,ByteArray.toList_eq,beq_eq_false_iff_ne]
     exact fun e=>beq_eq_false_iff_ne.1 he (by simpa using e.symm)
    have H:=Za he;have V:=Za (And.intro A z);clear he A z;go_wp2_with fail;refine⟨⟨j+1,_,by go_num,by omega,rfl,?_⟩,by simp [intOf]; omega⟩;intro m hm hlm;by_cases I:m=j
    ·subst I; exact H.o
    ·exact J.o m hm (by omega)
  ·have Qe:¬ (j:Int)<(L.length:Int):=by omega
   go_wp2_with fail;go_ret;refine⟨?_,q,rfl⟩;exact congrArg (fun x=>Ending.returned (iP x)) (zbo fun m hm=>J.o m hm (by omega)).symm
end
end Go.Proofs.YtoppemkjhhlegaaGreatDoor
