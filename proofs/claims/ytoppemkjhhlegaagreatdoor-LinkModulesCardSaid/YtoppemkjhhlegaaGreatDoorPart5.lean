/- Part. -/
import Derived.Test.YtoppemkjhhlegaaGreatDoorPart4
set_option maxRecDepth 100000
set_option maxHeartbeats 4000000
namespace Go.Proofs.YtoppemkjhhlegaaGreatDoor
open Go.Proofs.Tryz
open Go.RowKit
theorem cJ (pb tb cap a d g:Nat) (ts:List Tok) (r:Pr Ty) (hd:d<100) (V:∀ w,Ps w pb tb cap ts a (d+1)->Calls prog g #[qP pb] w (Ya pb tb cap ts (d+1) w Z6 r)) (U4:Lh g pb)
  (w:wD) (h:Ps w pb tb cap ts a d) :
  Calls prog 107 #[qP pb,.func (.func g) #[] #[]] w (Ya pb tb cap ts d w Z6 r):=by
 have H:=Za h
 have HG:=Za V
 have A:=h.ltp
 obtain⟨c0,c1,c2⟩:=h.cells
 have M:=h.fz 2
 have Tj:((d:Int) == 100)=false:=by simp; omega
 clear h V
 go_enter func107,ntmps107
 go_wp2_with fail
 rw [show((d:Int)+1)=((d+1:Nat):Int) by omega]
 refine(HG.o _ ((H.o.setDeep (d+1)).alloc _)).mono ?_
 rintro e w1 ⟨I,Y⟩
 have J:xQ (Zl pb w w1):=(((Zl.refl pb w).set 2 _).alloc A _).trans I
 have O:=Za ((I.keep w.heap.size A (by simp [World.setCell])).trans (gG w _ _ Zj.obj))
 have C:xQ (∀ x,Ya pb tb cap ts (d+1) ((w.setCell (aP pb 2) (iP ((d+1:Nat):Int))).alloc Zj.obj) Z6 (.inl x) e w1->Ps w1 pb tb cap ts x.2 (d+1)/\∃ v,e = .returned v/\Z6 (w.heap.size+1) w1 v x.1):=by
  rintro⟨x,b⟩ ⟨_,h1,v,h2,N⟩;refine⟨h1,v,h2,?_⟩
  have:((w.setCell (aP pb 2) (iP ((d+1:Nat):Int))).alloc Zj.obj).heap.size=w.heap.size+1:=by simp [World.setCell]
  rw [this] at N;exact N
 have j:xQ (Ya pb tb cap ts (d+1) ((w.setCell (aP pb 2) (iP ((d+1:Nat):Int))).alloc Zj.obj) Z6 r e w1):=⟨I,Y⟩
 clear I Y
 rcases r with⟨D,b⟩ | ⟨er,li,co⟩
 case inr =>
  obtain⟨_,rfl⟩:=j.o;go_wp2_with fail;exact⟨rfl,J.o,rfl⟩
 obtain⟨T,v,rfl,x,rfl,hv⟩:=C.o _ j.o
 have F:=Za T
 have Z:=Za hv
 clear T hv j C c0 c1 c2 M
 obtain⟨c0,c1,c2⟩:=F.o.cells
 have M:=F.o.fz 2
 have Mk:=F.o.ltp
 obtain⟨⟨r0,r1,r2,r3,r4,r5,r6,r7⟩,⟨f0,f1,f2,f3,f4,f5,f6,f7⟩,Yw⟩:=Zn O.o
 have hpw:¬ pb=w.heap.size:=by omega
 have z:¬ w.heap.size=pb:=by omega
 have Z1:¬ w1.heap.size=w.heap.size:=by omega
 have hne':¬ w1.heap.size=pb:=by omega
 go_wp2_with fail
 refine r64 rfl rfl ((xA (by rw [Nt (x:=x),Yg]; exact Yw)).trans (Wv (x:=x) ((xH z).trans O.o))) rfl ⟨(Wy (J.o.set 2 _) A (xR) x).alloc A _,(Ve (F.o.setDeep d) A x).alloc _,_,rfl,x,rfl,?_⟩
 exact(((Z.o.set1 (by omega) _ _).put8 (xU _) x).alloc _).lower (Nat.le_succ _)
theorem cK (pb tb cap a g:Nat) (ts:List Tok) (w:wD) (h:Ps w pb tb cap ts a 100) :
  Calls prog 107 #[qP pb,.func (.func g) #[] #[]] w (Ya pb tb cap ts 100 w Z6 (Vj ts 6 a)):=by
 have H:=Za h
 have A:=h.ltp
 obtain⟨c0,c1,c2⟩:=h.cells
 clear h
 go_enter func107,ntmps107
 go_wp2_with fail
 refine(yA pb tb cap a 100 ts _ (H.o.alloc _) 6).mono ?_
 rintro e w2 ⟨rfl,j⟩
 have z:=Za (Zz (Zq _ _) j)
 clear j
 go_wp2_with fail
 exact⟨rfl,Zl.of A z.o,rfl⟩
theorem jC (pb tb cap d:Nat) (ts:List Tok) (r:Pr Ty) (w:wD) (F:∀ w1,Below w.heap.size w w1->Calls prog 107 #[qP pb,.func (.func 108) #[] #[]] w1 (Ya pb tb cap ts d w1 Z6 r)) (h:pb<w.heap.size) :
  Calls prog 92 #[qP pb] w (Ya pb tb cap ts d w Z6 r):=by
 have J:=Za F
 clear F
 go_enter func92,ntmps92
 go_wp2_with fail
 refine(J.o _ (Zq _ _)).mono ?_
 rintro e w1 ⟨j,H⟩
 have z:=Za ((Zl.of h (Zq _ _)).trans j)
 have A:=Za ((j.keep _ h (by simp)).trans (xL w Zj.obj))
 have HSz:xQ (w.heap.size+1=(w.alloc Zj.obj).heap.size):=by show _=_; simp
 clear j
 rcases r with⟨D,b⟩ | ⟨er,li,co⟩
 case inr =>
  subst H;go_wp2_with fail;exact⟨rfl,z.o,rfl⟩
 obtain⟨C,v,rfl,x,rfl,hv⟩:=H
 have M:=Za C
 have I:=Za hv
 obtain⟨⟨r0,r1,r2,r3,r4,r5,r6,r7⟩,⟨f0,f1,f2,f3,f4,f5,f6,f7⟩,Yw⟩:=Zn A.o
 clear C hv
 go_wp2_with fail
 refine r64 rfl rfl (Wv (x:=x) A.o) rfl ⟨Wy z.o h (xR) x,Ve M.o h x,_,rfl,x,rfl,?_⟩
 exact(I.o.put8 (by simp) x).lower (by simp)
theorem eM (pb tb cap d:Nat) (ts:List Tok) (r:Pr Ty) (w:wD) (F:∀ w1,Below w.heap.size w w1->Calls prog 107 #[qP pb,.func (.func 142) #[] #[]] w1 (Ya pb tb cap ts d w1 Z6 r)) (h:pb<w.heap.size) :
  Calls prog 141 #[qP pb] w (Ya pb tb cap ts d w Z6 r):=by
 have J:=Za F
 clear F
 go_enter func141,ntmps141
 go_wp2_with fail
 refine(J.o _ (Zq _ _)).mono ?_
 rintro e w1 ⟨j,H⟩
 have z:=Za ((Zl.of h (Zq _ _)).trans j)
 have A:=Za ((j.keep _ h (by simp)).trans (xL w Zj.obj))
 have HSz:xQ (w.heap.size+1=(w.alloc Zj.obj).heap.size):=by show _=_; simp
 clear j
 rcases r with⟨D,b⟩ | ⟨er,li,co⟩
 case inr =>
  subst H;go_wp2_with fail;exact⟨rfl,z.o,rfl⟩
 obtain⟨C,v,rfl,x,rfl,hv⟩:=H
 have M:=Za C
 have I:=Za hv
 obtain⟨⟨r0,r1,r2,r3,r4,r5,r6,r7⟩,⟨f0,f1,f2,f3,f4,f5,f6,f7⟩,Yw⟩:=Zn A.o
 clear C hv
 go_wp2_with fail
 refine r64 rfl rfl (Wv (x:=x) A.o) rfl ⟨Wy z.o h (xR) x,Ve M.o h x,_,rfl,x,rfl,?_⟩
 exact(I.o.put8 (by simp) x).lower (by simp)
theorem zjk (pb:Nat):Lh 140 pb:=fun w=>K8 func140 (by kernel_rfl) (by kernel_rfl) _ w
theorem zfz (pb tb cap d:Nat) (ts:List Tok) (sub:Nat->Pr Ty) (J:Xs pb tb cap d ts Z6 141 sub) (M:Ym ts) (a:Nat) (w:wD) (h:Ps w pb tb cap ts a d) :
  Calls prog 140 #[qP pb] w (Ya pb tb cap ts d w Z6 ((sub a).go fun x a=>Uw ts [[42],[47],[37],[38],[60,60],[62,62]] sub ts.length x a)):=by
 have j:=h.ltp
 have F:=Za (uK pb tb cap d (w.heap.size+1) 6 ts [[42],[47],[37],[38],[60,60],[62,62]] (by simp) _ sub J a ((w.alloc Zj.obj).alloc (.cells (([[42],[47],[37],[38],[60,60],[62,62]]:List (bS)).map fun s=>uP s).toArray 9)) ((h.alloc _).alloc _) (zV (w.alloc Zj.obj) [[42],[47],[37],[38],[60,60],[62,62]] _ _ (by simp)) (by omega) M)
 clear h J M
 obtain⟨r,A⟩:=xE (((sub a).go fun x a=>Uw ts [[42],[47],[37],[38],[60,60],[62,62]] sub ts.length x a))
 rw [<- A] at F ⊢
 clear A
 go_enter func140,ntmps140
 go_wp2_with fail
 refine F.o.mono ?_
 rintro e w1 ⟨z,N⟩
 have C:=Za ((Zl.of j (Zz (Zq _ _) (Zq _ _))).trans z)
 have H:=Za ((z.keep w.heap.size j (by rw [xS,xS]; omega)).trans ((xA (by simp)).trans (xL w Zj.obj)))
 clear z
 rcases r with⟨D,b⟩ | ⟨er,li,co⟩
 case inr =>
  subst N;go_wp2_with fail;exact⟨rfl,C.o,rfl⟩
 obtain⟨I,v,rfl,x,rfl,hv⟩:=N
 have T:=Za I
 have O:=Za hv
 obtain⟨⟨r0,r1,r2,r3,r4,r5,r6,r7⟩,⟨f0,f1,f2,f3,f4,f5,f6,f7⟩,Yw⟩:=Zn H.o
 clear I hv
 go_wp2_with fail
 refine r64 rfl rfl (Wv (x:=x) H.o) rfl ⟨Wy C.o j (xR) x,Ve T.o j x,_,rfl,x,rfl,?_⟩
 exact(O.o.put8 (by rw [xS,xS]; omega) x).lower (by rw [xS,xS]; omega)
theorem zjh (pb:Nat):Lh 139 pb:=fun w=>K8 func139 (by kernel_rfl) (by kernel_rfl) _ w
theorem psum_c (pb tb cap d:Nat) (ts:List Tok) (sub:Nat->Pr Ty) (J:Xs pb tb cap d ts Z6 140 sub) (M:Ym ts) (a:Nat) (w:wD) (h:Ps w pb tb cap ts a d) :
  Calls prog 139 #[qP pb] w (Ya pb tb cap ts d w Z6 ((sub a).go fun x a=>Uw ts [[43],[45],[94]] sub ts.length x a)):=by
 have j:=h.ltp
 have F:=Za (uK pb tb cap d (w.heap.size+1) 3 ts [[43],[45],[94]] (by simp) _ sub J a ((w.alloc Zj.obj).alloc (.cells (([[43],[45],[94]]:List (bS)).map fun s=>uP s).toArray 9)) ((h.alloc _).alloc _) (zV (w.alloc Zj.obj) [[43],[45],[94]] _ _ (by simp)) (by omega) M)
 clear h J M
 obtain⟨r,A⟩:=xE (((sub a).go fun x a=>Uw ts [[43],[45],[94]] sub ts.length x a))
 rw [<- A] at F ⊢
 clear A
 go_enter func139,ntmps139
 go_wp2_with fail
 refine F.o.mono ?_
 rintro e w1 ⟨z,N⟩
 have C:=Za ((Zl.of j (Zz (Zq _ _) (Zq _ _))).trans z)
 have H:=Za ((z.keep w.heap.size j (by rw [xS,xS]; omega)).trans ((xA (by simp)).trans (xL w Zj.obj)))
 clear z
 rcases r with⟨D,b⟩ | ⟨er,li,co⟩
 case inr =>
  subst N;go_wp2_with fail;exact⟨rfl,C.o,rfl⟩
 obtain⟨I,v,rfl,x,rfl,hv⟩:=N
 have T:=Za I
 have O:=Za hv
 obtain⟨⟨r0,r1,r2,r3,r4,r5,r6,r7⟩,⟨f0,f1,f2,f3,f4,f5,f6,f7⟩,Yw⟩:=Zn H.o
 clear I hv
 go_wp2_with fail
 refine r64 rfl rfl (Wv (x:=x) H.o) rfl ⟨Wy C.o j (xR) x,Ve T.o j x,_,rfl,x,rfl,?_⟩
 exact(O.o.put8 (by rw [xS,xS]; omega) x).lower (by rw [xS,xS]; omega)
theorem oQ (pb:Nat):Lh 136 pb:=fun w=>K8 func136 (by kernel_rfl) (by kernel_rfl) _ w
theorem pcat_c (pb tb cap d:Nat) (ts:List Tok) (sub:Nat->Pr Ty) (J:Xs pb tb cap d ts Z6 139 sub) (M:Ym ts) (a:Nat) (w:wD) (h:Ps w pb tb cap ts a d) :
  Calls prog 136 #[qP pb] w (Ya pb tb cap ts d w Z6 ((sub a).go fun x a=>Uw ts [[43,43]] sub ts.length x a)):=by
 have j:=h.ltp
 have F:=Za (uK pb tb cap d (w.heap.size+1) 1 ts [[43,43]] (by simp) _ sub J a ((w.alloc Zj.obj).alloc (.cells (([[43,43]]:List (bS)).map fun s=>uP s).toArray 9)) ((h.alloc _).alloc _) (zV (w.alloc Zj.obj) [[43,43]] _ _ (by simp)) (by omega) M)
 clear h J M
 obtain⟨r,A⟩:=xE (((sub a).go fun x a=>Uw ts [[43,43]] sub ts.length x a))
 rw [<- A] at F ⊢
 clear A
 go_enter func136,ntmps136
 go_wp2_with fail
 refine F.o.mono ?_
 rintro e w1 ⟨z,N⟩
 have C:=Za ((Zl.of j (Zz (Zq _ _) (Zq _ _))).trans z)
 have H:=Za ((z.keep w.heap.size j (by rw [xS,xS]; omega)).trans ((xA (by simp)).trans (xL w Zj.obj)))
 clear z
 rcases r with⟨D,b⟩ | ⟨er,li,co⟩
 case inr =>
  subst N;go_wp2_with fail;exact⟨rfl,C.o,rfl⟩
 obtain⟨I,v,rfl,x,rfl,hv⟩:=N
 have T:=Za I
 have O:=Za hv
 obtain⟨⟨r0,r1,r2,r3,r4,r5,r6,r7⟩,⟨f0,f1,f2,f3,f4,f5,f6,f7⟩,Yw⟩:=Zn H.o
 clear I hv
 go_wp2_with fail
 refine r64 rfl rfl (Wv (x:=x) H.o) rfl ⟨Wy C.o j (xR) x,Ve T.o j x,_,rfl,x,rfl,?_⟩
 exact(O.o.put8 (by rw [xS,xS]; omega) x).lower (by rw [xS,xS]; omega)
theorem iD (pb:Nat):Lh 125 pb:=fun w=>K8 func125 (by kernel_rfl) (by kernel_rfl) _ w
theorem pand_c (pb tb cap d:Nat) (ts:List Tok) (sub:Nat->Pr Ty) (J:Xs pb tb cap d ts Z6 131 sub) (M:Ym ts) (a:Nat) (w:wD) (h:Ps w pb tb cap ts a d) :
  Calls prog 125 #[qP pb] w (Ya pb tb cap ts d w Z6 ((sub a).go fun x a=>Uw ts [[97,110,100]] sub ts.length x a)):=by
 have j:=h.ltp
 have F:=Za (uK pb tb cap d (w.heap.size+1) 1 ts [[97,110,100]] (by simp) _ sub J a ((w.alloc Zj.obj).alloc (.cells (([[97,110,100]]:List (bS)).map fun s=>uP s).toArray 9)) ((h.alloc _).alloc _) (zV (w.alloc Zj.obj) [[97,110,100]] _ _ (by simp)) (by omega) M)
 clear h J M
 obtain⟨r,A⟩:=xE (((sub a).go fun x a=>Uw ts [[97,110,100]] sub ts.length x a))
 rw [<- A] at F ⊢
 clear A
 go_enter func125,ntmps125
 go_wp2_with fail
 refine F.o.mono ?_
 rintro e w1 ⟨z,N⟩
 have C:=Za ((Zl.of j (Zz (Zq _ _) (Zq _ _))).trans z)
 have H:=Za ((z.keep w.heap.size j (by rw [xS,xS]; omega)).trans ((xA (by simp)).trans (xL w Zj.obj)))
 clear z
 rcases r with⟨D,b⟩ | ⟨er,li,co⟩
 case inr =>
  subst N;go_wp2_with fail;exact⟨rfl,C.o,rfl⟩
 obtain⟨I,v,rfl,x,rfl,hv⟩:=N
 have T:=Za I
 have O:=Za hv
 obtain⟨⟨r0,r1,r2,r3,r4,r5,r6,r7⟩,⟨f0,f1,f2,f3,f4,f5,f6,f7⟩,Yw⟩:=Zn H.o
 clear I hv
 go_wp2_with fail
 refine r64 rfl rfl (Wv (x:=x) H.o) rfl ⟨Wy C.o j (xR) x,Ve T.o j x,_,rfl,x,rfl,?_⟩
 exact(O.o.put8 (by rw [xS,xS]; omega) x).lower (by rw [xS,xS]; omega)
theorem zez (pb:Nat):Lh 119 pb:=fun w=>K8 func119 (by kernel_rfl) (by kernel_rfl) _ w
theorem por_c (pb tb cap d:Nat) (ts:List Tok) (sub:Nat->Pr Ty) (J:Xs pb tb cap d ts Z6 125 sub) (M:Ym ts) (a:Nat) (w:wD) (h:Ps w pb tb cap ts a d) :
  Calls prog 119 #[qP pb] w (Ya pb tb cap ts d w Z6 ((sub a).go fun x a=>Uw ts [[111,114]] sub ts.length x a)):=by
 have j:=h.ltp
 have F:=Za (uK pb tb cap d (w.heap.size+1) 1 ts [[111,114]] (by simp) _ sub J a ((w.alloc Zj.obj).alloc (.cells (([[111,114]]:List (bS)).map fun s=>uP s).toArray 9)) ((h.alloc _).alloc _) (zV (w.alloc Zj.obj) [[111,114]] _ _ (by simp)) (by omega) M)
 clear h J M
 obtain⟨r,A⟩:=xE (((sub a).go fun x a=>Uw ts [[111,114]] sub ts.length x a))
 rw [<- A] at F ⊢
 clear A
 go_enter func119,ntmps119
 go_wp2_with fail
 refine F.o.mono ?_
 rintro e w1 ⟨z,N⟩
 have C:=Za ((Zl.of j (Zz (Zq _ _) (Zq _ _))).trans z)
 have H:=Za ((z.keep w.heap.size j (by rw [xS,xS]; omega)).trans ((xA (by simp)).trans (xL w Zj.obj)))
 clear z
 rcases r with⟨D,b⟩ | ⟨er,li,co⟩
 case inr =>
  subst N;go_wp2_with fail;exact⟨rfl,C.o,rfl⟩
 obtain⟨I,v,rfl,x,rfl,hv⟩:=N
 have T:=Za I
 have O:=Za hv
 obtain⟨⟨r0,r1,r2,r3,r4,r5,r6,r7⟩,⟨f0,f1,f2,f3,f4,f5,f6,f7⟩,Yw⟩:=Zn H.o
 clear I hv
 go_wp2_with fail
 refine r64 rfl rfl (Wv (x:=x) H.o) rfl ⟨Wy C.o j (xR) x,Ve T.o j x,_,rfl,x,rfl,?_⟩
 exact(O.o.put8 (by rw [xS,xS]; omega) x).lower (by rw [xS,xS]; omega)
structure Y4 (pb tb cap d:Nat) (ts:List Tok) (w0 w:wD) (b:Nat) (bx:List (Nat×Obj)) (ns:List (NV×Ty)) (tys:List (vL×Ty)):Prop where
 st:Zl pb w0 w
 ps:Ps w pb tb cap ts b d
 hp:pb<w0.heap.size
 sz:w0.heap.size+1<=w.heap.size
 has:∀ p ∈ bx,w.heap[p.1]?=some p.2/\pb<p.1
 nds:∀ p ∈ ns,Y0 (w0.heap.size+1) w p.1 p.2
 tys:∀ p ∈ tys,Yk (w0.heap.size+1) w p.1 p.2
section
variable {pb tb cap d b b' lo : Nat} {ts : List Tok} {w0 w w' : wD} {bx : List (Nat × Obj)} {ns : List (NV × Ty)} {tys : List (vL × Ty)} {x : NV} {D : Ty} {v : vL}
theorem U2 (h:Ps w0 pb tb cap ts b d) (o:Obj):Y4 pb tb cap d ts w0 (w0.alloc o) b [(w0.heap.size,o)] [] [] where
 st:=Zl.of h.ltp (Zq _ _)
 ps:=h.alloc _
 hp:=h.ltp
 sz:=by simp
 has:=fun p hp=>by rw [List.mem_singleton.1 hp]; exact⟨xL _ _,h.ltp⟩
 nds:=(fun _ h=>nomatch h)
 tys:=(fun _ h=>nomatch h)
theorem Y4.step (h:Y4 pb tb cap d ts w0 w b bx ns tys) (j:Zl pb w w') (z:Ps w' pb tb cap ts b' d):Y4 pb tb cap d ts w0 w' b' bx ns tys where
 st:=h.st.trans j
 ps:=z
 hp:=h.hp
 sz:=Nat.le_trans h.sz j.size
 has:=fun p hp=>⟨(j.keep _ (h.has p hp).2 (xB (h.has p hp).1)).trans (h.has p hp).1,(h.has p hp).2⟩
 nds:=fun p hp=>(h.nds p hp).stay j (by have:=h.hp; omega)
 tys:=fun p hp=>(h.tys p hp).stay j (by have:=h.hp; omega)
theorem Y4.below (h:Y4 pb tb cap d ts w0 w b bx ns tys) (j:Below w.heap.size w w'):Y4 pb tb cap d ts w0 w' b bx ns tys:=h.step (Zl.of h.ps.ltp j) (h.ps.below j)
theorem Y4.alloc (h:Y4 pb tb cap d ts w0 w b bx ns tys) (o:Obj):Y4 pb tb cap d ts w0 (w.alloc o) b ((w.heap.size,o) :: bx) ns tys where
 st:=(h.below (Zq _ o)).st
 ps:=h.ps.alloc _
 hp:=h.hp
 sz:=(h.below (Zq _ o)).sz
 has:=fun p hp=>by
  rcases List.mem_cons.1 hp with rfl | hp
  ·exact⟨xL _ _,h.ps.ltp⟩
  ·exact(h.below (Zq _ o)).has p hp
 nds:=(h.below (Zq _ o)).nds
 tys:=(h.below (Zq _ o)).tys
theorem Y4.addN (h:Y4 pb tb cap d ts w0 w b bx ns tys) (hv:Y0 lo w x D) (j:w0.heap.size+1<=lo):Y4 pb tb cap d ts w0 w b bx ((x,D) :: ns) tys where
 st:=h.st
 ps:=h.ps
 hp:=h.hp
 sz:=h.sz
 has:=h.has
 nds:=fun p hp=>by
  rcases List.mem_cons.1 hp with rfl | hp
  ·exact hv.lower j
  ·exact h.nds p hp
 tys:=h.tys
theorem Y4.addT (h:Y4 pb tb cap d ts w0 w b bx ns tys) (hv:Yk lo w v D) (j:w0.heap.size+1<=lo):Y4 pb tb cap d ts w0 w b bx ns ((v,D) :: tys) where
 st:=h.st
 ps:=h.ps
 hp:=h.hp
 sz:=h.sz
 has:=h.has
 nds:=h.nds
 tys:=fun p hp=>by
  rcases List.mem_cons.1 hp with rfl | hp
  ·exact hv.lower j
  ·exact h.tys p hp
theorem Y4.drew (h:Y4 pb tb cap d ts w0 w b bx ns tys):Y4 pb tb cap d ts w0 w.drew b bx ns tys:=⟨h.st.drew,h.ps.drew,h.hp,h.sz,h.has,fun p j=>(h.nds p j).keep (xR) (fun _ _ _=>rfl),fun p j=>(h.tys p j).keep (xR) (fun _ _ _=>rfl)⟩
theorem Y4.b0 {p:Nat×Obj} (h:Y4 pb tb cap d ts w0 w b (p :: bx) ns tys):w.heap[p.1]?=some p.2:=(h.has p (xM ..)).1
theorem Y4.b1 {p q:Nat×Obj} (h:Y4 pb tb cap d ts w0 w b (q :: p :: bx) ns tys):w.heap[p.1]?=some p.2:=(h.has p (xW _ (xM ..))).1
theorem Y4.b2 {p q r:Nat×Obj} (h:Y4 pb tb cap d ts w0 w b (r :: q :: p :: bx) ns tys):w.heap[p.1]?=some p.2:=(h.has p (xW _ (xW _ (xM ..)))).1
theorem Y4.b3 {p q r s:Nat×Obj} (h:Y4 pb tb cap d ts w0 w b (s :: r :: q :: p :: bx) ns tys):w.heap[p.1]?=some p.2:=(h.has p (xW _ (xW _ (xW _ (xM ..))))).1
theorem Y4.b4 {p j z A C:Nat×Obj} (h:Y4 pb tb cap d ts w0 w b (j :: z :: A :: C :: p :: bx) ns tys):w.heap[p.1]?=some p.2:=(h.has p (xW _ (xW _ (xW _ (xW _ (xM ..)))))).1
theorem Y4.b5 {p j z A C F:Nat×Obj} (h:Y4 pb tb cap d ts w0 w b (j :: z :: A :: C :: F :: p :: bx) ns tys):w.heap[p.1]?=some p.2:=(h.has p (xW _ (xW _ (xW _ (xW _ (xW _ (xM ..))))))).1
theorem Y4.n0 {p:NV×Ty} (h:Y4 pb tb cap d ts w0 w b bx (p :: ns) tys):Y0 (w0.heap.size+1) w p.1 p.2:=h.nds p (xM ..)
theorem Y4.n1 {p q:NV×Ty} (h:Y4 pb tb cap d ts w0 w b bx (q :: p :: ns) tys):Y0 (w0.heap.size+1) w p.1 p.2:=h.nds p (xW _ (xM ..))
theorem Y4.n2 {p q r:NV×Ty} (h:Y4 pb tb cap d ts w0 w b bx (r :: q :: p :: ns) tys):Y0 (w0.heap.size+1) w p.1 p.2:=h.nds p (xW _ (xW _ (xM ..)))
theorem Y4.t0 {p:vL×Ty} (h:Y4 pb tb cap d ts w0 w b bx ns (p :: tys)):Yk (w0.heap.size+1) w p.1 p.2:=h.tys p (xM ..)
theorem Yr {α:Type} {rep:Nat->wD->vL->α->Prop} {r:Pr α} {e:Ending} (h:Ya pb tb cap ts d w rep r e w') :
  (∃ er li co,r = .inr (er,li,co)/\e=j8 er li co/\Zl pb w w')∨∃ x b v,r = .inl (x,b)/\e = .returned v/\Zl pb w w'/\Ps w' pb tb cap ts b d/\rep w.heap.size w' v x:=by
 obtain⟨j,h⟩:=h
 rcases r with⟨x,b⟩ | ⟨er,li,co⟩
 ·obtain⟨z,v,rfl,hv⟩:=h
  exact .inr ⟨x,b,v,rfl,rfl,j,z,hv⟩
 ·exact .inl ⟨er,li,co,rfl,h,j⟩
end
section
attribute [local go_sem ↓] Go.wp_at_zero Go.wp_at_succ
theorem nA (pb tb cap d:Nat) (ts:List Tok) (E:Nat->Pr Ty) (hE:Xs pb tb cap d ts Z6 92 E) (ok:Ym ts) (a:Nat) (w:wD) (h:Ps w pb tb cap ts a d) :
  Calls prog 145 #[qP pb] w (Ya pb tb cap ts d w Z6 ((Ze ts a [40]).go fun _ b=>(E b).go fun x b=>(Ze ts b [41]).go fun _ b => .inl (x,b))):=by
 have H:=Za h
 have Y:=Za ok
 have hp:=h.ltp
 have Pm:=Za hE
 have O:=Za (U2 h Zj.obj)
 obtain⟨R,T⟩:∃ R:Pr Ty,R=((Ze ts a [40]).go fun _ b=>(E b).go fun x b=>(Ze ts b [41]).go fun _ b => .inl (x,b)):=⟨_,rfl⟩
 rw [<- T]
 have Yc:=Za T
 clear h ok T hE
 go_enter func145,ntmps145
 go_wp2_with fail
 refine(Uy pb tb cap a d ts [40] _ O.o.ps Y.o).mono ?_
 intro e w1 A
 rcases Yr A with⟨er,li,co,j,rfl,z⟩ | ⟨u,b1,v,j,rfl,z,C,hv⟩
 ·have I:xQ (R = .inr (er,li,co)):=by rw [Yc.o,j]; exact rfl
  have J:=Za (O.o.st.trans z);clear j z A;go_wp2_with fail;exact⟨rfl,J.o,by rw [I.o]⟩
 have Z:xQ (R=(E b1).go fun x b=>(Ze ts b [41]).go fun _ b => .inl (x,b)):=by rw [Yc.o,j]; exact rfl
 have M:=Za ((O.o.step z C))
 clear j z C A hv
 go_wp2_with fail
 refine(Pm.o.calls b1 _ M.o.ps).mono ?_
 intro e w2 A
 rcases Yr A with⟨er,li,co,j,rfl,z⟩ | ⟨D,b2,v,j,rfl,z,C,hv⟩
 ·have I:xQ (R = .inr (er,li,co)):=by rw [Z.o,j]; exact rfl
  have J:=Za (M.o.st.trans z);clear j z A;go_wp2_with fail;exact⟨rfl,J.o,by rw [I.o]⟩
 have V:xQ (R=(Ze ts b2 [41]).go fun _ b => .inl (D,b)):=by rw [Z.o,j]; exact rfl
 obtain⟨x,rfl,hv⟩:=hv
 have C2:=Za ((M.o.step z C).addN hv M.o.sz)
 have N:=Za (C2.o.alloc (x.obj))
 clear j z C A hv
 go_wp2_with fail
 refine(Uy pb tb cap b2 d ts [41] _ N.o.ps Y.o).mono ?_
 intro e w3 A
 rcases Yr A with⟨er,li,co,j,rfl,z⟩ | ⟨u2,b3,v2,j,rfl,z,C,hv⟩
 ·have I:xQ (R = .inr (er,li,co)):=by rw [V.o,j]; exact rfl
  have J:=Za (N.o.st.trans z);clear j z A;go_wp2_with fail;exact⟨rfl,J.o,by rw [I.o]⟩
 have Yz:xQ (R = .inl (D,b3)):=by rw [V.o,j]; exact rfl
 have F:=Za ((N.o.step z C))
 clear j z C A hv
 obtain⟨⟨r0,r1,r2,r3,r4,r5,r6,r7⟩,⟨f0,f1,f2,f3,f4,f5,f6,f7⟩,Yw⟩:=Zn (x:=Zj) (F.o.b1)
 obtain⟨⟨n0,n1,n2,n3,n4,n5,n6,n7⟩,_,N5⟩:=Zn (x:=x) F.o.b0
 have Z1:¬ w2.heap.size=w.heap.size:=by have:=C2.o.sz; omega
 go_wp2_with fail
 rw [Yz.o]
 refine r64 rfl rfl (Wv (x:=x) F.o.b1) rfl ⟨Wy F.o.st hp (xR) (x),Ve F.o.ps hp (x),_,rfl,x,rfl,?_⟩
 exact((F.o.n0).put8 (xU _) (x)).lower (Nat.le_succ _)
abbrev Z3 (t:Tok):Obj := .cells #[iP t.kind,uP t.text,iP t.line,iP t.col] 121
theorem pR {ts:List Tok} {a:Nat} {s:bS} (h:Zg ts a s=true):(Zk ts a).text=s:=by
 unfold Zg at h
 simp only [Bool.and_eq_true,beq_iff_eq] at h
 exact h.2
abbrev Va (k:Int) (tx:bS) (N:Int) (t:Tok):NV:=⟨k,⟨tx.toArray⟩,N,t.line,t.col,none,0,0,none,0,0,none,0,0⟩
theorem Iz (lo:Nat) (w:wD) (k:Int) (h:bS) (N:Int) (t:Tok):Y0 lo w (Va k h N t) (Zp k h N t.line t.col [] [] []) :=
 ⟨1,[],[],[],rfl,⟨rfl,rfl,rfl⟩,⟨xZ _,xZ _,xZ _⟩,.inl rfl,.inl rfl,.inl rfl⟩
theorem o6 (pb tb cap d:Nat) (ts:List Tok) (F:Ym ts) (a:Nat) (I:Zg ts a [116,114,117,101]=true) (w:wD) (h:Ps w pb tb cap ts a d) :
  Calls prog 146 #[qP pb] w (Ya pb tb cap ts d w Z6 (.inl (Zp 2 [] 1 (Zk ts a).line (Zk ts a).col [] [] [],a+1))):=by
 have H:=Za h
 have OK:=Za F
 have V:=h.ltp
 have M:=Za (U2 h Zj.obj)
 have HN:=Za (Xx F.ends h.lt I)
 have O:(Zk ts a).text=[116,114,117,101]:=pR I
 have N:=Za (Jj pb tb cap a d ts _ M.o.ps HN.o F.len)
 obtain⟨t,Y⟩:=xE (Zk ts a)
 rw [<- Y] at N O ⊢
 obtain⟨A,tx,j,z⟩:=t
 obtain rfl:tx=[116,114,117,101]:=O
 clear I Y
 obtain⟨R,J⟩:∃ R:Pr Ty,R=(.inl (Zp 2 [] 1 j z [] [] [],a+1)):=⟨_,rfl⟩
 rw [<- J]
 have Yc:=Za J
 clear h F J
 go_enter func146,ntmps146
 go_wp2_with fail
 refine(N.o).mono ?_
 rintro e w1 ⟨rfl,Zb,T⟩
 have C1:=Za (M.o.step Zb T)
 have C2:=Za (C1.o.alloc (Z3 ⟨A,[116,114,117,101],j,z⟩))
 clear Zb T
 go_wp2_with fail
 refine(L7 ⟨A,[116,114,117,101],j,z⟩ ⟨2,⟨#[]⟩,1,0,0,none,0,0,none,0,0,none,0,0⟩ _).mono ?_
 rintro e w2 ⟨rfl,Z⟩
 have C:=Za (C2.o.below Z)
 clear Z
 obtain⟨⟨r0,r1,r2,r3,r4,r5,r6,r7⟩,⟨f0,f1,f2,f3,f4,f5,f6,f7⟩,Yw⟩:=Zn (x:=Zj) (C.o.b1)
 go_wp2_with fail
 rw [Yc.o]
 refine r64 rfl rfl (Wv (x:=Va 2 [] 1 ⟨A,[116,114,117,101],j,z⟩) C.o.b1) rfl ⟨Wy C.o.st V (xR) (Va 2 [] 1 ⟨A,[116,114,117,101],j,z⟩),Ve C.o.ps V (Va 2 [] 1 ⟨A,[116,114,117,101],j,z⟩),_,rfl,Va 2 [] 1 ⟨A,[116,114,117,101],j,z⟩,rfl,?_⟩
 exact((Iz _ _ 2 [] 1 ⟨A,[116,114,117,101],j,z⟩).put8 (xU _) (Va 2 [] 1 ⟨A,[116,114,117,101],j,z⟩)).lower (Nat.le_succ _)
theorem oY (pb tb cap d:Nat) (ts:List Tok) (F:Ym ts) (a:Nat) (I:Zg ts a [102,97,108,115,101]=true) (w:wD) (h:Ps w pb tb cap ts a d) :
  Calls prog 146 #[qP pb] w (Ya pb tb cap ts d w Z6 (.inl (Zp 2 [] 0 (Zk ts a).line (Zk ts a).col [] [] [],a+1))):=by
 have H:=Za h
 have OK:=Za F
 have V:=h.ltp
 have M:=Za (U2 h Zj.obj)
 have HN:=Za (Xx F.ends h.lt I)
 have O:(Zk ts a).text=[102,97,108,115,101]:=pR I
 have N:=Za (Jj pb tb cap a d ts _ M.o.ps HN.o F.len)
 obtain⟨t,Y⟩:=xE (Zk ts a)
 rw [<- Y] at N O ⊢
 obtain⟨A,tx,j,z⟩:=t
 obtain rfl:tx=[102,97,108,115,101]:=O
 clear I Y
 obtain⟨R,J⟩:∃ R:Pr Ty,R=(.inl (Zp 2 [] 0 j z [] [] [],a+1)):=⟨_,rfl⟩
 rw [<- J]
 have Yc:=Za J
 clear h F J
 go_enter func146,ntmps146
 go_wp2_with fail
 refine(N.o).mono ?_
 rintro e w1 ⟨rfl,Zb,T⟩
 have C1:=Za (M.o.step Zb T)
 have C2:=Za (C1.o.alloc (Z3 ⟨A,[102,97,108,115,101],j,z⟩))
 clear Zb T
 go_wp2_with fail
 refine(L7 ⟨A,[102,97,108,115,101],j,z⟩ ⟨2,⟨#[]⟩,0,0,0,none,0,0,none,0,0,none,0,0⟩ _).mono ?_
 rintro e w2 ⟨rfl,Z⟩
 have C:=Za (C2.o.below Z)
 clear Z
 obtain⟨⟨r0,r1,r2,r3,r4,r5,r6,r7⟩,⟨f0,f1,f2,f3,f4,f5,f6,f7⟩,Yw⟩:=Zn (x:=Zj) (C.o.b1)
 go_wp2_with fail
 rw [Yc.o]
 refine r64 rfl rfl (Wv (x:=Va 2 [] 0 ⟨A,[102,97,108,115,101],j,z⟩) C.o.b1) rfl ⟨Wy C.o.st V (xR) (Va 2 [] 0 ⟨A,[102,97,108,115,101],j,z⟩),Ve C.o.ps V (Va 2 [] 0 ⟨A,[102,97,108,115,101],j,z⟩),_,rfl,Va 2 [] 0 ⟨A,[102,97,108,115,101],j,z⟩,rfl,?_⟩
 exact((Iz _ _ 2 [] 0 ⟨A,[102,97,108,115,101],j,z⟩).put8 (xU _) (Va 2 [] 0 ⟨A,[102,97,108,115,101],j,z⟩)).lower (Nat.le_succ _)
theorem oZ (pb tb cap d:Nat) (ts:List Tok) (F:Ym ts) (a:Nat) (I:Zg ts a [110,117,108,108]=true) (w:wD) (h:Ps w pb tb cap ts a d) :
  Calls prog 146 #[qP pb] w (Ya pb tb cap ts d w Z6 (.inl (Zp 3 [] 0 (Zk ts a).line (Zk ts a).col [] [] [],a+1))):=by
 have H:=Za h
 have OK:=Za F
 have V:=h.ltp
 have M:=Za (U2 h Zj.obj)
 have HN:=Za (Xx F.ends h.lt I)
 have O:(Zk ts a).text=[110,117,108,108]:=pR I
 have N:=Za (Jj pb tb cap a d ts _ M.o.ps HN.o F.len)
 obtain⟨t,Y⟩:=xE (Zk ts a)
 rw [<- Y] at N O ⊢
 obtain⟨A,tx,j,z⟩:=t
 obtain rfl:tx=[110,117,108,108]:=O
 clear I Y
 obtain⟨R,J⟩:∃ R:Pr Ty,R=(.inl (Zp 3 [] 0 j z [] [] [],a+1)):=⟨_,rfl⟩
 rw [<- J]
 have Yc:=Za J
 clear h F J
 go_enter func146,ntmps146
 go_wp2_with fail
 refine(N.o).mono ?_
 rintro e w1 ⟨rfl,Zb,T⟩
 have C1:=Za (M.o.step Zb T)
 have C2:=Za (C1.o.alloc (Z3 ⟨A,[110,117,108,108],j,z⟩))
 clear Zb T
 go_wp2_with fail
 refine(L7 ⟨A,[110,117,108,108],j,z⟩ ⟨3,⟨#[]⟩,0,0,0,none,0,0,none,0,0,none,0,0⟩ _).mono ?_
 rintro e w2 ⟨rfl,Z⟩
 have C:=Za (C2.o.below Z)
 clear Z
 obtain⟨⟨r0,r1,r2,r3,r4,r5,r6,r7⟩,⟨f0,f1,f2,f3,f4,f5,f6,f7⟩,Yw⟩:=Zn (x:=Zj) (C.o.b1)
 go_wp2_with fail
 rw [Yc.o]
 refine r64 rfl rfl (Wv (x:=Va 3 [] 0 ⟨A,[110,117,108,108],j,z⟩) C.o.b1) rfl ⟨Wy C.o.st V (xR) (Va 3 [] 0 ⟨A,[110,117,108,108],j,z⟩),Ve C.o.ps V (Va 3 [] 0 ⟨A,[110,117,108,108],j,z⟩),_,rfl,Va 3 [] 0 ⟨A,[110,117,108,108],j,z⟩,rfl,?_⟩
 exact((Iz _ _ 3 [] 0 ⟨A,[110,117,108,108],j,z⟩).put8 (xU _) (Va 3 [] 0 ⟨A,[110,117,108,108],j,z⟩)).lower (Nat.le_succ _)
abbrev xF (t:Tok) (ta:oA) (tl tc:Nat):NV:=⟨19,⟨t.text.toArray⟩,0,t.line,t.col,ta,tl,tc,none,0,0,none,0,0⟩
theorem zcl {pb lo n:Nat} {w w':wD} {ka:oA} {ks:List Ty} (h:Qk w lo n ka ks) (j:Zl pb w w') (hp:pb<lo):Qk w' lo n ka ks:=L4 h j.size fun b hb z=>j.keep b (by omega) z
def zO (ts:List Tok) (K:Nat->Pr Ty) (f a:Nat):Pr Ty:=if Zg ts (a+1) [91] then(Z9 ts K [44] f (a+2)).go fun l b=>(Ze ts b [93]).go fun _ b => .inl (Zp 19 (Zk ts a).text 0 (Zk ts a).line (Zk ts a).col l [] [],b)else .inl (Zp 4 (Zk ts a).text 0 (Zk ts a).line (Zk ts a).col [] [] [],a+1)
theorem zem (pb tb cap d:Nat) (ts:List Tok) (K:Nat->Pr Ty) (hK:Xs pb tb cap d ts Yk 106 K) (ok:Ym ts) (a:Nat) (hn:a+1<ts.length) (w:wD) (h:Ps w pb tb cap ts a d) :
  Calls prog 151 #[qP pb] w (Ya pb tb cap ts d w Z6 (zO ts K ts.length a)):=by
 have H:=Za h
 have T:=Za ok
 have Y:=h.ltp
 have Pn:=Za hK
 have C0:=Za (U2 h Zj.obj)
 have HC:=Za (Jj pb tb cap a d ts _ C0.o.ps hn ok.len)
 obtain⟨f,hf⟩:∃ f,f+1=ts.length:=⟨ts.length - 1,by omega⟩
 obtain⟨t,ht⟩:=xE (Zk ts a)
 unfold zO
 rw [<- ht] at HC ⊢
 clear ht
 obtain⟨R,hR⟩:∃ R:Pr Ty,R=(if Zg ts (a+1) [91] then(Z9 ts K [44] ts.length (a+2)).go fun l b=>(Ze ts b [93]).go fun _ b => .inl (Zp 19 t.text 0 t.line t.col l [] [],b)else .inl (Zp 4 t.text 0 t.line t.col [] [] [],a+1)):=⟨_,rfl⟩
 rw [<- hR]
 have Yc:=Za hR
 clear h ok hR hK
 go_enter func151,ntmps151
 go_wp2_with fail
 refine(HC.o).mono ?_
 rintro e w1 ⟨rfl,j,z⟩
 have C1:=Za (C0.o.step j z)
 have C2:=Za (C1.o.alloc (Z3 t))
 clear j z
 go_wp2_with fail
 have Z:=Za (Ta pb tb cap (a+1) d ts [91] _ C2.o.ps T.o)
 cases hs:Zg ts (a+1) [91] with
 | false =>
  rw [hs,if_neg (by simp)] at Z
  have V:xQ (R = .inl (Zp 4 t.text 0 t.line t.col [] [] [],a+1)):=by rw [Yc.o,if_neg (by simp [hs])]; exact rfl
  clear hs;refine(Z.o).mono ?_;rintro e w2 ⟨rfl,j,z⟩;have F:=Za (C2.o.step j z);clear j z;obtain⟨⟨k0,k1,k2,k3⟩,_,N4⟩:=Yh F.o.b0;go_wp2_with fail;refine(L7 t ⟨4,⟨t.text.toArray⟩,0,0,0,none,0,0,none,0,0,none,0,0⟩ _).mono ?_;rintro e w3 ⟨rfl,N⟩;have C:=Za (F.o.below N);clear N;obtain⟨⟨r0,r1,r2,r3,r4,r5,r6,r7⟩,⟨f0,f1,f2,f3,f4,f5,f6,f7⟩,Yw⟩:=Zn (x:=Zj) (C.o.b1)
  go_wp2_with fail;rw [V.o];refine r64 rfl rfl (Wv (x:=Va 4 t.text 0 t) C.o.b1) rfl ⟨Wy C.o.st Y (xR) (Va 4 t.text 0 t),Ve C.o.ps Y (Va 4 t.text 0 t),_,rfl,Va 4 t.text 0 t,rfl,?_⟩;exact((Iz _ _ 4 t.text 0 t).put8 (xU _) (Va 4 t.text 0 t)).lower (Nat.le_succ _)
 | true =>
  rw [hs,if_pos rfl] at Z
  have V:xQ (R=(Z9 ts K [44] (f+1) (a+2)).go fun l b=>(Ze ts b [93]).go fun _ b => .inl (Zp 19 t.text 0 t.line t.col l [] [],b)):=by rw [Yc.o,if_pos hs,hf]; exact rfl
  clear hs;refine(Z.o).mono ?_;rintro e w2 ⟨rfl,j,z⟩;have F:=Za (C2.o.step j z);clear j z;go_wp2_with fail;refine(fU pb tb cap d ts [44] _ K Pn.o f (a+2) (by omega) _ F.o.ps T.o).mono ?_;intro e w3 I;rcases Yr I with⟨er,li,co,A,rfl,j⟩ | ⟨l,b,v,A,rfl,j,z,hv⟩
  ·have HE:xQ (R = .inr (er,li,co)):=by rw [V.o,A]; exact rfl
   have HF:=Za (F.o.st.trans j);clear A j I;go_wp2_with fail;exact⟨rfl,HF.o,by rw [HE.o]⟩
  have Zy:xQ (R=(Ze ts b [93]).go fun _ b => .inl (Zp 19 t.text 0 t.line t.col l [] [],b)):=by rw [V.o,A]; exact rfl
  obtain⟨cs,hv⟩:=hv;obtain⟨M,J,m,rfl,hcv,hk⟩:=Ek hv;have HKi:=Za (zI hk F.o.sz)
  have On:xQ (l.length<=8193):=by have:=Cm _ A; have:=T.o.len; show _<=_; omega
  have C:=Za ((F.o.step j z));clear A j z I hv hk;go_wp2_with fail;refine(Uy pb tb cap b d ts [93] _ C.o.ps T.o).mono ?_;intro e w4 I;rcases Yr I with⟨er,li,co,A,rfl,j⟩ | ⟨u,b3,v,A,rfl,j,z,hv⟩
  ·have HE:xQ (R = .inr (er,li,co)):=by rw [Zy.o,A]; exact rfl
   have HF:=Za (C.o.st.trans j);clear A j I;go_wp2_with fail;exact⟨rfl,HF.o,by rw [HE.o]⟩
  have Yz:xQ (R = .inl (Zp 19 t.text 0 t.line t.col l [] [],b3)):=by rw [Zy.o,A]; exact rfl
  have HKj:=Za (zcl HKi.o j (by omega));have C5:=Za ((C.o.step j z));clear A j z I hv;obtain⟨⟨k0,k1,k2,k3⟩,_,N4⟩:=Yh C5.o.b0;go_wp2_with fail;refine(L7 t ⟨19,⟨t.text.toArray⟩,0,0,0,M,l.length,J,none,0,0,none,0,0⟩ _).mono ?_;rintro e w6 ⟨rfl,N⟩;have O:=Za (C5.o.below N)
  have HN:xQ (Y0 (w.heap.size+1) w6 (xF t M l.length J) (Zp 19 t.text 0 t.line t.col l [] [])):=⟨m+1,l,[],[],rfl,⟨rfl,rfl,rfl⟩,⟨(by have:=On.o; omega),xZ _,xZ _⟩,zcm HKj.o N,.inl rfl,.inl rfl⟩
  clear N;obtain⟨⟨r0,r1,r2,r3,r4,r5,r6,r7⟩,⟨f0,f1,f2,f3,f4,f5,f6,f7⟩,Yw⟩:=Zn (x:=Zj) (O.o.b1);go_wp2_with fail;rw [Yz.o];refine r64 rfl rfl (Wv (x:=xF t M l.length J) O.o.b1) rfl ⟨Wy O.o.st Y (xR) (xF t M l.length J),Ve O.o.ps Y (xF t M l.length J),_,rfl,xF t M l.length J,rfl,?_⟩;exact((HN.o).put8 (xU _) (xF t M l.length J)).lower (Nat.le_succ _)
theorem s5 {A:Func} {p u:Tmp} {z:TypeId} (h:A.results=#[.cell p z,.tmp u]) (j:Array vL) {P:Program} {w:wD} {g:Nat} {t:TypeId} {cs:Array vL} {H:Nat×Nat} {M:Array Field}
  (I:j.getD p undef=qP g) (J:w.heap[g]?=some (.cells cs t H))
  (C:P.underlying z=some (.struct M)) (F:(P.info? z).map (·.size)=some cs.size) :
  (results A j).run P w = .ok (.tuple #[.agg cs,j.getD u undef]) w:=bL h j I J C F
def V1 (ts:List Tok) (K:Nat->Pr Ty) (s:bS) (a:Nat):Pr (Ty×Bool):=if Zg ts a s then(K (a+1)).go fun t b => .inl ((t,true),b)else .inl ((Y7 0 [] [] [],false),a)
def TyBE (lo:Nat) (w:wD) (v:vL) (x:Ty×Bool):Prop:=∃ u,v = .tuple #[u,.bool x.2]/\Yk lo w u x.1
theorem yM (pb tb cap d:Nat) (ts:List Tok) (s:bS) (K:Nat->Pr Ty) (V:Xs pb tb cap d ts Yk 106 K) (Z:Ym ts) (a:Nat) (w:wD) (h:Ps w pb tb cap ts a d) :
  Calls prog 91 #[qP pb,uP s] w (Ya pb tb cap ts d w TyBE (V1 ts K s a)):=by
 have H:=Za h
 have OK:=Za Z
 have M:=h.ltp
 have Pn:=Za V
 have N:=Za (U2 h Ww)
 obtain⟨R,O⟩:∃ R:Pr (Ty×Bool),R=(V1 ts K s a):=⟨_,rfl⟩
 rw [<- O]
 have Y:=Za O
 clear h Z O V
 go_enter func91,ntmps91
 go_wp2_with fail
 have I:=Za (Ta pb tb cap a d ts s _ N.o.ps OK.o)
 cases hs:Zg ts a s with
 | false =>
  rw [hs,if_neg (by simp)] at I
  have J:xQ (R = .inl ((Y7 0 [] [] [],false),a)):=by rw [Y.o,V1,if_neg (by simp [hs])]; exact rfl
  clear hs;refine(I.o).mono ?_;rintro e w1 ⟨rfl,j,A⟩;have z:=Za (N.o.step j A);clear j A;obtain⟨⟨r0,r1,r2,r3⟩,⟨f0,f1,f2,f3⟩,Yw⟩:=Yh z.o.b0;go_wp2_with fail;rw [J.o];refine bodyPost_ret (s5 rfl _ rfl (set4 z.o.b0 _ _ _ _) underlying94 lB) rfl ⟨Q6 z.o.st M (xR) _ _ _ _,Jk z.o.ps M _ _ _ _,_,rfl,_,rfl,?_⟩;exact zX _ _ 0 ⟨#[]⟩ (by decide) (by decide)
 | true =>
  rw [hs,if_pos rfl] at I
  have J:xQ (R=(K (a+1)).go fun t b => .inl ((t,true),b)):=by rw [Y.o,V1,if_pos hs]; exact rfl
  clear hs;refine(I.o).mono ?_;rintro e w1 ⟨rfl,j,A⟩;have z:=Za (N.o.step j A);clear j A;go_wp2_with fail;refine(Pn.o.calls (a+1) _ z.o.ps).mono ?_;intro e w2 T;rcases Yr T with⟨er,li,co,C,rfl,j⟩ | ⟨D,b,v,C,rfl,j,A,hv⟩
  ·have HE:xQ (R = .inr (er,li,co)):=by rw [J.o,C]; exact rfl
   have HF:=Za (z.o.st.trans j);clear C j T;go_wp2_with fail;exact⟨rfl,HF.o,by rw [HE.o]⟩
  have Zy:xQ (R = .inl ((D,true),b)):=by rw [J.o,C]; exact rfl
  obtain⟨k1,nm1,na1,nl1,nc1,ka1,kl1,kc1,rfl⟩:=hv.cells;have F:=Za ((z.o.step j A).addT hv z.o.sz);clear C j A T hv;obtain⟨⟨r0,r1,r2,r3⟩,⟨f0,f1,f2,f3⟩,Yw⟩:=Yh F.o.b0;go_wp2_with fail;rw [Zy.o];refine bodyPost_ret (s5 rfl _ rfl (set4 F.o.b0 _ _ _ _) underlying94 lB) rfl ⟨Q6 F.o.st M (xR) _ _ _ _,Jk F.o.ps M _ _ _ _,_,rfl,_,rfl,?_⟩;exact(F.o.t0.set4 (xU _) _ _ _ _).lower (Nat.le_succ _)
theorem zha {F:Func} {p u:Tmp} {z:TypeId} (h:F.results=#[.tmp u,.cell p z]) (j:Array vL) {P:Program} {w:wD} {g:Nat} {t:TypeId} {cs:Array vL} {C:Nat×Nat} {N:Array Field}
  (J:j.getD p undef=qP g) (M:w.heap[g]?=some (.cells cs t C))
  (H:P.underlying z=some (.struct N)) (I:(P.info? z).map (·.size)=some cs.size) :
  (results F j).run P w = .ok (.tuple #[j.getD u undef,.agg cs]) w:=by
 have A:j[p]?.getD undef=qP g:=by simpa using J
 simp [results,h,A,asAddr,run_loadVar_row w g t z cs C _ M H rfl I]
def Ji (ts:List Tok) (K:Nat->Pr Ty) (a:Nat):Pr (bS×Ty):=(Ze ts a [40]).go fun _ b=>(Zu ts b).go fun s b=>(V1 ts K [58] b).go fun x b=>(Ze ts b [41]).go fun _ b => .inl ((s,x.1),b)
def ParE (lo:Nat) (w:wD) (v:vL) (x:bS×Ty):Prop:=∃ u,v = .tuple #[uP x.1,u]/\Yk lo w u x.2
theorem bD (pb tb cap d:Nat) (ts:List Tok) (K:Nat->Pr Ty) (hK:Xs pb tb cap d ts Yk 106 K) (ok:Ym ts) (a:Nat) (w:wD) (h:Ps w pb tb cap ts a d) :
  Calls prog 90 #[qP pb] w (Ya pb tb cap ts d w ParE (Ji ts K a)):=by
 have H:=Za h
 have M:=Za ok
 have hp:=h.ltp
 have Pn:=Za hK
 have C0:=Za (U2 h Ww)
 obtain⟨R,O⟩:∃ R:Pr (bS×Ty),R=(Ji ts K a):=⟨_,rfl⟩
 rw [<- O]
 unfold Ji at O
 have Yc:=Za O
 clear h ok O hK
 go_enter func90,ntmps90
 go_wp2_with fail
 refine(Uy pb tb cap a d ts [40] _ C0.o.ps M.o).mono ?_
 intro e w1 A
 rcases Yr A with⟨er,li,co,j,rfl,z⟩ | ⟨u,b1,v,j,rfl,z,C,hv⟩
 ·have F:xQ (R = .inr (er,li,co)):=by rw [Yc.o,j]; exact rfl
  have I:=Za (C0.o.st.trans z);clear j z A;go_wp2_with fail;exact⟨rfl,I.o,by rw [F.o]⟩
 have Yl:xQ (R=(Zu ts b1).go fun s b=>(V1 ts K [58] b).go fun x b=>(Ze ts b [41]).go fun _ b => .inl ((s,x.1),b)):=by rw [Yc.o,j]; exact rfl
 have C1:=Za ((C0.o.step z C))
 clear j z C A hv
 go_wp2_with fail
 refine(Dx pb tb cap b1 d ts _ C1.o.ps M.o).mono ?_
 intro e w2 A
 rcases Yr A with⟨er,li,co,j,rfl,z⟩ | ⟨s,b2,v,j,rfl,z,C,hv⟩
 ·have F:xQ (R = .inr (er,li,co)):=by rw [Yl.o,j]; exact rfl
  have I:=Za (C1.o.st.trans z);clear j z A;go_wp2_with fail;exact⟨rfl,I.o,by rw [F.o]⟩
 have Zy:xQ (R=(V1 ts K [58] b2).go fun x b=>(Ze ts b [41]).go fun _ b => .inl ((s,x.1),b)):=by rw [Yl.o,j]; exact rfl
 subst hv
 have N:=Za ((C1.o.step z C))
 clear j z C A  
 go_wp2_with fail
 refine(yM pb tb cap d ts [58] K Pn.o M.o b2 _ N.o.ps).mono ?_
 intro e w3 A
 rcases Yr A with⟨er,li,co,j,rfl,z⟩ | ⟨x,b3,v,j,rfl,z,C,hv⟩
 ·have F:xQ (R = .inr (er,li,co)):=by rw [Zy.o,j]; exact rfl
  have I:=Za (N.o.st.trans z);clear j z A;go_wp2_with fail;exact⟨rfl,I.o,by rw [F.o]⟩
 have Yz:xQ (R=(Ze ts b3 [41]).go fun _ b => .inl ((s,x.1),b)):=by rw [Zy.o,j]; exact rfl
 obtain⟨u3,rfl,hv⟩:=hv
 obtain⟨k1,T,Z,Y,nc1,ka1,kl1,V,rfl⟩:=hv.cells
 have C3:=Za ((N.o.step z C).addT hv N.o.sz)
 clear j z C A hv
 go_wp2_with fail
 have C4:=Za (C3.o.alloc (Z7 k1 T Z Y nc1 ka1 kl1 V))
 refine(Uy pb tb cap b3 d ts [41] _ C4.o.ps M.o).mono ?_
 intro e w4 A
 rcases Yr A with⟨er,li,co,j,rfl,z⟩ | ⟨u4,b4,v4,j,rfl,z,C,hv⟩
 ·have F:xQ (R = .inr (er,li,co)):=by rw [Yz.o,j]; exact rfl
  have I:=Za (C4.o.st.trans z);clear j z A;go_wp2_with fail;exact⟨rfl,I.o,by rw [F.o]⟩
 have Xn:xQ (R = .inl ((s,x.1),b4)):=by rw [Yz.o,j]; exact rfl
 have J:=Za ((C4.o.step z C))
 clear j z C A hv
 obtain⟨⟨r0,r1,r2,r3⟩,⟨f0,f1,f2,f3⟩,Yw⟩:=Yh J.o.b1
 obtain⟨⟨q0,q1,q2,q3⟩,_,hq1⟩:=Yh J.o.b0
 have Z1:¬ w3.heap.size=w.heap.size:=by have:=C3.o.sz; omega
 go_wp2_with fail
 go_region
 all_goals
  go_wp2_with fail;rw [Xn.o];refine bodyPost_ret (zha rfl _ rfl (set4 J.o.b1 _ _ _ _) underlying94 lB) rfl ⟨(Q6 J.o.st hp (xR) _ _ _ _).drew,(Jk J.o.ps hp _ _ _ _).drew,_,rfl,_,rfl,?_⟩;exact(((J.o.t0.set4 (xU _) _ _ _ _).lower (Nat.le_succ _)).keep (xR) fun _ _ _=>rfl)
theorem Ko {lo kb:Nat} {w:wD} {x:NV} {D1:Ty} (j:Y0 lo w x D1) (h:w.heap[kb]?=some x.obj) (H:lo<=kb)
  (z:NV) (tys:List Ty) (ns:List (bS)) (C:z.ka=some (aP kb 0)/\z.kl=1) (I:z.tl=tys.length/\tys.length<=100000/\∃ m,Qk w lo m z.ta tys) (A:z.nl=ns.length/\ns.length<=100000/\Bb w lo z.na ns) :
  Y0 lo w z (Zp z.k z.tx.data.toList z.N z.li z.co tys ns [D1]):=by
 obtain⟨V,j⟩:=j
 obtain⟨O,T,J,F⟩:=I
 refine⟨max V J+1,tys,ns,[D1],rfl,⟨O,A.1,C.2⟩,⟨T,A.2.1,(by show 1<=_; omega)⟩,uC F (Nat.le_max_right _ _),A.2.2,.inr ⟨kb,0,C.1,H,⟨_,_,h⟩,fun i M=>?_⟩⟩
 match i,M with
 | 0,_=>exact⟨x,⟨by rw [cell_of_row _ _ _ _ _ _ h]; rfl,by rw [cell_of_row _ _ _ _ _ _ h]; rfl,by rw [cell_of_row _ _ _ _ _ _ h]; rfl,by rw [cell_of_row _ _ _ _ _ _ h]; rfl,by rw [cell_of_row _ _ _ _ _ _ h]; rfl,by rw [cell_of_row _ _ _ _ _ _ h]; rfl,by rw [cell_of_row _ _ _ _ _ _ h]; rfl,by rw [cell_of_row _ _ _ _ _ _ h]; rfl⟩,Ee j (Nat.le_max_left _ _)⟩
abbrev L9 (w:wD) (b:Nat) (v0 v1 v2 v3 v4 v5 v6 v7:vL):wD:=(((((((w.setCell (aP b 0) v0).setCell (aP b 1) v1).setCell (aP b 2) v2).setCell (aP b 3) v3).setCell (aP b 4) v4).setCell (aP b 5) v5).setCell (aP b 6) v6).setCell (aP b 7) v7
theorem Jm {w:wD} {b i:Nat} (h:i≠b) (z A C F I J H j:vL):(L9 w b z A C F I J H j).heap[i]?=w.heap[i]?:=by
 unfold L9
 rw [xH h,xH h,xH h,xH h,xH h,xH h,xH h,xH h]
abbrev Al (k:Int) (t:Tok) (kb:Nat):NV:=⟨k,⟨#[]⟩,0,t.line,t.col,none,0,0,none,0,0,some (aP kb 0),1,1⟩
theorem zke (pb tb cap d:Nat) (ts:List Tok) (U:Nat->Pr Ty) (hU:Xs pb tb cap d ts Z6 141 U) (M:Ym ts) (a:Nat) (hs:Zg ts a [45]=true) (w:wD) (h:Ps w pb tb cap ts a d) :
  Calls prog 142 #[qP pb] w (Ya pb tb cap ts d w Z6 ((U (a+1)).go fun x b => .inl (Zp 16 [] 0 (Zk ts a).line (Zk ts a).col [] [] [x],b))):=by
 have H:=Za h
 have OK:=Za M
 have hp:=h.ltp
 have Z:=Za hU
 have C0:=Za (U2 h Zj.obj)
 have HN:=Za (Xx M.ends h.lt hs)
 have HS:=Za hs
 have B2:=Za (fun w h=>Jj pb tb cap a d ts w h HN.o M.len)
 obtain⟨t,ht⟩:=xE (Zk ts a)
 rw [<- ht] at B2 ⊢
 clear ht hs
 obtain⟨R,hR⟩:∃ R:Pr Ty,R=((U (a+1)).go fun x b => .inl (Zp 16 [] 0 t.line t.col [] [] [x],b)):=⟨_,rfl⟩
 rw [<- hR]
 have Yc:=Za hR
 clear h M hR hU
 go_enter func142,ntmps142
 go_wp2_with fail
 refine(V5 pb tb cap a _ 1 ts [[45]] _ _ C0.o.ps.rd (by simp) (by simp)).mono ?_
 rw [T0,HS.o]
 rintro e w1 ⟨rfl,I⟩
 have C1:=Za (C0.o.below I)
 clear I
 go_wp2_with fail
 refine(B2.o _ C1.o.ps).mono ?_
 rintro e w2 ⟨rfl,A,J⟩
 have C2:=Za (C1.o.step A J)
 have C:=Za (C2.o.alloc (Z3 t))
 clear A J
 obtain⟨⟨k0,k1,k2,k3⟩,_,N4⟩:=Yh C.o.b0
 go_wp2_with fail
 have Lz:w2.heap.size≠w.heap.size:=by have:=C2.o.sz; omega
 have Uq:(kT ((w2.alloc (Z3 t)).drew) w2.heap.size t):=(Y8 (C.o.drew.b0))
 have HC:xQ (Calls prog 141 #[qP pb] (w2.alloc (Z3 t)).drew fun e j=>(∃ chain,e = .panicked chain/\Ya pb tb cap ts d w Z6 R e j)∨∃ (y:NV) (D:Ty) (b2:Nat),e = .returned (y.val)/\((kT j w2.heap.size t))/\xQ (R = .inl (Zp 16 [] 0 t.line t.col [] [] [D],b2)/\Y4 pb tb cap d ts w j b2 [(w2.heap.size,Z3 t),(w.heap.size,Zj.obj)] [(y,D)] [])):=by
  refine(Z.o.calls (a+1) _ C.o.drew.ps).mono ?_;intro e j Zh;rcases Yr Zh with⟨er,li,co,N,rfl,A⟩ | ⟨D,b2,v,N,rfl,A,J,hv⟩
  ·exact .inl ⟨_,rfl,C.o.drew.st.trans A,by rw [Yc.o,N]; rfl⟩
  obtain⟨y,rfl,hv⟩:=hv;have CN:=(C.o.drew.step A J).addN hv C.o.drew.sz;exact .inr ⟨y,D,b2,rfl,(Y8 (CN.b0)),by rw [Yc.o,N]; rfl,CN⟩
 go_wp2_with fail
 go_region_held (fun W=>(kT W w2.heap.size t)) (first | with_reducible assumption | with_reducible exact Vs.o _ | with_reducible exact Wm.o _ _ _ _ _ _ _ _) (first
  | (go_at_call 141; refine HC.o.mono ?_; rintro e j (⟨ch,rfl,hf⟩ | ⟨y,D,b2,rfl,t5,HX⟩); exact⟨rfl,hf⟩; have Vs:xQ (∀ o,(kT ((j.alloc o)) w2.heap.size t)):=(fun o=>(Y8 ((HX.o.2.alloc o).b1))))
  | (go_at_call 123; refine(L7 t ⟨16,⟨#[]⟩,0,0,0,none,0,0,none,0,0,some (aP j.heap.size 0),1,1⟩ _).mono ?_; rintro e F ⟨rfl,I⟩; have z:=Za ((HX.o.2.alloc _).below I); have t6:(kT F w2.heap.size t):=(Y8 (z.o.b1)); have Pl:=Za (Zn (x:=Zj) (z.o.b2)); obtain⟨⟨r0,r1,r2,r3,r4,r5,r6,r7⟩,⟨f0,f1,f2,f3,f4,f5,f6,f7⟩,Yw⟩:=Pl.o; have Wm:xQ (∀ T v1 V v3 v4 v5 Y O,(kT ((L9 F w.heap.size T v1 V v3 v4 v5 Y O)) w2.heap.size t)):=(fun T v1 V v3 v4 v5 Y O=>(Y8 ((Jm Lz T v1 V v3 v4 v5 Y O).trans (z.o.b1)))); clear I))
 all_goals
  go_wp2_with fail;rw [HX.o.1];refine r64 rfl rfl (Wv (x:=Al 16 t j.heap.size) z.o.b2) rfl ⟨Wy z.o.st hp (xR) (Al 16 t j.heap.size),Ve z.o.ps hp (Al 16 t j.heap.size),_,rfl,Al 16 t j.heap.size,rfl,?_⟩;exact((Ko z.o.n0 z.o.b0 (by have:=HX.o.2.sz; omega) (Al 16 t j.heap.size) [] [] ⟨rfl,rfl⟩ ⟨rfl,xZ _,0,.inl rfl⟩ ⟨rfl,xZ _,.inl rfl⟩).put8 (xU _) (Al 16 t j.heap.size)).lower (Nat.le_succ _)
theorem zkf (pb tb cap d:Nat) (ts:List Tok) (U:Nat->Pr Ty) (hU:Xs pb tb cap d ts Z6 141 U) (N:Ym ts) (a:Nat) (O:Zg ts a [110,111,116]=true) (w:wD) (h:Ps w pb tb cap ts a d) :
  Calls prog 142 #[qP pb] w (Ya pb tb cap ts d w Z6 ((U (a+1)).go fun x b => .inl (Zp 15 [] 0 (Zk ts a).line (Zk ts a).col [] [] [x],b))):=by
 have H:=Za h
 have OK:=Za N
 have hp:=h.ltp
 have HU1:=Za hU
 have C0:=Za (U2 h Zj.obj)
 have HN:=Za (Xx N.ends h.lt O)
 have B4:=Za (Fs O (show([110,111,116]:bS)≠[45] by decide))
 have HS:=Za O
 have B2:=Za (fun w h=>Jj pb tb cap a d ts w h HN.o N.len)
 obtain⟨t,ht⟩:=xE (Zk ts a)
 rw [<- ht] at B2 ⊢
 clear ht O
 obtain⟨R,hR⟩:∃ R:Pr Ty,R=((U (a+1)).go fun x b => .inl (Zp 15 [] 0 t.line t.col [] [] [x],b)):=⟨_,rfl⟩
 rw [<- hR]
 have Yc:=Za hR
 clear h N hR hU
 go_enter func142,ntmps142
 go_wp2_with fail
 refine(V5 pb tb cap a _ 1 ts [[45]] _ _ C0.o.ps.rd (by simp) (by simp)).mono ?_
 rw [T0,B4.o]
 rintro e w1 ⟨rfl,C⟩
 have C1:=Za (C0.o.below C)
 clear C
 go_wp2_with fail
 refine(V5 pb tb cap a _ 1 ts [[110,111,116]] _ _ C1.o.ps.rd (by simp) (by simp)).mono ?_
 rw [T0,HS.o]
 rintro e w2 ⟨rfl,C⟩
 have C2:=Za (C1.o.below C)
 clear C
 go_wp2_with fail
 refine(B2.o _ C2.o.ps).mono ?_
 rintro e z ⟨rfl,F,M⟩
 have C3:=Za (C2.o.step F M)
 have I:=Za (C3.o.alloc (Z3 t))
 clear F M
 obtain⟨⟨k0,k1,k2,k3⟩,_,N4⟩:=Yh I.o.b0
 go_wp2_with fail
 have Lz:z.heap.size≠w.heap.size:=by have:=C3.o.sz; omega
 have Uq:(kT ((z.alloc (Z3 t)).drew) z.heap.size t):=(Y8 (I.o.drew.b0))
 have HC:xQ (Calls prog 141 #[qP pb] (z.alloc (Z3 t)).drew fun e j=>(∃ chain,e = .panicked chain/\Ya pb tb cap ts d w Z6 R e j)∨∃ (y:NV) (D:Ty) (b2:Nat),e = .returned (y.val)/\((kT j z.heap.size t))/\xQ (R = .inl (Zp 15 [] 0 t.line t.col [] [] [D],b2)/\Y4 pb tb cap d ts w j b2 [(z.heap.size,Z3 t),(w.heap.size,Zj.obj)] [(y,D)] [])):=by
  refine(HU1.o.calls (a+1) _ I.o.drew.ps).mono ?_;intro e j Zh;rcases Yr Zh with⟨er,li,co,T,rfl,F⟩ | ⟨D,b2,v,T,rfl,F,M,hv⟩
  ·exact .inl ⟨_,rfl,I.o.drew.st.trans F,by rw [Yc.o,T]; rfl⟩
  obtain⟨y,rfl,hv⟩:=hv;have CN:=(I.o.drew.step F M).addN hv I.o.drew.sz;exact .inr ⟨y,D,b2,rfl,(Y8 (CN.b0)),by rw [Yc.o,T]; rfl,CN⟩
 go_wp2_with fail
 go_region_held (fun W=>(kT W z.heap.size t)) (first | with_reducible assumption | with_reducible exact Vs.o _ | with_reducible exact Wm.o _ _ _ _ _ _ _ _) (first
  | (go_at_call 141; refine HC.o.mono ?_; rintro e j (⟨ch,rfl,hf⟩ | ⟨y,D,b2,rfl,t5,HX⟩); exact⟨rfl,hf⟩; have Vs:xQ (∀ o,(kT ((j.alloc o)) z.heap.size t)):=(fun o=>(Y8 ((HX.o.2.alloc o).b1))))
  | (go_at_call 123; refine(L7 t ⟨15,⟨#[]⟩,0,0,0,none,0,0,none,0,0,some (aP j.heap.size 0),1,1⟩ _).mono ?_; rintro e J ⟨rfl,C⟩; have A:=Za ((HX.o.2.alloc _).below C); have t6:(kT J z.heap.size t):=(Y8 (A.o.b1)); have Pl:=Za (Zn (x:=Zj) (A.o.b2)); obtain⟨⟨r0,r1,r2,r3,r4,r5,r6,r7⟩,⟨f0,f1,f2,f3,f4,f5,f6,f7⟩,Yw⟩:=Pl.o; have Wm:xQ (∀ Y v1 Z v3 v4 v5 v6 V,(kT ((L9 J w.heap.size Y v1 Z v3 v4 v5 v6 V)) z.heap.size t)):=(fun Y v1 Z v3 v4 v5 v6 V=>(Y8 ((Jm Lz Y v1 Z v3 v4 v5 v6 V).trans (A.o.b1)))); clear C))
 all_goals
  go_wp2_with fail;rw [HX.o.1];refine r64 rfl rfl (Wv (x:=Al 15 t j.heap.size) A.o.b2) rfl ⟨Wy A.o.st hp (xR) (Al 15 t j.heap.size),Ve A.o.ps hp (Al 15 t j.heap.size),_,rfl,Al 15 t j.heap.size,rfl,?_⟩;exact((Ko A.o.n0 A.o.b0 (by have:=HX.o.2.sz; omega) (Al 15 t j.heap.size) [] [] ⟨rfl,rfl⟩ ⟨rfl,xZ _,0,.inl rfl⟩ ⟨rfl,xZ _,.inl rfl⟩).put8 (xU _) (Al 15 t j.heap.size)).lower (Nat.le_succ _)
end
end Go.Proofs.YtoppemkjhhlegaaGreatDoor
