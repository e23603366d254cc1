/- Part. -/
import Derived.Deep.Cut
import Derived.Deep.CutRange
import Derived.Defers
import Derived.Recover
import Derived.Test.YtoppemkjhhlegaaGreatDoorPart8
set_option maxRecDepth 100000
set_option maxHeartbeats 4000000
namespace Go.Proofs.YtoppemkjhhlegaaGreatDoor
open Go.Proofs.Tryz
section
open Go.RowKit
attribute [local go_sem ↓] Go.wp_at_zero Go.wp_at_succ
theorem Y4.reset {pb tb cap d b nb o:Nat} {u:vL} {z:Obj} {ts:List Tok} {w0 w:wD} {bx bx':List (Nat×Obj)} {ns:List (NV×Ty)} {tys:List (vL×Ty)} (h:Y4 pb tb cap d ts w0 w b bx ns tys) (Vc:w0.heap.size<nb) (A:(w.setCell (aP nb o) u).heap[nb]?=some z) (C:∀ p ∈ bx',(p=(nb,z)∨(p ∈ bx/\p.1≠nb))):Y4 pb tb cap d ts w0 (w.setCell (aP nb o) u) b bx' [] [] where
 st:=h.st.own h.hp (by omega) o u
 ps:=h.ps.other (by have:=h.hp; omega) o u
 hp:=h.hp
 sz:=by rw [Yg]; exact h.sz
 has:=fun p hp=>by
  rcases C p hp with rfl | ⟨j,F⟩
  ·exact⟨A,by have:=h.hp; show pb<nb; omega⟩
  ·exact⟨(xH F).trans (h.has p j).1,(h.has p j).2⟩
 nds:=(fun _ h=>nomatch h)
 tys:=(fun _ h=>nomatch h)
theorem Y4.less {pb tb cap d b:Nat} {ts:List Tok} {w0 w:wD} {bx bx':List (Nat×Obj)} {ns:List (NV×Ty)} {tys:List (vL×Ty)} (h:Y4 pb tb cap d ts w0 w b bx ns tys) (z:∀ p ∈ bx',p ∈ bx):Y4 pb tb cap d ts w0 w b bx' ns tys:=⟨h.st,h.ps,h.hp,h.sz,fun p j=>h.has p (z p j),h.nds,h.tys⟩
abbrev Qq (t:Tok) (s:bS) (ta:oA) (tl tc:Nat) (ka:oA) (kl kc:Nat):NV:=⟨5,⟨s.toArray⟩,0,t.line,t.col,ta,tl,tc,none,0,0,ka,kl,kc⟩
structure Ms (lo:Nat) (w:wD) (ta:oA) (tys:List Ty) (ns:List (NV×Ty)):Prop where
 kd:∃ m,Qk w lo m ta tys
 nd:∀ p ∈ ns,Y0 lo w p.1 p.2
section
variable {lo pb b : Nat} {w w' : wD} {ta : oA} {tys : List Ty} {ns : List (NV × Ty)} {x : NV} {D : Ty}
theorem Ms.keep (h:Ms lo w ta tys ns) (j:w.heap.size<=w'.heap.size) (z:∀ b,lo<=b->b<w.heap.size->w'.heap[b]?=w.heap[b]?):Ms lo w' ta tys ns:=by
 obtain⟨m,A⟩:=h.kd
 exact⟨⟨m,L4 A j z⟩,fun p C=>(h.nd p C).keep j z⟩
theorem Ms.stay (h:Ms lo w ta tys ns) (j:Zl pb w w') (hp:pb<lo):Ms lo w' ta tys ns:=h.keep j.size fun b hb z=>j.keep b (by omega) z
theorem Ms.below (h:Ms lo w ta tys ns) (j:Below w.heap.size w w'):Ms lo w' ta tys ns:=h.keep j.size fun b _ z=>j.block b z
theorem Ms.alloc (h:Ms lo w ta tys ns) (o:Obj):Ms lo (w.alloc o) ta tys ns:=h.below (Zq _ _)
theorem Ms.set1 (h:Ms lo w ta tys ns) (hb:b<lo) (o:Nat) (u:vL):Ms lo (w.setCell (aP b o) u) ta tys ns:=h.keep (by rw [Yg]; exact xR) fun i hi _=>xH (by show i≠b; omega)
theorem Ms.put8 (h:Ms lo w ta tys ns) (hb:b<lo) (y:NV):Ms lo (put8 w b y) ta tys ns:=h.keep (by rw [Nt]; exact xR) fun i hi _=>N7 (by omega)
theorem Ms.add (h:Ms lo w ta tys ns) (z:Y0 lo w x D):Ms lo w ta tys ((x,D) :: ns):=⟨h.kd,fun p j=>by
 rcases List.mem_cons.1 j with rfl | j
 ·exact z
 ·exact h.nd p j⟩
end
theorem l5 {W:wD} {m n:Nat} {x:NV} (h:W.heap[m]?=some x.obj) (e:m=n):wU W n x:=by
 subst e
 exact Zn h
theorem let_c (pb tb cap d:Nat) (ts:List Tok) (K E:Nat->Pr Ty) (hK:Xs pb tb cap d ts Yk 106 K) (hE:Xs pb tb cap d ts Z6 92 E) (ok:Ym ts) (a:Nat) (w:wD) (h:Ps w pb tb cap ts a d) :
  Calls prog 116 #[qP pb] w (Ya pb tb cap ts d w Z6 ((Ze ts a [108,101,116]).go fun _ b=>(Zu ts b).go fun s b=>(V1 ts K [58] b).go fun y b=>(Ze ts b [61]).go fun _ b=>(E b).go fun v b=>(Ze ts b [59]).go fun _ b=>(E b).go fun r b => .inl (Zp 5 s 0 (Zk ts a).line (Zk ts a).col (if y.2 then [y.1] else []) [] [v,r],b))):=by
 have H:=Za h
 have OK:=Za ok
 have hp:=h.ltp
 have Pm:=Za hE
 have Pn:=Za hK
 have HM0:=Za (fun w h=>Uy pb tb cap a d ts [108,101,116] w h ok)
 obtain⟨t,ht⟩:=xE (Zk ts a)
 rw [<- ht] at HM0 ⊢
 clear ht
 have C0:=Za (U2 h Zj.obj)
 obtain⟨R,hR⟩:∃ R:Pr Ty,R=((Ze ts a [108,101,116]).go fun _ b=>(Zu ts b).go fun s b=>(V1 ts K [58] b).go fun y b=>(Ze ts b [61]).go fun _ b=>(E b).go fun v b=>(Ze ts b [59]).go fun _ b=>(E b).go fun r b => .inl (Zp 5 s 0 t.line t.col (if y.2 then [y.1] else []) [] [v,r],b)):=⟨_,rfl⟩
 rw [<- hR]
 have Yc:=Za hR
 clear h ok hR hE hK
 go_enter func116,ntmps116
 go_wp2_with fail
 refine(HM0.o _ C0.o.ps).mono ?_
 intro e w1 F
 rcases Yr F with⟨er,li,co,C,rfl,z⟩ | ⟨u,b1,v,C,rfl,z,Z,hv⟩
 ·have HE:xQ (R = .inr (er,li,co)):=by rw [Yc.o,C]; exact rfl
  have HF:=Za (C0.o.st.trans z);clear C z F;go_wp2_with fail;exact⟨rfl,HF.o,by rw [HE.o]⟩
 have Yl:xQ (R=(Zu ts b1).go fun s b=>(V1 ts K [58] b).go fun y b=>(Ze ts b [61]).go fun _ b=>(E b).go fun v b=>(Ze ts b [59]).go fun _ b=>(E b).go fun r b => .inl (Zp 5 s 0 t.line t.col (if y.2 then [y.1] else []) [] [v,r],b)):=by rw [Yc.o,C]; exact rfl
 subst hv
 have C1:=Za ((C0.o.step z Z))
 have C2:=Za (C1.o.alloc (Z3 t))
 clear C z Z F  
 obtain⟨⟨k0,k1,k2,k3⟩,_,N4⟩:=Yh C2.o.b0
 go_wp2_with fail
 have Uq:(kT ((w1.alloc (Z3 t)).drew) w1.heap.size t):=Y8 C2.o.b0
 have Sf:xQ (∀ o,(c4 (((w1.alloc (Z3 t)).alloc o).drew) w1.heap.size (iP t.kind) (uP t.text) (iP t.line) (iP t.col))):=(fun o=>Y8 (C2.o.alloc o).drew.b1)
 have HC:xQ (∀ wa bx,Y4 pb tb cap d ts w wa b1 bx [] []->(w1.heap.size,Z3 t) ∈ bx->Calls prog 85 #[qP pb] wa fun e A=>(∃ chain,e = .panicked chain/\Ya pb tb cap ts d w Z6 R e A)∨∃ (s:bS) (b2:Nat),e = .returned (uP s)/\((kT A w1.heap.size t))/\xQ (R=((V1 ts K [58] b2).go fun y b=>(Ze ts b [61]).go fun _ b=>(E b).go fun v b=>(Ze ts b [59]).go fun _ b=>(E b).go fun r b => .inl (Zp 5 s 0 t.line t.col (if y.2 then [y.1] else []) [] [v,r],b))/\Y4 pb tb cap d ts w A b2 bx [] [])):=by
  intro wa bx CA m0;refine(Dx pb tb cap b1 d ts _ CA.ps OK.o).mono ?_;intro e A F;rcases Yr F with⟨er,li,co,C,rfl,z⟩ | ⟨s,b2,v,C,rfl,z,Z,hv⟩
  ·exact .inl ⟨_,rfl,CA.st.trans z,by rw [Yl.o,C]; rfl⟩
  subst hv;have CN:=CA.step z Z;exact .inr ⟨s,b2,rfl,Y8 (CN.has _ m0).1,by rw [Yl.o,C]; rfl,CN⟩
 have hnt0:w1.heap.size≠w.heap.size:=by have:=C1.o.sz; omega
 have hsz1:=C1.o.sz
 go_wp2_with fail
 go_cut [4] from 12 (fun s4 wx=>∃ (nb:Nat) (s:bS) (b2:Nat),s4=qP nb/\w.heap.size<nb/\xQ (R=((V1 ts K [58] b2).go fun y b=>(Ze ts b [61]).go fun _ b=>(E b).go fun v b=>(Ze ts b [59]).go fun _ b=>(E b).go fun r b => .inl (Zp 5 s 0 t.line t.col (if y.2 then [y.1] else []) [] [v,r],b))/\Y4 pb tb cap d ts w wx b2 [(nb,(Va 5 s 0 t).obj),(w.heap.size,Zj.obj)] [] []))
 case first =>
  go_region_held (fun W=>(kT W w1.heap.size t)) (first | with_reducible assumption | with_reducible exact Sf.o _ | with_reducible exact Vs.o _ | with_reducible exact Ln.o _ | with_reducible exact HS4a.o _ _ _ _ _ _ _ _ | with_reducible exact HS4b.o _ _ _ _ _ _ _ _) (first
   | (go_at_call 85; refine(HC.o _ _ (by first | exact C2.o.drew | exact(C2.o.alloc _).drew) (by simp)).mono ?_; rintro e A (⟨ch,rfl,hf⟩ | ⟨s,b2,rfl,t5,HX⟩); exact⟨rfl,hf⟩; have Vs:xQ (∀ o,(kT ((A.alloc o)) w1.heap.size t)):=(fun o=>Y8 ((HX.o.2.alloc o).has (w1.heap.size,Z3 t) (by simp)).1))
   | (go_at_call 123; refine(L7 t ⟨5,⟨s.toArray⟩,0,0,0,none,0,0,none,0,0,none,0,0⟩ _).mono ?_; rintro e w10 ⟨rfl,hb⟩; (first | have Zv:=Za (HX.o.2.below hb) | have Zv:=Za ((HX.o.2.alloc _).below hb)); have t6:(kT w10 w1.heap.size t):=Y8 (Zv.o.has (w1.heap.size,Z3 t) (by simp)).1; have Ln:xQ (∀ o,(kT ((w10.alloc o)) w1.heap.size t)):=(fun o=>Y8 ((Zv.o.alloc o).has (w1.heap.size,Z3 t) (by simp)).1); have HS4a:xQ (∀ v0 v1 v2 v3 v4 v5 v6 v7,(kT ((L9 w10 (w1.heap.size+1) v0 v1 v2 v3 v4 v5 v6 v7)) w1.heap.size t)):=(fun v0 v1 v2 v3 v4 v5 v6 v7=>Y8 ((Jm (by omega) v0 v1 v2 v3 v4 v5 v6 v7).trans (Zv.o.has (w1.heap.size,Z3 t) (by simp)).1)); have HL9:=Za (xB (HX.o.2.has (w1.heap.size,Z3 t) (by simp)).1); have HS4b:xQ (∀ v0 v1 v2 v3 v4 v5 v6 v7,(kT ((L9 w10 A.heap.size v0 v1 v2 v3 v4 v5 v6 v7)) w1.heap.size t)):=(fun v0 v1 v2 v3 v4 v5 v6 v7=>Y8 ((Jm (by have:=HL9.o; omega) v0 v1 v2 v3 v4 v5 v6 v7).trans (Zv.o.has (w1.heap.size,Z3 t) (by simp)).1)); (first | (have Pl:=Za (l5 (x:=Zj) (n:=w1.heap.size+1) Zv.o.b0 (xS w1 (Z3 t))); obtain⟨⟨r0,r1,r2,r3,r4,r5,r6,r7⟩,⟨f0,f1,f2,f3,f4,f5,f6,f7⟩,Yw⟩:=Pl.o) | (have Pl:=Za (l5 (x:=Zj) (n:=A.heap.size) Zv.o.b0 (Eq.refl A.heap.size)); obtain⟨⟨r0,r1,r2,r3,r4,r5,r6,r7⟩,⟨f0,f1,f2,f3,f4,f5,f6,f7⟩,Yw⟩:=Pl.o) | skip); clear hb))
  all_goals go_wp2_with fail
  all_goals go_meet
  ·exact⟨_,s,b2,rfl,Zv.o.sz,HX.o.1,(Zv.o.alloc (Va 5 s 0 t).obj).less (by intro p hp; rcases List.mem_cons.1 hp with rfl | hp; simp; rw [List.mem_singleton.1 hp]; simp)⟩
  ·exact⟨_,s,b2,rfl,HX.o.2.sz,HX.o.1,Zv.o.reput (bx':=[(A.heap.size,(Va 5 s 0 t).obj),(w.heap.size,Zj.obj)]) (HX.o.2.sz) (Va 5 s 0 t) ⟨Zj,by simp⟩ (by intro p hp; rcases List.mem_cons.1 hp with rfl | hp; exact .inl rfl; rw [List.mem_singleton.1 hp]; exact .inr ⟨by simp,by show w.heap.size≠_; have:=HX.o.2.sz; omega⟩)⟩
  ·exact⟨_,s,b2,rfl,(by omega),HX.o.1,Zv.o.reput (bx':=[(w1.heap.size+1,(Va 5 s 0 t).obj),(w.heap.size,Zj.obj)]) (by omega) (Va 5 s 0 t) ⟨Zj,by simp⟩ (by intro p hp; rcases List.mem_cons.1 hp with rfl | hp; exact .inl rfl; rw [List.mem_singleton.1 hp]; exact .inr ⟨by simp,by show w.heap.size≠_; omega⟩)⟩
 case rest =>
  obtain⟨nb,s,b2,rfl,Vc,HXc⟩:=hcut;have Zy:=Za HXc.o.1;have C3:=Za HXc.o.2;clear HXc HC Uq Sf k0 k1 k2 k3;have HnL:=Za (xB C3.o.b0);go_wp2_with fail;refine(yM pb tb cap d ts [58] K Pn.o OK.o b2 _ C3.o.ps).mono ?_;intro e I F;rcases Yr F with⟨er,li,co,C,rfl,z⟩ | ⟨y,b3,v,C,rfl,z,Z,hv⟩
  ·have HE:xQ (R = .inr (er,li,co)):=by rw [Zy.o,C]; exact rfl
   have HF:=Za (C3.o.st.trans z);clear C z F;go_wp2_with fail;exact⟨rfl,HF.o,by rw [HE.o]⟩
  have Yz:xQ (R=(Ze ts b3 [61]).go fun _ b=>(E b).go fun v b=>(Ze ts b [59]).go fun _ b=>(E b).go fun r b => .inl (Zp 5 s 0 t.line t.col (if y.2 then [y.1] else []) [] [v,r],b)):=by rw [Zy.o,C]; exact rfl
  obtain⟨DT,okb⟩:=y;obtain⟨u4,rfl,hv⟩:=hv;obtain⟨k4,Y,T,V,nc4,O,J,M,rfl⟩:=hv.cells;have HVt:=Za hv;have HSz3:=Za z.size;have C4:=Za ((C3.o.step z Z));have C5:=Za (C4.o.alloc (Z7 k4 Y T V nc4 O J M));clear C z Z F hv;obtain⟨lo,Ut⟩:=xE wc.heap.size;rw [<- Ut] at HVt HnL HSz3
  have HLo:xQ (w.heap.size+1<=lo):=by rw [Ut]; exact C3.o.sz
  clear Ut;have Yb:=HnL.o;have Xz:=HLo.o
  cases okb with
  | false =>
   have Xn:xQ (R=(Ze ts b3 [61]).go fun _ b=>(E b).go fun v b=>(Ze ts b [59]).go fun _ b=>(E b).go fun r b => .inl (Zp 5 s 0 t.line t.col [] [] [v,r],b)):=Yz.o
   have HLv:xQ (Ms lo (I.alloc (Z7 k4 Y T V nc4 O J M)) none [] []):=⟨⟨0,.inl rfl⟩,(fun _ h=>nomatch h)⟩
   have C6:=Za (C5.o.less (bx':=[(nb,(Qq t s none 0 0 none 0 0).obj),(w.heap.size,Zj.obj)]) (by intro p hp; exact xW _ hp))
   have HSzA:xQ (lo<=(I.alloc (Z7 k4 Y T V nc4 O J M)).heap.size):=by have:=HSz3.o; show _<=_; rw [xS]; omega
   go_wp2_with fail;refine(Uy pb tb cap b3 d ts [61] _ C6.o.ps OK.o).mono ?_;intro e w4 F;rcases Yr F with⟨er,li,co,C,rfl,z⟩ | ⟨u4,b4,v4,C,rfl,z,Z,hv⟩
   ·have HE:xQ (R = .inr (er,li,co)):=by rw [Xn.o,C]; exact rfl
    have HF:=Za (C6.o.st.trans z);clear C z F;go_wp2_with fail;exact⟨rfl,HF.o,by rw [HE.o]⟩
   have Wn:xQ (R=(E b4).go fun v b=>(Ze ts b [59]).go fun _ b=>(E b).go fun r b => .inl (Zp 5 s 0 t.line t.col [] [] [v,r],b)):=by rw [Xn.o,C]; exact rfl
   have HLw:=Za (HLv.o.stay z (by omega));have Ez:=Za (Nat.le_trans HSzA.o z.size);have C7:=Za ((C6.o.step z Z));clear C z Z F hv;go_wp2_with fail;refine(Pm.o.calls b4 _ C7.o.ps).mono ?_;intro e w5 F;rcases Yr F with⟨er,li,co,C,rfl,z⟩ | ⟨D1,b5,v,C,rfl,z,Z,hv⟩
   ·have HE:xQ (R = .inr (er,li,co)):=by rw [Wn.o,C]; exact rfl
    have HF:=Za (C7.o.st.trans z);clear C z F;go_wp2_with fail;exact⟨rfl,HF.o,by rw [HE.o]⟩
   have Pa:xQ (R=(Ze ts b5 [59]).go fun _ b=>(E b).go fun r b => .inl (Zp 5 s 0 t.line t.col [] [] [D1,r],b)):=by rw [Wn.o,C]; exact rfl
   obtain⟨j,rfl,hv⟩:=hv;have Ov:=Za z.size;have HLx:=Za (((HLw.o.stay z (by omega)).add (hv.lower Ez.o)).alloc j.obj);have C8:=Za ((C7.o.step z Z));have C9:=Za (C8.o.alloc (j.obj));clear C z Z F hv;go_wp2_with fail;refine(Uy pb tb cap b5 d ts [59] _ C9.o.ps OK.o).mono ?_;intro e w6 F;rcases Yr F with⟨er,li,co,C,rfl,z⟩ | ⟨u6,b6,v6,C,rfl,z,Z,hv⟩
   ·have HE:xQ (R = .inr (er,li,co)):=by rw [Pa.o,C]; exact rfl
    have HF:=Za (C9.o.st.trans z);clear C z F;go_wp2_with fail;exact⟨rfl,HF.o,by rw [HE.o]⟩
   have Vz:xQ (R=(E b6).go fun r b => .inl (Zp 5 s 0 t.line t.col [] [] [D1,r],b)):=by rw [Pa.o,C]; exact rfl
   have HLy:=Za (HLx.o.stay z (by omega));have HSzD:=Za (Nat.le_trans (Nat.le_trans Ez.o Ov.o) (Nat.le_trans (by rw [xS]; exact Nat.le_succ _) z.size));have C10:=Za ((C9.o.step z Z));clear C z Z F hv;obtain⟨⟨n0,n1,n2,n3,n4,n5,n6,n7⟩,_,N5⟩:=Zn (x:=j) C10.o.b0;obtain⟨⟨m0,m1,m2,m3,m4,m5,m6,m7⟩,⟨g0,g1,g2,g3,g4,g5,g6,g7⟩,Kk⟩:=Zn (x:=Qq t s (none) 0 0 none 0 0) C10.o.b1
   go_wp2_with fail
   have Dn:w5.heap.size≠nb:=by have:=Ez.o; have:=Ov.o; omega
   have Uq:(kN (w6.drew) w5.heap.size j):=(Zn (x:=j) C10.o.drew.b0).1
   have HC:xQ (Calls prog 92 #[qP pb] w6.drew fun e A=>(∃ chain,e = .panicked chain/\Ya pb tb cap ts d w Z6 R e A)∨∃ (y:NV) (D2:Ty) (b7:Nat),e = .returned y.val/\((kN A w5.heap.size j))/\wU A nb (Qq t s (none) 0 0 none 0 0)/\xQ (R=(.inl (Zp 5 s 0 t.line t.col [] [] [D1,D2],b7))/\Y4 pb tb cap d ts w A b7 [(w5.heap.size,j.obj),(nb,(Qq t s (none) 0 0 none 0 0).obj),(w.heap.size,Zj.obj)] [] []/\Ms lo A (none) [] [(y,D2),(j,D1)])):=by
    refine(Pm.o.calls b6 _ C10.o.drew.ps).mono ?_;intro e A F;rcases Yr F with⟨er,li,co,C,rfl,z⟩ | ⟨D2,b7,v,C,rfl,z,Z,hv⟩
    ·exact .inl ⟨_,rfl,C10.o.drew.st.trans z,by rw [Vz.o,C]; rfl⟩
    obtain⟨y,rfl,hv⟩:=hv;have CN:=C10.o.drew.step z Z;exact .inr ⟨y,D2,b7,rfl,(Zn (x:=j) CN.b0).1,Zn (x:=Qq t s (none) 0 0 none 0 0) CN.b1,by rw [Vz.o,C]; rfl,CN,(HLy.o.stay z.undrew (by omega)).add (hv.lower (by have:=HSzD.o; show lo<=w6.heap.size; omega))⟩
   go_region_held (fun W=>(kN W w5.heap.size j)) (first | with_reducible assumption | with_reducible exact Vs.o _ | with_reducible exact HS7.o _ _) (first
    | (go_at_call 92; refine HC.o.mono ?_; rintro e A (⟨ch,rfl,hf⟩ | ⟨y,D2,b7,rfl,t5,t7,HX⟩); exact⟨rfl,hf⟩; have Vs:xQ (∀ o,(kN ((A.alloc o)) w5.heap.size j)):=(fun o=>(Zn (x:=j) (HX.o.2.1.alloc o).b1).1); have HS7:xQ (∀ u o,(c8 (((A.setCell (aP nb 7) u).alloc o)) w5.heap.size (iP j.k) (.string j.tx) (iP j.N) (iP j.li) (iP j.co) (.slice j.ta j.tl j.tc) (.slice j.na j.nl j.nc) (.slice j.ka j.kl j.kc))):=(fun u o=>(Zn (x:=j) ((xA (by rw [Yg]; exact xB HX.o.2.1.b0)).trans ((xH Dn).trans HX.o.2.1.b0))).1); obtain⟨⟨q0,q1,q2,q3,q4,q5,q6,q7⟩,⟨j0,j1,j2,j3,j4,j5,j6,j7⟩,hq1⟩:=t7; obtain⟨⟨r0,r1,r2,r3,r4,r5,r6,r7⟩,⟨f0,f1,f2,f3,f4,f5,f6,f7⟩,Yw⟩:=Zn (x:=Zj) HX.o.2.1.b2))
   all_goals
    have Ub:¬ nb=w.heap.size:=by omega
    have Up:¬ w.heap.size=nb:=by omega
    have Sv:¬ A.heap.size=nb:=by omega
    have Cf:¬ A.heap.size=w.heap.size:=by omega
    go_wp2_with fail;rw [HX.o.1];have Bp:(A.setCell (aP nb 7) (lP A.heap.size 2 2)).heap[w.heap.size]?=some Zj.obj:=(xH Up).trans HX.o.2.1.b2;refine r64 rfl rfl ((xA (show w.heap.size<(put8 (A.setCell (aP nb 7) (lP A.heap.size 2 2)) w.heap.size (Qq t s (none) 0 0 (some (aP A.heap.size 0)) 2 2)).heap.size by rw [Nt,Yg]; exact Yw)).trans (Wv (x:=Qq t s (none) 0 0 (some (aP A.heap.size 0)) 2 2) Bp)) rfl ⟨(Wy (HX.o.2.1.st.own hp (by omega) 7 _) hp (xR) (Qq t s (none) 0 0 (some (aP A.heap.size 0)) 2 2)).alloc hp _,(Ve (HX.o.2.1.ps.other (by omega) 7 _) hp (Qq t s (none) 0 0 (some (aP A.heap.size 0)) 2 2)).alloc _,_,rfl,Qq t s (none) 0 0 (some (aP A.heap.size 0)) 2 2,rfl,?_⟩
    have hLv:=(((HX.o.2.2.set1 Yb 7 (lP A.heap.size 2 2)).put8 (b:=w.heap.size) (by omega) (Qq t s (none) 0 0 (some (aP A.heap.size 0)) 2 2)).alloc (.cells #[iP j.k,.string j.tx,iP j.N,iP j.li,iP j.co,.slice j.ta j.tl j.tc,.slice j.na j.nl j.nc,.slice j.ka j.kl j.kc,iP y.k,.string y.tx,iP y.N,iP y.li,iP y.co,.slice y.ta y.tl y.tc,.slice y.na y.nl y.nc,.slice y.ka y.kl y.kc] 64))
    have hk:((put8 (A.setCell (aP nb 7) (lP A.heap.size 2 2)) w.heap.size (Qq t s (none) 0 0 (some (aP A.heap.size 0)) 2 2)).alloc (.cells #[iP j.k,.string j.tx,iP j.N,iP j.li,iP j.co,.slice j.ta j.tl j.tc,.slice j.na j.nl j.nc,.slice j.ka j.kl j.kc,iP y.k,.string y.tx,iP y.N,iP y.li,iP y.co,.slice y.ta y.tl y.tc,.slice y.na y.nl y.nc,.slice y.ka y.kl y.kc] 64)).heap[A.heap.size]?=some (.cells #[iP j.k,.string j.tx,iP j.N,iP j.li,iP j.co,.slice j.ta j.tl j.tc,.slice j.na j.nl j.nc,.slice j.ka j.kl j.kc,iP y.k,.string y.tx,iP y.N,iP y.li,iP y.co,.slice y.ta y.tl y.tc,.slice y.na y.nl y.nc,.slice y.ka y.kl y.kc] 64):=by
     have:=xL (put8 (A.setCell (aP nb 7) (lP A.heap.size 2 2)) w.heap.size (Qq t s (none) 0 0 (some (aP A.heap.size 0)) 2 2)) (.cells #[iP j.k,.string j.tx,iP j.N,iP j.li,iP j.co,.slice j.ta j.tl j.tc,.slice j.na j.nl j.nc,.slice j.ka j.kl j.kc,iP y.k,.string y.tx,iP y.N,iP y.li,iP y.co,.slice y.ta y.tl y.tc,.slice y.na y.nl y.nc,.slice y.ka y.kl y.kc] 64);rw [Nt,Yg] at this
     exact this
    exact(Dv (hLv.nd (j,D1) (by simp)) (hLv.nd (y,D2) (by simp)) hk (by have:=xB HX.o.2.1.b0; have:=Ez.o; have:=Ov.o; omega) (Qq t s (none) 0 0 (some (aP A.heap.size 0)) 2 2) [] [] ⟨rfl,rfl⟩ ⟨rfl,by simp,hLv.kd⟩ ⟨rfl,xZ _,.inl rfl⟩).lower (by omega)
  | true =>
   have Xn:xQ (R=(Ze ts b3 [61]).go fun _ b=>(E b).go fun v b=>(Ze ts b [59]).go fun _ b=>(E b).go fun r b => .inl (Zp 5 s 0 t.line t.col [DT] [] [v,r],b)):=Yz.o;obtain⟨⟨q0,q1,q2,q3,q4,q5,q6,q7⟩,⟨j0,j1,j2,j3,j4,j5,j6,j7⟩,hq1⟩:=Zn (x:=Va 5 s 0 t) C4.o.b0
   have Xg:(I.setCell (aP nb 5) (lP (I.heap.size+1) 1 1)).heap[nb]?=some (Qq t s (some (aP (I.heap.size+1) 0)) 1 1 none 0 0).obj:=by
    have:=Y1 (o:=5) (u:=lP (I.heap.size+1) 1 1) C4.o.b0
    simpa using this
   have Yu:(((I.setCell (aP nb 5) (lP (I.heap.size+1) 1 1)).alloc (Z7 k4 Y T V nc4 O J M)).alloc (Z7 k4 Y T V nc4 O J M)).heap[I.heap.size+1]?=some (Z7 k4 Y T V nc4 O J M):=by
    have:=xL ((I.setCell (aP nb 5) (lP (I.heap.size+1) 1 1)).alloc (Z7 k4 Y T V nc4 O J M)) (Z7 k4 Y T V nc4 O J M);rw [xS,Yg] at this;exact this
   have HSzA:xQ (lo<=(((I.setCell (aP nb 5) (lP (I.heap.size+1) 1 1)).alloc (Z7 k4 Y T V nc4 O J M)).alloc (Z7 k4 Y T V nc4 O J M)).heap.size):=by have:=HSz3.o; show _<=_; rw [xS,xS,Yg]; omega
   have HLv:xQ (Ms lo (((I.setCell (aP nb 5) (lP (I.heap.size+1) 1 1)).alloc (Z7 k4 Y T V nc4 O J M)).alloc (Z7 k4 Y T V nc4 O J M)) (some (aP (I.heap.size+1) 0)) [DT] []):=⟨mC (((HVt.o.set1 Yb 5 _).alloc _).alloc _) Yu (by have:=HSz3.o; omega),(fun _ h=>nomatch h)⟩
   have C6:=Za ((((C4.o.reset (bx':=[(nb,(Qq t s (some (aP (I.heap.size+1) 0)) 1 1 none 0 0).obj),(w.heap.size,Zj.obj)]) Vc Xg (by intro p hp; rcases List.mem_cons.1 hp with rfl | hp; exact .inl rfl; rw [List.mem_singleton.1 hp]; exact .inr ⟨by simp,by show w.heap.size≠nb; omega⟩)).alloc (Z7 k4 Y T V nc4 O J M)).alloc (Z7 k4 Y T V nc4 O J M)).less (bx':=[(nb,(Qq t s (some (aP (I.heap.size+1) 0)) 1 1 none 0 0).obj),(w.heap.size,Zj.obj)]) (by intro p hp; exact xW _ (xW _ hp)))
   clear Xg Yu;go_wp2_with fail;refine(Uy pb tb cap b3 d ts [61] _ C6.o.ps OK.o).mono ?_;intro e w4 F;rcases Yr F with⟨er,li,co,C,rfl,z⟩ | ⟨u4,b4,v4,C,rfl,z,Z,hv⟩
   ·have HE:xQ (R = .inr (er,li,co)):=by rw [Xn.o,C]; exact rfl
    have HF:=Za (C6.o.st.trans z);clear C z F;go_wp2_with fail;exact⟨rfl,HF.o,by rw [HE.o]⟩
   have Wn:xQ (R=(E b4).go fun v b=>(Ze ts b [59]).go fun _ b=>(E b).go fun r b => .inl (Zp 5 s 0 t.line t.col [DT] [] [v,r],b)):=by rw [Xn.o,C]; exact rfl
   have HLw:=Za (HLv.o.stay z (by omega));have Ez:=Za (Nat.le_trans HSzA.o z.size);have C7:=Za ((C6.o.step z Z));clear C z Z F hv;go_wp2_with fail;refine(Pm.o.calls b4 _ C7.o.ps).mono ?_;intro e w5 F;rcases Yr F with⟨er,li,co,C,rfl,z⟩ | ⟨D1,b5,v,C,rfl,z,Z,hv⟩
   ·have HE:xQ (R = .inr (er,li,co)):=by rw [Wn.o,C]; exact rfl
    have HF:=Za (C7.o.st.trans z);clear C z F;go_wp2_with fail;exact⟨rfl,HF.o,by rw [HE.o]⟩
   have Pa:xQ (R=(Ze ts b5 [59]).go fun _ b=>(E b).go fun r b => .inl (Zp 5 s 0 t.line t.col [DT] [] [D1,r],b)):=by rw [Wn.o,C]; exact rfl
   obtain⟨j,rfl,hv⟩:=hv;have Ov:=Za z.size;have HLx:=Za (((HLw.o.stay z (by omega)).add (hv.lower Ez.o)).alloc j.obj);have C8:=Za ((C7.o.step z Z));have C9:=Za (C8.o.alloc (j.obj));clear C z Z F hv;go_wp2_with fail;refine(Uy pb tb cap b5 d ts [59] _ C9.o.ps OK.o).mono ?_;intro e w6 F;rcases Yr F with⟨er,li,co,C,rfl,z⟩ | ⟨u6,b6,v6,C,rfl,z,Z,hv⟩
   ·have HE:xQ (R = .inr (er,li,co)):=by rw [Pa.o,C]; exact rfl
    have HF:=Za (C9.o.st.trans z);clear C z F;go_wp2_with fail;exact⟨rfl,HF.o,by rw [HE.o]⟩
   have Vz:xQ (R=(E b6).go fun r b => .inl (Zp 5 s 0 t.line t.col [DT] [] [D1,r],b)):=by rw [Pa.o,C]; exact rfl
   have HLy:=Za (HLx.o.stay z (by omega));have HSzD:=Za (Nat.le_trans (Nat.le_trans Ez.o Ov.o) (Nat.le_trans (by rw [xS]; exact Nat.le_succ _) z.size));have C10:=Za ((C9.o.step z Z));clear C z Z F hv;obtain⟨⟨n0,n1,n2,n3,n4,n5,n6,n7⟩,_,N5⟩:=Zn (x:=j) C10.o.b0;obtain⟨⟨m0,m1,m2,m3,m4,m5,m6,m7⟩,⟨g0,g1,g2,g3,g4,g5,g6,g7⟩,Kk⟩:=Zn (x:=Qq t s (some (aP (I.heap.size+1) 0)) 1 1 none 0 0) C10.o.b1
   go_wp2_with fail
   have Dn:w5.heap.size≠nb:=by have:=Ez.o; have:=Ov.o; omega
   have Uq:(kN (w6.drew) w5.heap.size j):=(Zn (x:=j) C10.o.drew.b0).1
   have HC:xQ (Calls prog 92 #[qP pb] w6.drew fun e A=>(∃ chain,e = .panicked chain/\Ya pb tb cap ts d w Z6 R e A)∨∃ (y:NV) (D2:Ty) (b7:Nat),e = .returned y.val/\((kN A w5.heap.size j))/\wU A nb (Qq t s (some (aP (I.heap.size+1) 0)) 1 1 none 0 0)/\xQ (R=(.inl (Zp 5 s 0 t.line t.col [DT] [] [D1,D2],b7))/\Y4 pb tb cap d ts w A b7 [(w5.heap.size,j.obj),(nb,(Qq t s (some (aP (I.heap.size+1) 0)) 1 1 none 0 0).obj),(w.heap.size,Zj.obj)] [] []/\Ms lo A (some (aP (I.heap.size+1) 0)) [DT] [(y,D2),(j,D1)])):=by
    refine(Pm.o.calls b6 _ C10.o.drew.ps).mono ?_;intro e A F;rcases Yr F with⟨er,li,co,C,rfl,z⟩ | ⟨D2,b7,v,C,rfl,z,Z,hv⟩
    ·exact .inl ⟨_,rfl,C10.o.drew.st.trans z,by rw [Vz.o,C]; rfl⟩
    obtain⟨y,rfl,hv⟩:=hv;have CN:=C10.o.drew.step z Z;exact .inr ⟨y,D2,b7,rfl,(Zn (x:=j) CN.b0).1,Zn (x:=Qq t s (some (aP (I.heap.size+1) 0)) 1 1 none 0 0) CN.b1,by rw [Vz.o,C]; rfl,CN,(HLy.o.stay z.undrew (by omega)).add (hv.lower (by have:=HSzD.o; show lo<=w6.heap.size; omega))⟩
   go_region_held (fun W=>(kN W w5.heap.size j)) (first | with_reducible assumption | with_reducible exact Vs.o _ | with_reducible exact HS7.o _ _) (first
    | (go_at_call 92; refine HC.o.mono ?_; rintro e A (⟨ch,rfl,hf⟩ | ⟨y,D2,b7,rfl,t5,t7,HX⟩); exact⟨rfl,hf⟩; have Vs:xQ (∀ o,(kN ((A.alloc o)) w5.heap.size j)):=(fun o=>(Zn (x:=j) (HX.o.2.1.alloc o).b1).1); have HS7:xQ (∀ u o,(c8 (((A.setCell (aP nb 7) u).alloc o)) w5.heap.size (iP j.k) (.string j.tx) (iP j.N) (iP j.li) (iP j.co) (.slice j.ta j.tl j.tc) (.slice j.na j.nl j.nc) (.slice j.ka j.kl j.kc))):=(fun u o=>(Zn (x:=j) ((xA (by rw [Yg]; exact xB HX.o.2.1.b0)).trans ((xH Dn).trans HX.o.2.1.b0))).1); obtain⟨⟨q0,q1,q2,q3,q4,q5,q6,q7⟩,⟨j0,j1,j2,j3,j4,j5,j6,j7⟩,hq1⟩:=t7; obtain⟨⟨r0,r1,r2,r3,r4,r5,r6,r7⟩,⟨f0,f1,f2,f3,f4,f5,f6,f7⟩,Yw⟩:=Zn (x:=Zj) HX.o.2.1.b2))
   all_goals
    have Ub:¬ nb=w.heap.size:=by omega
    have Up:¬ w.heap.size=nb:=by omega
    have Sv:¬ A.heap.size=nb:=by omega
    have Cf:¬ A.heap.size=w.heap.size:=by omega
    go_wp2_with fail;rw [HX.o.1];have Bp:(A.setCell (aP nb 7) (lP A.heap.size 2 2)).heap[w.heap.size]?=some Zj.obj:=(xH Up).trans HX.o.2.1.b2;refine r64 rfl rfl ((xA (show w.heap.size<(put8 (A.setCell (aP nb 7) (lP A.heap.size 2 2)) w.heap.size (Qq t s (some (aP (I.heap.size+1) 0)) 1 1 (some (aP A.heap.size 0)) 2 2)).heap.size by rw [Nt,Yg]; exact Yw)).trans (Wv (x:=Qq t s (some (aP (I.heap.size+1) 0)) 1 1 (some (aP A.heap.size 0)) 2 2) Bp)) rfl ⟨(Wy (HX.o.2.1.st.own hp (by omega) 7 _) hp (xR) (Qq t s (some (aP (I.heap.size+1) 0)) 1 1 (some (aP A.heap.size 0)) 2 2)).alloc hp _,(Ve (HX.o.2.1.ps.other (by omega) 7 _) hp (Qq t s (some (aP (I.heap.size+1) 0)) 1 1 (some (aP A.heap.size 0)) 2 2)).alloc _,_,rfl,Qq t s (some (aP (I.heap.size+1) 0)) 1 1 (some (aP A.heap.size 0)) 2 2,rfl,?_⟩
    have hLv:=(((HX.o.2.2.set1 Yb 7 (lP A.heap.size 2 2)).put8 (b:=w.heap.size) (by omega) (Qq t s (some (aP (I.heap.size+1) 0)) 1 1 (some (aP A.heap.size 0)) 2 2)).alloc (.cells #[iP j.k,.string j.tx,iP j.N,iP j.li,iP j.co,.slice j.ta j.tl j.tc,.slice j.na j.nl j.nc,.slice j.ka j.kl j.kc,iP y.k,.string y.tx,iP y.N,iP y.li,iP y.co,.slice y.ta y.tl y.tc,.slice y.na y.nl y.nc,.slice y.ka y.kl y.kc] 64))
    have hk:((put8 (A.setCell (aP nb 7) (lP A.heap.size 2 2)) w.heap.size (Qq t s (some (aP (I.heap.size+1) 0)) 1 1 (some (aP A.heap.size 0)) 2 2)).alloc (.cells #[iP j.k,.string j.tx,iP j.N,iP j.li,iP j.co,.slice j.ta j.tl j.tc,.slice j.na j.nl j.nc,.slice j.ka j.kl j.kc,iP y.k,.string y.tx,iP y.N,iP y.li,iP y.co,.slice y.ta y.tl y.tc,.slice y.na y.nl y.nc,.slice y.ka y.kl y.kc] 64)).heap[A.heap.size]?=some (.cells #[iP j.k,.string j.tx,iP j.N,iP j.li,iP j.co,.slice j.ta j.tl j.tc,.slice j.na j.nl j.nc,.slice j.ka j.kl j.kc,iP y.k,.string y.tx,iP y.N,iP y.li,iP y.co,.slice y.ta y.tl y.tc,.slice y.na y.nl y.nc,.slice y.ka y.kl y.kc] 64):=by
     have:=xL (put8 (A.setCell (aP nb 7) (lP A.heap.size 2 2)) w.heap.size (Qq t s (some (aP (I.heap.size+1) 0)) 1 1 (some (aP A.heap.size 0)) 2 2)) (.cells #[iP j.k,.string j.tx,iP j.N,iP j.li,iP j.co,.slice j.ta j.tl j.tc,.slice j.na j.nl j.nc,.slice j.ka j.kl j.kc,iP y.k,.string y.tx,iP y.N,iP y.li,iP y.co,.slice y.ta y.tl y.tc,.slice y.na y.nl y.nc,.slice y.ka y.kl y.kc] 64)
     rw [Nt,Yg] at this;exact this
    exact(Dv (hLv.nd (j,D1) (by simp)) (hLv.nd (y,D2) (by simp)) hk (by have:=xB HX.o.2.1.b0; have:=Ez.o; have:=Ov.o; omega) (Qq t s (some (aP (I.heap.size+1) 0)) 1 1 (some (aP A.heap.size 0)) 2 2) [DT] [] ⟨rfl,rfl⟩ ⟨rfl,by simp,hLv.kd⟩ ⟨rfl,xZ _,.inl rfl⟩).lower (by omega)
end
section
variable {ts : List Tok} {K E U sub : Nat -> Pr Ty} {f a : Nat} {x : Ty}
theorem mG {s:bS} (h:Zg ts a s=true):Ze ts a s = .inl ((),a+1):=by unfold Ze; rw [if_pos h]
theorem nC (ts:List Tok) (f:Nat):∀ (n m d a:Nat),101<=d+n->101<=d+m->Wg ts f n d a=Wg ts f m d a
 | 0,0,_,_,_,_=>rfl
 | 0,m+1,d,a,h1,h2=>by rw [Wg,Wg,if_pos (by omega)]
 | n+1,0,d,a,h1,h2=>by rw [Wg,Wg,if_pos (by omega)]
 | n+1,m+1,d,a,h1,h2=>by
  rw [Wg,Wg];by_cases h:100<=d
  ·rw [if_pos h,if_pos h]
  ·rw [if_neg h,if_neg h]
   have e:Wg ts f n (d+1)=Wg ts f m (d+1):=funext fun a=>nC ts f n m (d+1) a (by omega) (by omega)
   rw [e]
theorem Me {α β γ:Type} (r:Pr α) (p:α->Nat->Pr β) (q:β->Nat->Pr γ):(r.go p).go q=r.go fun x a=>(p x a).go q:=by
 rcases r with⟨x,a⟩ | e <;> rfl
theorem yQ (r:Pr Ty):(r.go fun x b => .inl (x,b))=r:=by
 rcases r with⟨x,a⟩ | e <;> rfl
theorem Jw {α β:Type} {r:Pr α} {p q:α->Nat->Pr β} (h:∀ x a,p x a=q x a):r.go p=r.go q:=by
 rw [show p=q from funext fun x=>funext fun a=>h x a]
theorem dV {β:Type} (G:List Ty->Nat->Pr β):((V1 ts K [58] a).go fun y b=>G (if y.2 then [y.1] else []) b)=(Vp ts K a).go G:=by
 unfold V1 Vp
 by_cases h:Zg ts a [58]=true
 ·rw [if_pos h,if_pos h,Me,Me]
  exact Jw fun _ _=>rfl
 ·rw [if_neg h,if_neg h]
  rfl
theorem let_eq (h:Zg ts a [108,101,116]=true):((Ze ts a [108,101,116]).go fun _ b=>(Zu ts b).go fun s b=>(V1 ts K [58] b).go fun y b=>(Ze ts b [61]).go fun _ b=>(E b).go fun v b=>(Ze ts b [59]).go fun _ b=>(E b).go fun r b => .inl (Zp 5 s 0 (Zk ts a).line (Zk ts a).col (if y.2 then [y.1] else []) [] [v,r],b))=Nh ts K E U f a:=by
 unfold Nh
 rw [if_pos h,mG h,Fo]
 refine Jw fun s b=>?_
 exact dV (fun t b=>(Ze ts b [61]).go fun _ b=>(E b).go fun v b=>(Ze ts b [59]).go fun _ b=>(E b).go fun r b => .inl (Zp 5 s 0 (Zk ts a).line (Zk ts a).col t [] [v,r],b))
theorem if_eq (j:Zg ts a [108,101,116]=false) (h:Zg ts a [105,102]=true):((Ze ts a [105,102]).go fun _ b=>(E b).go fun c b=>(Ze ts b [116,104,101,110]).go fun _ b=>(E b).go fun x b=>(Ze ts b [101,108,115,101]).go fun _ b=>(E b).go fun y b => .inl (Zp 11 [] 0 (Zk ts a).line (Zk ts a).col [] [] [c,x,y],b))=Nh ts K E U f a:=by
 unfold Nh
 rw [if_neg (by simp [j]),if_pos h,mG h,Fo]
 rfl
theorem gC {β:Type} (G:bS×List Ty->Nat->Pr β):((Ji ts K a).go fun h b=>(V1 ts K [58] b).go fun y b=>G (h.1,h.2 :: if y.2 then [y.1] else []) b)=(B8 ts K a).go G:=by
 unfold Ji B8
 rw [Me,Me]
 refine Jw fun _ b=>?_
 rw [Me,Me]
 refine Jw fun s b=>?_
 rw [Me,Me]
 have j:((V1 ts K [58] b).go fun x a=>Pr.go (Pr.go (Ze ts a [41]) fun _ b => .inl ((s,x.1),b)) fun h b=>(V1 ts K [58] b).go fun y b=>G (h.1,h.2 :: if y.2 then [y.1] else []) b) =
   (Vp ts K b).go fun x a=>(Ze ts a [41]).go fun _ a=>(V1 ts K [58] a).go fun y b=>G (s,(if x.isEmpty then [Y7 0 [] [] []] else x) ++ (if y.2 then [y.1] else [])) b:=by
  unfold V1 Vp;by_cases h:Zg ts b [58]=true
  ·rw [if_pos h,if_pos h,Me,Me]
   refine Jw fun t c=>?_
   rw [Fo,Fo,Me];rfl
  ·rw [if_neg h,if_neg h,Fo,Fo,Me]
   rfl
 rw [j]
 refine Jw fun x c=>?_
 rw [Me]
 refine Jw fun _ c=>?_
 rw [Me]
 exact dV (fun y b=>G (s,(if x.isEmpty then [Y7 0 [] [] []] else x) ++ y) b)
theorem fn_eq (z:Zg ts a [108,101,116]=false) (j:Zg ts a [105,102]=false) (h:Zg ts a [102,110]=true):((Ze ts a [102,110]).go fun _ b=>(Ji ts K b).go fun h b=>(V1 ts K [58] b).go fun y b=>(Ze ts b [61,62]).go fun _ b=>(E b).go fun x b => .inl (Zp 6 h.1 0 (Zk ts a).line (Zk ts a).col (h.2 :: if y.2 then [y.1] else []) [] [x],b))=Nh ts K E U f a:=by
 unfold Nh
 rw [if_neg (by simp [z]),if_neg (by simp [j]),if_pos h,mG h,Fo]
 exact gC (fun h b=>(Ze ts b [61,62]).go fun _ b=>(E b).go fun x b => .inl (Zp 6 h.1 0 (Zk ts a).line (Zk ts a).col h.2 [] [x],b))
theorem or_eq (z:Zg ts a [108,101,116]=false) (j:Zg ts a [105,102]=false) (h:Zg ts a [102,110]=false):Co ts K U f a=Nh ts K E U f a:=by
 unfold Nh
 rw [if_neg (by simp [z]),if_neg (by simp [j]),if_neg (by simp [h])]
theorem zav {L:List (bS)} (h:(L.any fun s=>Zg ts a s)=true):L.find? (Zg ts a)=some (Zk ts a).text:=by
 obtain⟨s,z,A⟩:=List.any_eq_true.1 h
 obtain⟨q,j⟩:=Option.isSome_iff_exists.1 (List.find?_isSome.2 ⟨s,z,A⟩)
 rw [j,pR (List.find?_some j)]
theorem zau {L:List (bS)} (h:(L.any fun s=>Zg ts a s)=false):L.find? (Zg ts a)=none:=List.find?_eq_none.2 fun s j=>by
 have:=List.any_eq_false.1 h s j
 simpa using this
theorem tag_eq {β:Type} (G:Int->Nat->Pr β):((Cu ts a).go G)=match Qj.findIdx? (Zg ts a)with
  | some i=>G i (a+1)
  | none=>Vj ts 7 a:=by
 unfold Cu Nv
 by_cases j:(Zk ts a).kind=2∨(Zk ts a).kind=5
 ·have z:((Zk ts a).kind == 2 || (Zk ts a).kind == 5)=true:=by rcases j with h | h <;> simp [h]
  have e:Qj.findIdx? (Zg ts a)=Qj.findIdx? (· == (Zk ts a).text):=by
   congr 1
   funext s
   unfold Zg;rw [z,Bool.true_and,Bool.eq_iff_iff,beq_iff_eq,beq_iff_eq];exact eq_comm
  rw [if_pos j,e,Ac]
  cases Qj.findIdx? (· == (Zk ts a).text)with
  | none=>rfl
  | some i =>
   simp only;rw [if_pos (Int.natCast_nonneg i)];rfl
 ·have z:((Zk ts a).kind == 2 || (Zk ts a).kind == 5)=false:=by simpa using j
  have e:Qj.findIdx? (Zg ts a)=none:=List.findIdx?_eq_none_iff.2 fun s _=>by unfold Zg; rw [z,Bool.false_and]
  rw [if_neg j,e,if_neg (by decide)];rfl
theorem l9:Hx ts K sub a=(sub a).go fun x b=>O8 ts K sub x b:=by
 unfold Hx
 refine Jw fun x b=>?_
 unfold O8
 cases h3:([[60],[60,61],[61,61]]:List (bS)).any fun s=>Zg ts b s with
 | true =>
  rw [zav h3,if_pos rfl];rfl
 | false =>
  rw [zau h3];simp only [Bool.false_eq_true,if_false];by_cases j:Zg ts b [105,115]=true
  ·have h:=Fs j (show([105,115]:bS)≠[97,115] by decide)
   simp only [h,j,Bool.false_eq_true,if_false,if_true];rw [tag_eq]
   cases Qj.findIdx? (Zg ts (b+1)) <;> rfl
  ·by_cases h:Zg ts b [97,115]=true
   ·simp only [h,j,if_true]
    simp;rfl
   ·simp only [h,j]
    simp
end
section
open Go.RowKit
section
variable {ts : List Tok} {K E U sub : Nat -> Pr Ty} {f a : Nat} {x : Ty}
theorem zie {s:bS} (h:Zg ts a s=true):(Zk ts a).kind≠3/\(Zk ts a).kind≠4/\(Zk ts a).kind≠1:=by
 unfold Zg at h
 simp only [Bool.and_eq_true,Bool.or_eq_true,beq_iff_eq] at h
 rcases h.1 with h | h <;> (rw [h]; decide)
theorem Bu {s j:bS} (h:Zg ts a s=true) (z:(s == j)=false):¬ Zg ts a j=true:=by
 rw [Fs h (by simpa using z)]
 simp
def E3 (ts:List Tok) (K E:Nat->Pr Ty) (f a:Nat):Pr Ty :=
 if Zg ts a [116,114,117,101] then .inl (Zp 2 [] 1 (Yj ts a) (Yi ts a) [] [] [],a+1)
 else if Zg ts a [102,97,108,115,101] then .inl (Zp 2 [] 0 (Yj ts a) (Yi ts a) [] [] [],a+1)
 else if Zg ts a [110,117,108,108] then .inl (Zp 3 [] 0 (Yj ts a) (Yi ts a) [] [] [],a+1)
 else if Zg ts a [114,101,97,100] then(Ze ts (a+1) [40]).go fun _ b=>(Ze ts b [41]).go fun _ b => .inl (Zp 18 [] 0 (Yj ts a) (Yi ts a) [] [] [],b)
 else if Zg ts a [112,114,105,110,116] then(Ze ts (a+1) [40]).go fun _ b=>(E b).go fun x b=>(Ze ts b [41]).go fun _ b => .inl (Zp 17 [] 0 (Yj ts a) (Yi ts a) [] [] [x],b)
 else if Zg ts a [40] then(E (a+1)).go fun x b=>(Ze ts b [41]).go fun _ b => .inl (x,b)
 else if Zg ts a [123] then Aj ts E f a
 else(Zu ts a).go fun s b=>if Zg ts b [91] then(Z9 ts K [44] f (b+1)).go fun l b=>(Ze ts b [93]).go fun _ b => .inl (Zp 19 s 0 (Yj ts a) (Yi ts a) l [] [],b)else .inl (Zp 4 s 0 (Yj ts a) (Yi ts a) [] [] [],b)
theorem O7 {s:bS} (h:Zg ts a s=true):Pt ts K E f a=E3 ts K E f a:=by
 obtain⟨j,z,_⟩:=zie h
 unfold Pt E3
 rw [if_neg (by simpa using j),if_neg (by simpa using z)]
theorem oB (h:Zg ts a [116,114,117,101]=true):Pt ts K E f a = .inl (Zp 2 [] 1 (Zk ts a).line (Zk ts a).col [] [] [],a+1):=by
 rw [O7 h,E3,if_pos h]
 rfl
theorem iT (h:Zg ts a [102,97,108,115,101]=true):Pt ts K E f a = .inl (Zp 2 [] 0 (Zk ts a).line (Zk ts a).col [] [] [],a+1):=by
 rw [O7 h,E3,if_neg (Bu h rfl),if_pos h]
 rfl
theorem iU (h:Zg ts a [110,117,108,108]=true):Pt ts K E f a = .inl (Zp 3 [] 0 (Zk ts a).line (Zk ts a).col [] [] [],a+1):=by
 rw [O7 h,E3,if_neg (Bu h rfl),if_neg (Bu h rfl),if_pos h]
 rfl
theorem iZ (h:Zg ts a [114,101,97,100]=true):Pt ts K E f a=(Ze ts (a+1) [40]).go fun _ b=>(Ze ts b [41]).go fun _ b => .inl (Zp 18 [] 0 (Zk ts a).line (Zk ts a).col [] [] [],b):=by
 rw [O7 h,E3,if_neg (Bu h rfl),if_neg (Bu h rfl),if_neg (Bu h rfl),if_pos h]
 rfl
theorem iX (h:Zg ts a [112,114,105,110,116]=true):Pt ts K E f a=((Ze ts (a+1) [40]).go fun _ b=>(E b).go fun x b=>(Ze ts b [41]).go fun _ b => .inl (x,b)).go fun x b => .inl (Zp 17 [] 0 (Zk ts a).line (Zk ts a).col [] [] [x],b):=by
 rw [O7 h,E3,if_neg (Bu h rfl),if_neg (Bu h rfl),if_neg (Bu h rfl),if_neg (Bu h rfl),if_pos h,Me]
 refine Jw fun _ b=>?_
 rw [Me]
 refine Jw fun x b=>?_
 rw [Me]
 rfl
theorem iO (h:Zg ts a [40]=true):Pt ts K E f a=((Ze ts a [40]).go fun _ b=>(E b).go fun x b=>(Ze ts b [41]).go fun _ b => .inl (x,b)).go fun x b => .inl (x,b):=by
 rw [O7 h,E3,if_neg (Bu h rfl),if_neg (Bu h rfl),if_neg (Bu h rfl),if_neg (Bu h rfl),if_neg (Bu h rfl),if_pos h,yQ,mG h,Fo]
theorem zim (z:Ym ts) (b:Nat):Zg ts b [58]=((Zk ts b).kind == 5 && (Zk ts b).text == [58]):=by
 unfold Zg
 by_cases h:(Zk ts b).kind=2
 ·have j:b<ts.length:=by
   by_cases A:b<ts.length
   ·exact A
   ·exfalso
    unfold Zk at h;rw [List.getD_eq_getElem?_getD,List.getElem?_eq_none (by omega)] at h;simp at h
  have:=z.wrd b j h;rw [h];simp [this]
 ·have e:((Zk ts b).kind == 2)=false:=by simpa using h
  rw [e,Bool.false_or]
theorem i7 (A:Ym ts) (h:Zg ts a [123]=true):Pt ts K E f a=(yO ts E f (a+1)).go fun x b => .inl (uI (Zk ts a) x,b):=by
 rw [O7 h,E3,if_neg (Bu h rfl),if_neg (Bu h rfl),if_neg (Bu h rfl),if_neg (Bu h rfl),if_neg (Bu h rfl),if_neg (Bu h rfl),if_pos h]
 unfold Aj yO
 by_cases j:Zg ts (a+1) [125]=true
 ·rw [if_pos j,if_pos j,mX j]
  rfl
 ·rw [if_neg j,if_neg j,zim A]
  by_cases z:((Zk ts (a+1)).kind == 1 && ((Zk ts (a+1+1)).kind == 5 && (Zk ts (a+1+1)).text == [58]))=true
  ·rw [if_pos z,if_pos z,B7,if_neg j,Me,Me]
   refine Jw fun l b=>?_
   rw [Me];rfl
  ·rw [if_neg z,if_neg z,Me]
   refine Jw fun x b=>?_
   rw [Me]
   refine Jw fun _ b=>?_
   rw [Me]
   refine Jw fun s b=>?_
   rw [Me]
   refine Jw fun _ b=>?_
   rw [Me]
   refine Jw fun y b=>?_
   rw [Me];rfl
theorem i9 (C:(Lr.any fun s=>Zg ts a s)=false) (I:Zg ts a [112,114,105,110,116]=false) (H:Zg ts a [114,101,97,100]=false) (M:Zg ts a [40]=false) (F:Zg ts a [123]=false):Pt ts K E f a=(wM ts K f a).go fun x b => .inl (x,b):=by
 rw [yQ]
 have A:∀ s ∈ Lr,¬ Zg ts a s=true:=fun s J=>by
  have:=List.any_eq_false.1 C s J;exact this
 unfold Pt wM
 by_cases h:(Zk ts a).kind=3
 ·rw [if_pos (by simpa using h),if_pos h]
  rfl
 ·rw [if_neg (by simpa using h),if_neg h]
  by_cases z:(Zk ts a).kind=4
  ·rw [if_pos (by simpa using z),if_pos z]
   rfl
  ·rw [if_neg (by simpa using z),if_neg z,if_neg (A _ (by simp [Lr])),if_neg (A _ (by simp [Lr])),if_neg (A _ (by simp [Lr])),if_neg (by simp [H]),if_neg (by simp [I]),if_neg (by simp [M]),if_neg (by simp [F])]
   unfold Zu zO;by_cases j:(Zk ts a).kind=1
   ·rw [if_pos (by simpa using j),if_pos j]
    rfl
   ·rw [if_neg (by simpa using j),if_neg j]
    rfl
theorem eR {L:List (bS)} (j:∀ a x b,sub a = .inl (x,b)->a<=b):∀ (f:Nat) (x:Ty) {a c:Nat},a<=c->Qn a (Uw ts L sub f x c)
 | 0,_,_,_,_=>Cw _ _
 | f+1,x,a,c,h=>by
  rw [Uw]
  cases L.find? (Zg ts c)with
  | none=>exact Xy h _
  | some s=>exact Yv (Q8 j (by omega)) fun y b z=>eR j f _ z
theorem Fu {L:List (bS)} (j:∀ a x b,sub a = .inl (x,b)->a<=b) (f:Nat):∀ a x b,((sub a).go fun x a=>Uw ts L sub f x a) = .inl (x,b)->a<=b:=fun a x b h =>
 Yv (Q8 j (Nat.le_refl a)) (fun y _ z=>eR j f y z) x b h
theorem lC (C:∀ a x b,K a = .inl (x,b)->a<=b) (z:∀ a x b,sub a = .inl (x,b)->a<=b):∀ a x b,Hx ts K sub a = .inl (x,b)->a<=b:=fun a x b h=>by
 rw [l9] at h
 refine Yv (a:=a) (Q8 z (Nat.le_refl a)) (fun y c A=>?_) x b h
 unfold O8
 refine Vv (Yv (Q8 z (by omega)) fun _ _ j=>Xy j _) (Vv ?_ (Vv (Yv (Q8 C (by omega)) fun _ _ j=>Xy j _) (Xy A _)))
 refine Yv (r:=Cu ts (c+1)) ?_ fun _ _ j=>Xy j _
 unfold Cu
 exact Vv (Xy (by omega) _) (Cw _ _)
theorem mF (z:∀ a x b,E a = .inl (x,b)->a<=b):∀ (f:Nat) (x:Ty) {a c:Nat},a<=c->Qn a (U8 ts E f x c)
 | 0,_,_,_,_=>Cw _ _
 | f+1,x,a,c,h=>by
  rw [U8];exact Vv (Yv (Q8 z (by omega)) fun _ _ j=>Yv (Q9 j _) fun _ _ A=>mF z f _ A) (Vv (Yv (Am (by omega)) fun _ _ j=>mF z f _ j) (Xy h _))
theorem eO (J:∀ a x b,K a = .inl (x,b)->a<=b) (C:∀ a x b,E a = .inl (x,b)->a<=b) (f:Nat):∀ a x b,Pt ts K E f a = .inl (x,b)->a<=b:=fun a x b h=>by
 have F:Qn a (Pt ts K E f a):=by
  unfold Pt;refine Vv (Xy (by omega) _) (Vv (Xy (by omega) _) (Vv (Xy (by omega) _) (Vv (Xy (by omega) _) (Vv (Xy (by omega) _) (Vv ?_ (Vv ?_ (Vv ?_ (Vv ?_ ?_))))))))
  ·exact Yv (Q9 (by omega) _) fun _ _ z=>Yv (Q9 z _) fun _ _ j=>Xy j _
  ·exact Yv (Q9 (by omega) _) fun _ _ z=>Yv (Q8 C z) fun _ _ j=>Yv (Q9 j _) fun _ _ A=>Xy A _
  ·exact Yv (Q8 C (by omega)) fun _ _ j=>Yv (Q9 j _) fun _ _ A=>Xy A _
  ·unfold Aj
   refine Vv (Xy (by omega) _) (Vv ?_ ?_)
   ·exact Yv (zY (fun a x b e=>eQ C (xR) x b e) f (by omega)) fun _ _ z=>Yv (Q9 z _) fun _ _ j=>Xy j _
   ·exact Yv (Q8 C (by omega)) fun _ _ z=>Yv (Q9 z _) fun _ _ j=>Yv (Am j) fun _ _ A=>Yv (Q9 A _) fun _ _ M=>Yv (Q8 C M) fun _ _ I=>Yv (Q9 I _) fun _ _ H=>Xy H _
  ·exact Yv (Am (xR)) fun _ _ z=>Vv (Yv (zY J f (by omega)) fun _ _ j=>Yv (Q9 j _) fun _ _ A=>Xy A _) (Xy z _)
 exact F x b h
theorem lD (z:∀ a x b,K a = .inl (x,b)->a<=b) {c:Nat} (h:a<=c):Qn a (Vp ts K c):=Vv (Yv (Q8 z (by omega)) fun _ _ j=>Xy j _) (Xy h _)
theorem zkk (I:∀ a x b,K a = .inl (x,b)->a<=b) (C:∀ a x b,E a = .inl (x,b)->a<=b) (O:∀ a x b,U a = .inl (x,b)->a<=b) (f:Nat):∀ a x b,Nh ts K E U f a = .inl (x,b)->a<=b:=fun a x b h=>by
 have J:Qn a (Co ts K U f a):=fun x b h=>Fu (sub:=Ih ts K U f) (fun a x b h=>Fu (sub:=Hx ts K (F9 ts U f)) (lC I (fun a x b h=>Fu (sub:=Ct ts U f) (fun a x b h=>Fu (sub:=Oi ts U f) (fun a x b h=>Fu O f a x b h) f a x b h) f a x b h)) f a x b h) f a x b h
 have M:Qn a (Nh ts K E U f a):=by
  unfold Nh;refine Vv ?_ (Vv ?_ (Vv ?_ J))
  ·exact Yv (Am (by omega)) fun _ _ z=>Yv (lD I z) fun _ _ A=>Yv (Q9 A _) fun _ _ j=>Yv (Q8 C j) fun _ _ H=>Yv (Q9 H _) fun _ _ F=>Yv (Q8 C F) fun _ _ N=>Xy N _
  ·exact Yv (Q8 C (by omega)) fun _ _ z=>Yv (Q9 z _) fun _ _ A=>Yv (Q8 C A) fun _ _ j=>Yv (Q9 j _) fun _ _ H=>Yv (Q8 C H) fun _ _ F=>Xy F _
  ·refine Yv (r:=B8 ts K (a+1)) ?_ fun _ _ z=>Yv (Q9 z _) fun _ _ A=>Yv (Q8 C A) fun _ _ j=>Xy j _
   exact Yv (Q9 (by omega) _) fun _ _ z=>Yv (Am z) fun _ _ A=>Yv (lD I A) fun _ _ j=>Yv (Q9 j _) fun _ _ H=>Yv (lD I H) fun _ _ F=>Xy F _
 exact M x b h
theorem zB (ts:List Tok) (f:Nat):∀ (n:Nat) (u:Bool) (d a:Nat) (x:Ty) (b:Nat),Vo ts f n u d a = .inl (x,b)->a<=b
 | 0,_,_,_,_,_,h=>by cases h
 | n+1,u,d,a,x,b,h=>by
  have C:∀ a x b,Wg ts f 101 (d+1) a = .inl (x,b)->a<=b:=fun a x b h=>zJ h
  have A:=zB ts f n false (d+1);have z:=zB ts f n true (d+1);unfold Vo at h;by_cases F:100<=d
  ·rw [if_pos F] at h
   cases h
  ·rw [if_neg F] at h
   cases u with
   | false=>exact zkk C A z f a x b h
   | true =>
    have H:Qn a (if Zg ts a [45] then(Vo ts f n true (d+1) (a+1)).go fun x b => .inl (Zp 16 [] 0 (Yj ts a) (Yi ts a) [] [] [x],b)
      else if Zg ts a [110,111,116] then(Vo ts f n true (d+1) (a+1)).go fun x b => .inl (Zp 15 [] 0 (Yj ts a) (Yi ts a) [] [] [x],b)
      else(Pt ts (Wg ts f 101 (d+1)) (Vo ts f n false (d+1)) f a).go fun x b=>U8 ts (Vo ts f n false (d+1)) f x b:Pr Ty) :=
     Vv (Yv (Q8 z (by omega)) fun _ _ j=>Xy j _) (Vv (Yv (Q8 z (by omega)) fun _ _ j=>Xy j _) (Yv (fun x b h=>eO C A f a x b h) fun y c I=>mF A f y I))
    exact H x b h
end
theorem atom_c (pb tb cap d:Nat) (ts:List Tok) (K E:Nat->Pr Ty) (F:Xs pb tb cap d ts Yk 106 K) (A:Xs pb tb cap d ts Z6 92 E) (j:Ym ts) (a:Nat) (w:wD) (h:Ps w pb tb cap ts a d) :
  Calls prog 144 #[qP pb] w (Ya pb tb cap ts d w Z6 (Pt ts K E ts.length a)):=by
 cases h3:Lr.any fun s=>Zg ts a s with
 | true =>
  obtain⟨s,H,z⟩:=List.any_eq_true.1 h3
  have C:s=[116,114,117,101]∨s=[102,97,108,115,101]∨s=[110,117,108,108]:=by simpa [Lr] using H
  rcases C with rfl | rfl | rfl
  ·rw [oB z]
   exact mN pb tb cap d a ts _ (fun w h=>o6 pb tb cap d ts j a z w h) j h3 w h
  ·rw [iT z]
   exact mN pb tb cap d a ts _ (fun w h=>oY pb tb cap d ts j a z w h) j h3 w h
  ·rw [iU z]
   exact mN pb tb cap d a ts _ (fun w h=>oZ pb tb cap d ts j a z w h) j h3 w h
 | false =>
  cases hp:Zg ts a [112,114,105,110,116] with
  | true =>
   rw [iX hp];exact iW pb tb cap d ts E A j a h3 hp w h
  | false =>
   cases hr:Zg ts a [114,101,97,100] with
   | true =>
    rw [iZ hr];exact iY pb tb cap d ts j a h3 hp hr w h
   | false =>
    cases hb:Zg ts a [40] with
    | true =>
     rw [iO hb];exact iR pb tb cap d ts E A j a h3 hp hr hb w h
    | false =>
     cases hc:Zg ts a [123] with
     | true =>
      rw [i7 j hc];exact iQ pb tb cap d ts E A j a h3 hp hr hb hc w h
     | false =>
      rw [i9 h3 hp hr hb hc];exact i8 pb tb cap d ts K F j a h3 hp hr hb hc w h
theorem iS (pb:Nat):Lh 144 pb:=fun w=>K8 func144 (by kernel_rfl) (by kernel_rfl) _ w
theorem zfp (pb:Nat):Lh 143 pb:=fun w=>K8 func143 (by kernel_rfl) (by kernel_rfl) _ w
theorem zkd (pb:Nat):Lh 141 pb:=fun w=>K8 func141 (by kernel_rfl) (by kernel_rfl) _ w
theorem zar (pb:Nat):Lh 92 pb:=fun w=>K8 func92 (by kernel_rfl) (by kernel_rfl) _ w
theorem oX (pb:Nat):Lh 131 pb:=fun w=>K8 func131 (by kernel_rfl) (by kernel_rfl) _ w
theorem zkc (pb:Nat):Lh 142 pb:=fun w=>K8 func142 (by kernel_rfl) (by kernel_rfl) _ w
theorem zaq (pb:Nat):Lh 108 pb:=fun w=>K8 func108 (by kernel_rfl) (by kernel_rfl) _ w
theorem fF (pb tb cap d:Nat) (ts:List Tok) (z:Ym ts) (j:d<=100):Xs pb tb cap d ts Yk 106 (Wg ts ts.length 101 d) where
 calls:=fun a w h=>by
  rw [nC ts ts.length 101 (101 - d) d a (by omega) (by omega)];exact fD pb tb cap ts z (101 - d) d a w (by omega) j h
 enters:=fE pb
 up:=fun _ _ _ h=>zJ h
theorem zfa (pb tb cap d:Nat) (ts:List Tok) (K U:Nat->Pr Ty) (F:Xs pb tb cap d ts Yk 106 K) (C:Xs pb tb cap d ts Z6 141 U) (j:Ym ts) :
  Xs pb tb cap d ts Z6 119 (Co ts K U ts.length):=by
 have z:Xs pb tb cap d ts Z6 140 (Oi ts U ts.length):=⟨fun a w h=>zfz pb tb cap d ts U C j a w h,zjk pb,fun a x b h=>Fu C.up ts.length a x b h⟩
 have J:Xs pb tb cap d ts Z6 139 (Ct ts U ts.length):=⟨fun a w h=>psum_c pb tb cap d ts _ z j a w h,zjh pb,fun a x b h=>Fu z.up ts.length a x b h⟩
 have H:Xs pb tb cap d ts Z6 136 (F9 ts U ts.length):=⟨fun a w h=>pcat_c pb tb cap d ts _ J j a w h,oQ pb,fun a x b h=>Fu J.up ts.length a x b h⟩
 have I:Xs pb tb cap d ts Z6 131 (Hx ts K (F9 ts U ts.length)):=⟨fun a w h=>by rw [l9]; exact cmp_c pb tb cap d ts K F _ H j a w h,oX pb,lC F.up H.up⟩
 have A:Xs pb tb cap d ts Z6 125 (Ih ts K U ts.length):=⟨fun a w h=>pand_c pb tb cap d ts _ I j a w h,iD pb,fun a x b h=>Fu I.up ts.length a x b h⟩
 exact⟨fun a w h=>por_c pb tb cap d ts _ A j a w h,zez pb,fun a x b h=>Fu A.up ts.length a x b h⟩
theorem zap (pb tb cap d:Nat) (ts:List Tok) (K E U:Nat->Pr Ty) (A:Xs pb tb cap d ts Yk 106 K) (z:Xs pb tb cap d ts Z6 92 E) (C:Xs pb tb cap d ts Z6 141 U) (j:Ym ts) (a:Nat) (w:wD) (h:Ps w pb tb cap ts a d) :
  Calls prog 108 #[qP pb] w (Ya pb tb cap ts d w Z6 (Nh ts K E U ts.length a)):=by
 cases h0:Zg ts a [108,101,116] with
 | true =>
  have:=zbm pb tb cap d a ts _ (fun w h=>let_c pb tb cap d ts K E A z j a w h) h0 j w h
  rwa [yQ,let_eq (U:=U) (f:=ts.length) h0] at this
 | false =>
  cases h1:Zg ts a [105,102] with
  | true =>
   have:=zbl pb tb cap d a ts _ (fun w h=>oU pb tb cap d ts E z j a w h) h0 h1 j w h
   rwa [yQ,if_eq (K:=K) (U:=U) (f:=ts.length) h0 h1] at this
  | false =>
   cases h2:Zg ts a [102,110] with
   | true =>
    have:=zbk pb tb cap d a ts _ (fun w h=>zbc pb tb cap d ts K E A z j a w h) h0 h1 h2 j w h
    rwa [yQ,fn_eq (U:=U) (f:=ts.length) h0 h1 h2] at this
   | false =>
    have:=zbn pb tb cap d a ts _ (fun w h=>(zfa pb tb cap d ts K U A C j).calls a w h) h0 h1 h2 j w h
    rwa [yQ,or_eq (E:=E) h0 h1 h2] at this
theorem tW (pb tb cap:Nat) (ts:List Tok) (j:Ym ts):∀ (n d:Nat),d+n=101->d<=100->∀ (a:Nat) (w:wD),Ps w pb tb cap ts a d ->
  Calls prog 92 #[qP pb] w (Ya pb tb cap ts d w Z6 (Vo ts ts.length n false d a)) /\
  Calls prog 141 #[qP pb] w (Ya pb tb cap ts d w Z6 (Vo ts ts.length n true d a))
 | 0,d,h1,C,_,_,_=>absurd h1 (by omega)
 | n+1,d,h1,C,a,w,h=>by
  unfold Vo;by_cases F:100<=d
  ·obtain rfl:d=100:=by omega
   rw [if_pos F,if_pos F];exact⟨jC pb tb cap 100 ts _ w (fun w1 z=>cK pb tb cap a _ ts w1 (h.below z)) h.ltp,eM pb tb cap 100 ts _ w (fun w1 z=>cK pb tb cap a _ ts w1 (h.below z)) h.ltp⟩
  ·rw [if_neg F,if_neg F]
   have H:=fF pb tb cap (d+1) ts j (by omega)
   have A:Xs pb tb cap (d+1) ts Z6 92 (Vo ts ts.length n false (d+1)):=⟨fun a w h=>(tW pb tb cap ts j n (d+1) (by omega) (by omega) a w h).1,zar pb,fun a x b h=>zB ts ts.length n false (d+1) a x b h⟩
   have I:Xs pb tb cap (d+1) ts Z6 141 (Vo ts ts.length n true (d+1)):=⟨fun a w h=>(tW pb tb cap ts j n (d+1) (by omega) (by omega) a w h).2,zkd pb,fun a x b h=>zB ts ts.length n true (d+1) a x b h⟩
   have J:Xs pb tb cap (d+1) ts Z6 144 (Pt ts (Wg ts ts.length 101 (d+1)) (Vo ts ts.length n false (d+1)) ts.length):=⟨fun a w h=>atom_c pb tb cap (d+1) ts _ _ H A j a w h,iS pb,eO H.up A.up ts.length⟩
   have N:Xs pb tb cap (d+1) ts Z6 143 (fun a=>(Pt ts (Wg ts ts.length 101 (d+1)) (Vo ts ts.length n false (d+1)) ts.length a).go fun x b=>U8 ts (Vo ts ts.length n false (d+1)) ts.length x b):=⟨fun a w h=>post_c pb tb cap (d+1) ts _ J _ A j a w h,zfp pb,fun a x b h=>Yv (a:=a) (Q8 J.up (Nat.le_refl a)) (fun y c M=>mF A.up ts.length y M) x b h⟩
   exact⟨jC pb tb cap d ts _ w (fun w1 z=>cJ pb tb cap a d _ ts _ (by omega) (fun w2 C=>zap pb tb cap (d+1) ts _ _ _ H A I j a w2 C) (zaq pb) w1 (h.below z)) h.ltp,
    eM pb tb cap d ts _ w (fun w1 z=>cJ pb tb cap a d _ ts _ (by omega) (fun w2 C=>zkb pb tb cap (d+1) ts _ _ I N j a w2 C) (zkc pb) w1 (h.below z)) h.ltp⟩
theorem Iq (W:wD):W.drew.heap=W.heap:=rfl
theorem zen (v:vL) (w:wD):(binOp .neq 20 (.iface 47 v) .nilIface).run prog w = .ok (.bool true) w:=by
 kernel_rfl
theorem iG (v:vL) (w:wD):(Instr.typeAssert (.iface 47 v) 20 47 false).run prog w = .ok v w:=by kernel_rfl
theorem zeo (w:wD):(binOp .neq 20 .nilIface .nilIface).run prog w = .ok (.bool false) w:=by kernel_rfl
end
namespace Lx
theorem lexGo_end {f n li co z j:Nat} {l:bS} (h:Vf false l li co=([],z,j)):Kn (f+1) l li co n = .toks [⟨0,[],z,j⟩]:=by
 rw [Kn,h]
theorem lexGo_bad {f n li co z j:Nat} {l r:bS} {e:Int} (h:Vf false l li co=(r,z,j)) (C:r≠[]) (A:U1 r = .bad e):Kn (f+1) l li co n = .bad e z j:=by
 cases r with
 | nil=>exact absurd rfl C
 | cons b r=>rw [Kn,h]; simp only; rw [A]
theorem lexGo_many {f li co A j:Nat} {l r t z:bS} {k:Int} (h:Vf false l li co=(r,A,j)) (F:r≠[]) (C:U1 r = .tok k t z):Kn (f+1) l li co 8192 = .bad 19 A j:=by
 cases r with
 | nil=>exact absurd rfl F
 | cons b r=>rw [Kn,h]; simp only; rw [C]; simp
theorem lexGo_tok {f n li co A z:Nat} {l r t j:bS} {k:Int} (h:Vf false l li co=(r,A,z)) (F:r≠[]) (C:U1 r = .tok k t j) (H:n≠8192) :
  Kn (f+1) l li co n=(Kn f j A (z+(r.length - j.length)) (n+1)).pre [⟨k,t,A,z⟩]:=by
 cases r with
 | nil=>exact absurd rfl F
 | cons b r=>rw [Kn,h]; simp only; rw [C]; simp [H]
end Lx
end Go.Proofs.YtoppemkjhhlegaaGreatDoor
