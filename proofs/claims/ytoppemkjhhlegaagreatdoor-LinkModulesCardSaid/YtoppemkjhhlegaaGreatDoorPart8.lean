/- Part. -/
import Derived.Test.YtoppemkjhhlegaaGreatDoorPart7
set_option maxRecDepth 100000
set_option maxHeartbeats 4000000
namespace Go.Proofs.YtoppemkjhhlegaaGreatDoor
open Go.Proofs.Tryz
open Go.RowKit
attribute [local go_sem ↓] Go.wp_at_zero Go.wp_at_succ
theorem pI (t:Tok) (k:Int) (j:bA) (N:Int) (ta:oA) (A h:Nat) (na:oA) (nl nc:Nat) (ka:oA) (kl kc:Nat) (w:wD):Calls prog 123 #[Cv t,.agg #[iP k,.string j,iP N,iP 0,iP 0,.slice ta A h,.slice na nl nc,.slice ka kl kc]] w fun e w'=>∃ z:NV,e = .returned z.val/\xQ (z=⟨k,j,N,t.line,t.col,ta,A,h,na,nl,nc,ka,kl,kc⟩)/\Below w.heap.size w w' :=
 (L7 t ⟨k,j,N,0,0,ta,A,h,na,nl,nc,ka,kl,kc⟩ w).mono fun _ _ ⟨C,F⟩=>⟨_,C,rfl,F⟩
def O8 (ts:List Tok) (K sub:Nat->Pr Ty) (x:Ty) (a:Nat):Pr Ty :=
 if ([[60],[60,61],[61,61]]:List (bS)).any fun s=>Zg ts a s then(sub (a+1)).go fun y b => .inl (Zp 14 (Zk ts a).text 0 (Zk ts a).line (Zk ts a).col [] [] [x,y],b)
 else if Zg ts a [105,115] then(Cu ts (a+1)).go fun i b => .inl (Zp 12 [] i (Zk ts a).line (Zk ts a).col [] [] [x],b)
 else if Zg ts a [97,115] then(K (a+1)).go fun t b => .inl (Zp 13 [] 0 (Zk ts a).line (Zk ts a).col [t] [] [x],b)
 else .inl (x,a)
theorem mC {lo tb:Nat} {w:wD} {k:Int} {nm:bA} {na:oA} {nl nc:Nat} {ka:oA} {kl kc:Nat} {D:Ty} (h:Yk lo w (.agg #[iP k,.string nm,.slice na nl nc,.slice ka kl kc]) D) (j:w.heap[tb]?=some (Z7 k nm na nl nc ka kl kc)) (A:lo<=tb):∃ m,Qk w lo m (some (aP tb 0)) [D]:=by
 obtain⟨m,h⟩:=h
 refine⟨m,.inr ⟨tb,0,rfl,A,⟨_,_,j⟩,fun i z=>?_⟩⟩
 match i,z with
 | 0,_=>exact⟨_,_,_,_,by rw [cell_of_row _ _ _ _ _ _ j]; rfl,by rw [cell_of_row _ _ _ _ _ _ j]; rfl,by rw [cell_of_row _ _ _ _ _ _ j]; rfl,by rw [cell_of_row _ _ _ _ _ _ j]; rfl,h⟩
abbrev isNV (t:Tok) (i:Int) (kb:Nat):NV:=⟨12,⟨#[]⟩,i,t.line,t.col,none,0,0,none,0,0,some (aP kb 0),1,1⟩
abbrev asNV (t:Tok) (tb kb:Nat):NV:=⟨13,⟨#[]⟩,0,t.line,t.col,some (aP tb 0),1,1,none,0,0,some (aP kb 0),1,1⟩
theorem cmp_c (pb tb cap d:Nat) (ts:List Tok) (K:Nat->Pr Ty) (hK:Xs pb tb cap d ts Yk 106 K) (sub:Nat->Pr Ty) (hs:Xs pb tb cap d ts Z6 136 sub) (ok:Ym ts) (a:Nat) (w:wD) (h:Ps w pb tb cap ts a d) :
  Calls prog 131 #[qP pb] w (Ya pb tb cap ts d w Z6 ((sub a).go fun x b=>O8 ts K sub x b)):=by
 have H:=Za h
 have OK:=Za ok
 have hp:=h.ltp
 have Y5:=Za hs
 have Pn:=Za hK
 have C0:=Za (U2 h Zj.obj)
 obtain⟨R,hR⟩:∃ R:Pr Ty,R=((sub a).go fun x b=>O8 ts K sub x b):=⟨_,rfl⟩
 rw [<- hR]
 have Yc:=Za hR
 clear h ok hR hs hK
 go_enter func131,ntmps131
 go_wp2_with fail
 refine(Y5.o.calls a _ C0.o.ps).mono ?_
 intro e w1 Zh
 rcases Yr Zh with⟨er,li,co,V,rfl,J⟩ | ⟨D1,b1,v,V,rfl,J,Zc,hv⟩
 ·have HE:xQ (R = .inr (er,li,co)):=by rw [Yc.o,V]; exact rfl
  have HF:=Za (C0.o.st.trans J);clear V J Zh;go_wp2_with fail;exact⟨rfl,HF.o,by rw [HE.o]⟩
 have Yl:xQ (R=O8 ts K sub D1 b1):=by rw [Yc.o,V]; exact rfl
 obtain⟨j,rfl,hv⟩:=hv
 have C1:=Za ((C0.o.step J Zc).addN hv C0.o.sz)
 have C2:=Za (C1.o.alloc (j.obj))
 clear V J Zc Zh hv
 go_wp2_with fail
 obtain⟨t,ht⟩:=xE (Zk ts b1)
 have HRc:=Yl
 unfold O8 at HRc
 rw [<- ht] at HRc
 have M2:=Za ht
 clear ht
 cases h3:([[60],[60,61],[61,61]]:List (bS)).any fun s=>Zg ts b1 s with
 | true =>
  have Gv:xQ (b1+1<ts.length):=by
   obtain⟨s,_,h2⟩:=List.any_eq_true.1 h3;exact Xx OK.o.ends C2.o.ps.lt h2
  have Zy:xQ (R=(sub (b1+1)).go fun y b => .inl (Zp 14 t.text 0 t.line t.col [] [] [D1,y],b)):=by rw [HRc.o,if_pos h3]; exact rfl
  refine(V5 pb tb cap b1 _ 3 ts [[60],[60,61],[61,61]] _ _ C2.o.ps.rd (by simp) (by simp)).mono ?_;rw [h3];rintro e w2 ⟨rfl,I⟩;have C3:=Za (C2.o.below I);clear I;clear h3;go_wp2_with fail;have B2:=Za (Jj pb tb cap b1 d ts _ C3.o.ps Gv.o OK.o.len);rw [<- M2.o] at B2;refine(B2.o).mono ?_;rintro e O ⟨rfl,J,Zc⟩;have C4:=Za (C3.o.step J Zc);have T:=Za (C4.o.alloc (Z3 t));clear J Zc
  obtain⟨⟨n0,n1,n2,n3,n4,n5,n6,n7⟩,_,N5⟩:=Zn (x:=j) C4.o.b0;go_wp2_with fail
  have Lz:O.heap.size≠w.heap.size:=by have:=C4.o.sz; omega
  have Ub:w1.heap.size≠w.heap.size:=by have:=C1.o.sz; omega
  have Uq:(kT ((O.alloc (Z3 t)).drew) O.heap.size t)/\(kN ((O.alloc (Z3 t)).drew) w1.heap.size j):=⟨(Y8 (((T.o.drew).has (O.heap.size,Z3 t) (by simp)).1)),(Zn (x:=j) (((T.o.drew).has (w1.heap.size,j.obj) (by simp)).1)).1⟩
  have Sf:xQ (∀ o,(c4 (((O.alloc (Z3 t)).alloc o).drew) O.heap.size (iP t.kind) (uP t.text) (iP t.line) (iP t.col))/\(c8 (((O.alloc (Z3 t)).alloc o).drew) w1.heap.size (iP j.k) (.string j.tx) (iP j.N) (iP j.li) (iP j.co) (.slice j.ta j.tl j.tc) (.slice j.na j.nl j.nc) (.slice j.ka j.kl j.kc))):=(fun o=>⟨(Y8 ((((T.o.alloc o).drew).has (O.heap.size,Z3 t) (by simp)).1)),(Zn (x:=j) ((((T.o.alloc o).drew).has (w1.heap.size,j.obj) (by simp)).1)).1⟩)
  have HC:xQ (∀ wa bx,Y4 pb tb cap d ts w wa (b1+1) bx [(j,D1)] []->(O.heap.size,Z3 t) ∈ bx->(w1.heap.size,j.obj) ∈ bx->Calls prog 136 #[qP pb] wa fun e C=>(∃ chain,e = .panicked chain/\Ya pb tb cap ts d w Z6 R e C)∨∃ (y:NV) (D2:Ty) (b2:Nat),e = .returned (y.val)/\((kT C O.heap.size t)/\(kN C w1.heap.size j))/\xQ (R = .inl (Zp 14 t.text 0 t.line t.col [] [] [D1,D2],b2)/\Y4 pb tb cap d ts w C b2 bx [(y,D2),(j,D1)] [])):=by
   intro wa bx CA m0 m1;refine(Y5.o.calls (b1+1) _ CA.ps).mono ?_;intro e C Zh;rcases Yr Zh with⟨er,li,co,V,rfl,J⟩ | ⟨D2,b2,v,V,rfl,J,Zc,hv⟩
   ·exact .inl ⟨_,rfl,CA.st.trans J,by rw [Zy.o,V]; rfl⟩
   obtain⟨y,rfl,hv⟩:=hv;have CN:=(CA.step J Zc).addN hv CA.sz;exact .inr ⟨y,D2,b2,rfl,⟨(Y8 (((CN).has (O.heap.size,Z3 t) m0).1)),(Zn (x:=j) (((CN).has (w1.heap.size,j.obj) m1).1)).1⟩,by rw [Zy.o,V]; rfl,CN⟩
  go_wp2_with fail
  go_region_held (fun W=>(kT W O.heap.size t)/\(kN W w1.heap.size j)) (first | with_reducible assumption | with_reducible exact Sf.o _ | with_reducible exact Vs.o _ | with_reducible exact HS33.o _ _ | with_reducible exact Wm.o _ _ _ _ _ _ _ _) (first
   | (go_at_call 136; refine(HC.o _ _ (by first | exact T.o.drew | exact(T.o.alloc _).drew) (by simp) (by simp)).mono ?_; rintro e C (⟨ch,rfl,hf⟩ | ⟨y,D2,b2,rfl,t5,HX⟩); exact⟨rfl,hf⟩; have Vs:xQ (∀ o,(kT ((C.alloc o)) O.heap.size t)/\(kN ((C.alloc o)) w1.heap.size j)):=(fun o=>⟨(Y8 (((HX.o.2.alloc o).has (O.heap.size,Z3 t) (by simp)).1)),(Zn (x:=j) (((HX.o.2.alloc o).has (w1.heap.size,j.obj) (by simp)).1)).1⟩); have HS33:xQ (∀ o o2,(kT (((C.alloc o).alloc o2)) O.heap.size t)/\(kN (((C.alloc o).alloc o2)) w1.heap.size j)):=(fun o o2=>⟨(Y8 ((((HX.o.2.alloc o).alloc o2).has (O.heap.size,Z3 t) (by simp)).1)),(Zn (x:=j) ((((HX.o.2.alloc o).alloc o2).has (w1.heap.size,j.obj) (by simp)).1)).1⟩))
   | (go_at_call 130; refine(dY t j y _).mono ?_; rintro e F ⟨kb,rfl,I,Vt,hk⟩; have HKb:=Za hk; have HKl:=Za Vt; clear hk Vt; (first | have A:=Za (HX.o.2.below I) | have A:=Za ((HX.o.2.alloc _).below I) | have A:=Za (((HX.o.2.alloc _).alloc _).below I)); have t6:(kT F O.heap.size t)/\(kN F w1.heap.size j):=⟨(Y8 (((A.o).has (O.heap.size,Z3 t) (by simp)).1)),(Zn (x:=j) (((A.o).has (w1.heap.size,j.obj) (by simp)).1)).1⟩; have Pl:=Za (Zn (x:=Zj) (A.o.has (w.heap.size,Zj.obj) (by simp)).1); obtain⟨⟨r0,r1,r2,r3,r4,r5,r6,r7⟩,⟨f0,f1,f2,f3,f4,f5,f6,f7⟩,Yw⟩:=Pl.o; have Wm:xQ (∀ v0 v1 v2 v3 v4 v5 v6 v7,(kT ((L9 F w.heap.size v0 v1 v2 v3 v4 v5 v6 v7)) O.heap.size t)/\(kN ((L9 F w.heap.size v0 v1 v2 v3 v4 v5 v6 v7)) w1.heap.size j)):=(fun v0 v1 v2 v3 v4 v5 v6 v7=>⟨(Y8 ((Jm Lz v0 v1 v2 v3 v4 v5 v6 v7).trans (((A.o).has (O.heap.size,Z3 t) (by simp)).1))),(Zn (x:=j) ((Jm Ub v0 v1 v2 v3 v4 v5 v6 v7).trans (((A.o).has (w1.heap.size,j.obj) (by simp)).1))).1⟩); have HBL:=Za I; clear I))
  all_goals
   go_wp2_with fail;rw [HX.o.1]
   have Dl:Y0 (w.heap.size+1) F (M6 t kb) (Zp 14 t.text 0 t.line t.col [] [] [D1,D2]):=by
    first
     | exact zex HX.o.2.n1 HX.o.2.n0 HBL.o (by have:=HKl.o; have:=HX.o.2.sz; omega) HKb.o
   refine r64 rfl rfl (Wv (x:=M6 t kb) (A.o.has (w.heap.size,Zj.obj) (by simp)).1) rfl ⟨Wy A.o.st hp (xR) (M6 t kb),Ve A.o.ps hp (M6 t kb),_,rfl,M6 t kb,rfl,?_⟩;exact(Dl.put8 (xU _) (M6 t kb)).lower (Nat.le_succ _)
 | false =>
  refine(V5 pb tb cap b1 _ 3 ts [[60],[60,61],[61,61]] _ _ C2.o.ps.rd (by simp) (by simp)).mono ?_;rw [h3];rintro e w2 ⟨rfl,I⟩;have C3:=Za (C2.o.below I);clear I
  have HRd:xQ (R=if Zg ts b1 [105,115] then(Cu ts (b1+1)).go fun i b => .inl (Zp 12 [] i t.line t.col [] [] [D1],b)else if Zg ts b1 [97,115] then(K (b1+1)).go fun t2 b => .inl (Zp 13 [] 0 t.line t.col [t2] [] [D1],b)else .inl (D1,b1)):=by rw [HRc.o,if_neg (by simp [h3])]; exact rfl
  clear h3;go_wp2_with fail
  cases h4:Zg ts b1 [105,115] with
  | true =>
   have Gv:=Za (Xx OK.o.ends C3.o.ps.lt h4)
   have Zy:xQ (R=(Cu ts (b1+1)).go fun i b => .inl (Zp 12 [] i t.line t.col [] [] [D1],b)):=by rw [HRd.o,if_pos h4]; exact rfl
   refine(V5 pb tb cap b1 _ 1 ts [[105,115]] _ _ C3.o.ps.rd (by simp) (by simp)).mono ?_;rw [T0,h4];rintro e O ⟨rfl,I⟩;have C4:=Za (C3.o.below I);clear I;clear h4;go_wp2_with fail;have B2:=Za (Jj pb tb cap b1 d ts _ C4.o.ps Gv.o OK.o.len);rw [<- M2.o] at B2;refine(B2.o).mono ?_;rintro e w4 ⟨rfl,J,Zc⟩;have T:=Za (C4.o.step J Zc);have C6:=Za (T.o.alloc (Z3 t));clear J Zc;obtain⟨⟨n0,n1,n2,n3,n4,n5,n6,n7⟩,_,N5⟩:=Zn (x:=j) T.o.b0
   go_wp2_with fail
   have Lz:w4.heap.size≠w.heap.size:=by have:=T.o.sz; omega
   have Ub:w1.heap.size≠w.heap.size:=by have:=C1.o.sz; omega
   have Uq:(kT ((w4.alloc (Z3 t)).drew) w4.heap.size t)/\(kN ((w4.alloc (Z3 t)).drew) w1.heap.size j):=⟨(Y8 (((C6.o.drew).has (w4.heap.size,Z3 t) (by simp)).1)),(Zn (x:=j) (((C6.o.drew).has (w1.heap.size,j.obj) (by simp)).1)).1⟩
   have Sf:xQ (∀ o,(c4 (((w4.alloc (Z3 t)).alloc o).drew) w4.heap.size (iP t.kind) (uP t.text) (iP t.line) (iP t.col))/\(c8 (((w4.alloc (Z3 t)).alloc o).drew) w1.heap.size (iP j.k) (.string j.tx) (iP j.N) (iP j.li) (iP j.co) (.slice j.ta j.tl j.tc) (.slice j.na j.nl j.nc) (.slice j.ka j.kl j.kc))):=(fun o=>⟨(Y8 ((((C6.o.alloc o).drew).has (w4.heap.size,Z3 t) (by simp)).1)),(Zn (x:=j) ((((C6.o.alloc o).drew).has (w1.heap.size,j.obj) (by simp)).1)).1⟩)
   have HC:xQ (∀ wa bx,Y4 pb tb cap d ts w wa (b1+1) bx [(j,D1)] []->(w4.heap.size,Z3 t) ∈ bx->(w1.heap.size,j.obj) ∈ bx->Calls prog 137 #[qP pb] wa fun e C=>(∃ chain,e = .panicked chain/\Ya pb tb cap ts d w Z6 R e C)∨∃ (i0:Int) (b2:Nat),e = .returned (iP i0)/\((kT C w4.heap.size t)/\(kN C w1.heap.size j))/\xQ (R = .inl (Zp 12 [] i0 t.line t.col [] [] [D1],b2)/\Y4 pb tb cap d ts w C b2 bx [(j,D1)] [])):=by
    intro wa bx CA m0 m1;refine(tag_c pb tb cap d ts OK.o (b1+1) _ CA.ps).mono ?_;intro e C Zh;rcases Yr Zh with⟨er,li,co,V,rfl,J⟩ | ⟨i0,b2,v,V,rfl,J,Zc,hv⟩
    ·exact .inl ⟨_,rfl,CA.st.trans J,by rw [Zy.o,V]; rfl⟩
    subst hv
    have CN:=(CA.step J Zc)
    exact .inr ⟨i0,b2,rfl,⟨(Y8 (((CN).has (w4.heap.size,Z3 t) m0).1)),(Zn (x:=j) (((CN).has (w1.heap.size,j.obj) m1).1)).1⟩,by rw [Zy.o,V]; rfl,CN⟩
   go_wp2_with fail
   go_region_held (fun W=>(kT W w4.heap.size t)/\(kN W w1.heap.size j)) (first | with_reducible assumption | with_reducible exact Sf.o _ | with_reducible exact Vs.o _ | with_reducible exact HS33.o _ _ | with_reducible exact Wm.o _ _ _ _ _ _ _ _) (first
    | (go_at_call 137; refine(HC.o _ _ (by first | exact C6.o.drew | exact(C6.o.alloc _).drew) (by simp) (by simp)).mono ?_; rintro e C (⟨ch,rfl,hf⟩ | ⟨i0,b2,rfl,t5,HX⟩); exact⟨rfl,hf⟩; have Vs:xQ (∀ o,(kT ((C.alloc o)) w4.heap.size t)/\(kN ((C.alloc o)) w1.heap.size j)):=(fun o=>⟨(Y8 (((HX.o.2.alloc o).has (w4.heap.size,Z3 t) (by simp)).1)),(Zn (x:=j) (((HX.o.2.alloc o).has (w1.heap.size,j.obj) (by simp)).1)).1⟩); have HS33:xQ (∀ o o2,(kT (((C.alloc o).alloc o2)) w4.heap.size t)/\(kN (((C.alloc o).alloc o2)) w1.heap.size j)):=(fun o o2=>⟨(Y8 ((((HX.o.2.alloc o).alloc o2).has (w4.heap.size,Z3 t) (by simp)).1)),(Zn (x:=j) ((((HX.o.2.alloc o).alloc o2).has (w1.heap.size,j.obj) (by simp)).1)).1⟩))
    | (go_at_call 123; refine(pI t _ _ _ _ _ _ _ _ _ _ _ _ _).mono ?_; rintro e F ⟨z,rfl,HZ,I⟩; (first | have A:=Za (HX.o.2.below I) | have A:=Za ((HX.o.2.alloc _).below I) | have A:=Za (((HX.o.2.alloc _).alloc _).below I)); have t6:(kT F w4.heap.size t)/\(kN F w1.heap.size j):=⟨(Y8 (((A.o).has (w4.heap.size,Z3 t) (by simp)).1)),(Zn (x:=j) (((A.o).has (w1.heap.size,j.obj) (by simp)).1)).1⟩; have Pl:=Za (Zn (x:=Zj) (A.o.has (w.heap.size,Zj.obj) (by simp)).1); obtain⟨⟨r0,r1,r2,r3,r4,r5,r6,r7⟩,⟨f0,f1,f2,f3,f4,f5,f6,f7⟩,Yw⟩:=Pl.o; have Wm:xQ (∀ v0 v1 v2 v3 v4 v5 v6 v7,(kT ((L9 F w.heap.size v0 v1 v2 v3 v4 v5 v6 v7)) w4.heap.size t)/\(kN ((L9 F w.heap.size v0 v1 v2 v3 v4 v5 v6 v7)) w1.heap.size j)):=(fun v0 v1 v2 v3 v4 v5 v6 v7=>⟨(Y8 ((Jm Lz v0 v1 v2 v3 v4 v5 v6 v7).trans (((A.o).has (w4.heap.size,Z3 t) (by simp)).1))),(Zn (x:=j) ((Jm Ub v0 v1 v2 v3 v4 v5 v6 v7).trans (((A.o).has (w1.heap.size,j.obj) (by simp)).1))).1⟩); have HBL:=Za I; clear I))
   all_goals
    go_wp2_with fail;rw [HX.o.1]
    have Dl:Y0 (w.heap.size+1) F (z) (Zp 12 [] i0 t.line t.col [] [] [D1]):=by
     rw [HZ.o]
     first
      | exact Ko A.o.n0 (A.o.has (C.heap.size,j.obj) (by simp)).1 (by have:=HX.o.2.sz; have:=T.o.sz; omega) (isNV t i0 (C.heap.size)) [] [] ⟨rfl,rfl⟩ ⟨rfl,xZ _,0,.inl rfl⟩ ⟨rfl,xZ _,.inl rfl⟩
      | exact Ko A.o.n0 (A.o.has (w4.heap.size+1,j.obj) (by simp)).1 (by have:=HX.o.2.sz; have:=T.o.sz; omega) (isNV t i0 (w4.heap.size+1)) [] [] ⟨rfl,rfl⟩ ⟨rfl,xZ _,0,.inl rfl⟩ ⟨rfl,xZ _,.inl rfl⟩
    refine r64 rfl rfl (Wv (x:=z) (A.o.has (w.heap.size,Zj.obj) (by simp)).1) rfl ⟨Wy A.o.st hp (xR) (z),Ve A.o.ps hp (z),_,rfl,z,rfl,?_⟩;exact(Dl.put8 (xU _) (z)).lower (Nat.le_succ _)
  | false =>
   refine(V5 pb tb cap b1 _ 1 ts [[105,115]] _ _ C3.o.ps.rd (by simp) (by simp)).mono ?_;rw [T0,h4];rintro e O ⟨rfl,I⟩;have C4:=Za (C3.o.below I);clear I
   have HRe:xQ (R=if Zg ts b1 [97,115] then(K (b1+1)).go fun t2 b => .inl (Zp 13 [] 0 t.line t.col [t2] [] [D1],b)else .inl (D1,b1)):=by rw [HRd.o,if_neg (by simp [h4])]; exact rfl
   clear h4;go_wp2_with fail
   cases h5:Zg ts b1 [97,115] with
   | true =>
    have Gv:=Za (Xx OK.o.ends C4.o.ps.lt h5)
    have Zy:xQ (R=(K (b1+1)).go fun t2 b => .inl (Zp 13 [] 0 t.line t.col [t2] [] [D1],b)):=by rw [HRe.o,if_pos h5]; exact rfl
    refine(V5 pb tb cap b1 _ 1 ts [[97,115]] _ _ C4.o.ps.rd (by simp) (by simp)).mono ?_;rw [T0,h5];rintro e w4 ⟨rfl,I⟩;have T:=Za (C4.o.below I);clear I;clear h5;go_wp2_with fail;have B2:=Za (Jj pb tb cap b1 d ts _ T.o.ps Gv.o OK.o.len);rw [<- M2.o] at B2;refine(B2.o).mono ?_;rintro e M ⟨rfl,J,Zc⟩;have C6:=Za (T.o.step J Zc);have C7:=Za (C6.o.alloc (Z3 t));clear J Zc;obtain⟨⟨n0,n1,n2,n3,n4,n5,n6,n7⟩,_,N5⟩:=Zn (x:=j) C6.o.b0
    go_wp2_with fail
    have Lz:M.heap.size≠w.heap.size:=by have:=C6.o.sz; omega
    have Ub:w1.heap.size≠w.heap.size:=by have:=C1.o.sz; omega
    have Uq:(kT ((M.alloc (Z3 t)).drew) M.heap.size t)/\(kN ((M.alloc (Z3 t)).drew) w1.heap.size j):=⟨(Y8 (((C7.o.drew).has (M.heap.size,Z3 t) (by simp)).1)),(Zn (x:=j) (((C7.o.drew).has (w1.heap.size,j.obj) (by simp)).1)).1⟩
    have Sf:xQ (∀ o,(c4 (((M.alloc (Z3 t)).alloc o).drew) M.heap.size (iP t.kind) (uP t.text) (iP t.line) (iP t.col))/\(c8 (((M.alloc (Z3 t)).alloc o).drew) w1.heap.size (iP j.k) (.string j.tx) (iP j.N) (iP j.li) (iP j.co) (.slice j.ta j.tl j.tc) (.slice j.na j.nl j.nc) (.slice j.ka j.kl j.kc))):=(fun o=>⟨(Y8 ((((C7.o.alloc o).drew).has (M.heap.size,Z3 t) (by simp)).1)),(Zn (x:=j) ((((C7.o.alloc o).drew).has (w1.heap.size,j.obj) (by simp)).1)).1⟩)
    have HC:xQ (∀ wa bx,Y4 pb tb cap d ts w wa (b1+1) bx [(j,D1)] []->(M.heap.size,Z3 t) ∈ bx->(w1.heap.size,j.obj) ∈ bx->Calls prog 106 #[qP pb] wa fun e C=>(∃ chain,e = .panicked chain/\Ya pb tb cap ts d w Z6 R e C)∨∃ (DT:Ty) (b2:Nat) (k4:Int) (nm4:bA) (na4:oA) (nl4:Nat) (nc4:Nat) (ka4:oA) (Y:Nat) (Z:Nat),e = .returned (.agg #[iP k4,.string nm4,.slice na4 nl4 nc4,.slice ka4 Y Z])/\((kT C M.heap.size t)/\(kN C w1.heap.size j))/\xQ (R = .inl (Zp 13 [] 0 t.line t.col [DT] [] [D1],b2)/\Y4 pb tb cap d ts w C b2 bx [(j,D1)] [(.agg #[iP k4,.string nm4,.slice na4 nl4 nc4,.slice ka4 Y Z],DT)])):=by
     intro wa bx CA m0 m1;refine(Pn.o.calls (b1+1) _ CA.ps).mono ?_;intro e C Zh;rcases Yr Zh with⟨er,li,co,V,rfl,J⟩ | ⟨DT,b2,v,V,rfl,J,Zc,hv⟩
     ·exact .inl ⟨_,rfl,CA.st.trans J,by rw [Zy.o,V]; rfl⟩
     obtain⟨k4,nm4,na4,nl4,nc4,ka4,Y,Z,rfl⟩:=hv.cells;have CN:=(CA.step J Zc).addT hv CA.sz;exact .inr ⟨DT,b2,k4,nm4,na4,nl4,nc4,ka4,Y,Z,rfl,⟨(Y8 (((CN).has (M.heap.size,Z3 t) m0).1)),(Zn (x:=j) (((CN).has (w1.heap.size,j.obj) m1).1)).1⟩,by rw [Zy.o,V]; rfl,CN⟩
    go_wp2_with fail
    go_region_held (fun W=>(kT W M.heap.size t)/\(kN W w1.heap.size j)) (first | with_reducible assumption | with_reducible exact Sf.o _ | with_reducible exact Vs.o _ | with_reducible exact HS33.o _ _ | with_reducible exact Wm.o _ _ _ _ _ _ _ _) (first
     | (go_at_call 106; refine(HC.o _ _ (by first | exact C7.o.drew | exact(C7.o.alloc _).drew) (by simp) (by simp)).mono ?_; rintro e C (⟨ch,rfl,hf⟩ | ⟨DT,b2,k4,nm4,na4,nl4,nc4,ka4,Y,Z,rfl,t5,HX⟩); exact⟨rfl,hf⟩; have Vs:xQ (∀ o,(kT ((C.alloc o)) M.heap.size t)/\(kN ((C.alloc o)) w1.heap.size j)):=(fun o=>⟨(Y8 (((HX.o.2.alloc o).has (M.heap.size,Z3 t) (by simp)).1)),(Zn (x:=j) (((HX.o.2.alloc o).has (w1.heap.size,j.obj) (by simp)).1)).1⟩); have HS33:xQ (∀ o o2,(kT (((C.alloc o).alloc o2)) M.heap.size t)/\(kN (((C.alloc o).alloc o2)) w1.heap.size j)):=(fun o o2=>⟨(Y8 ((((HX.o.2.alloc o).alloc o2).has (M.heap.size,Z3 t) (by simp)).1)),(Zn (x:=j) ((((HX.o.2.alloc o).alloc o2).has (w1.heap.size,j.obj) (by simp)).1)).1⟩))
     | (go_at_call 123; refine(pI t _ _ _ _ _ _ _ _ _ _ _ _ _).mono ?_; rintro e F ⟨z,rfl,HZ,I⟩; (first | have A:=Za (HX.o.2.below I) | have A:=Za ((HX.o.2.alloc _).below I) | have A:=Za (((HX.o.2.alloc _).alloc _).below I)); have t6:(kT F M.heap.size t)/\(kN F w1.heap.size j):=⟨(Y8 (((A.o).has (M.heap.size,Z3 t) (by simp)).1)),(Zn (x:=j) (((A.o).has (w1.heap.size,j.obj) (by simp)).1)).1⟩; have Pl:=Za (Zn (x:=Zj) (A.o.has (w.heap.size,Zj.obj) (by simp)).1); obtain⟨⟨r0,r1,r2,r3,r4,r5,r6,r7⟩,⟨f0,f1,f2,f3,f4,f5,f6,f7⟩,Yw⟩:=Pl.o; have Wm:xQ (∀ v0 v1 v2 v3 v4 v5 v6 v7,(kT ((L9 F w.heap.size v0 v1 v2 v3 v4 v5 v6 v7)) M.heap.size t)/\(kN ((L9 F w.heap.size v0 v1 v2 v3 v4 v5 v6 v7)) w1.heap.size j)):=(fun v0 v1 v2 v3 v4 v5 v6 v7=>⟨(Y8 ((Jm Lz v0 v1 v2 v3 v4 v5 v6 v7).trans (((A.o).has (M.heap.size,Z3 t) (by simp)).1))),(Zn (x:=j) ((Jm Ub v0 v1 v2 v3 v4 v5 v6 v7).trans (((A.o).has (w1.heap.size,j.obj) (by simp)).1))).1⟩); have HBL:=Za I; clear I))
    all_goals
     go_wp2_with fail;rw [HX.o.1]
     have Dl:Y0 (w.heap.size+1) F (z) (Zp 13 [] 0 t.line t.col [DT] [] [D1]):=by
      rw [HZ.o]
      first
       | exact Ko A.o.n0 (A.o.has (C.heap.size+1,j.obj) (by simp)).1 (by have:=HX.o.2.sz; have:=C6.o.sz; omega) (asNV t (C.heap.size) (C.heap.size+1)) [DT] [] ⟨rfl,rfl⟩ ⟨rfl,by simp,mC A.o.t0 (A.o.has (C.heap.size,Z7 k4 nm4 na4 nl4 nc4 ka4 Y Z) (by simp)).1 (by have:=HX.o.2.sz; omega)⟩ ⟨rfl,xZ _,.inl rfl⟩
       | exact Ko A.o.n0 (A.o.has (C.heap.size,j.obj) (by simp)).1 (by have:=HX.o.2.sz; have:=C6.o.sz; omega) (asNV t (C.heap.size+1) (C.heap.size)) [DT] [] ⟨rfl,rfl⟩ ⟨rfl,by simp,mC A.o.t0 (A.o.has (C.heap.size+1,Z7 k4 nm4 na4 nl4 nc4 ka4 Y Z) (by simp)).1 (by have:=HX.o.2.sz; omega)⟩ ⟨rfl,xZ _,.inl rfl⟩
       | exact Ko A.o.n0 (A.o.has (M.heap.size+1,j.obj) (by simp)).1 (by have:=HX.o.2.sz; have:=C6.o.sz; omega) (asNV t (C.heap.size) (M.heap.size+1)) [DT] [] ⟨rfl,rfl⟩ ⟨rfl,by simp,mC A.o.t0 (A.o.has (C.heap.size,Z7 k4 nm4 na4 nl4 nc4 ka4 Y Z) (by simp)).1 (by have:=HX.o.2.sz; omega)⟩ ⟨rfl,xZ _,.inl rfl⟩
     refine r64 rfl rfl (Wv (x:=z) (A.o.has (w.heap.size,Zj.obj) (by simp)).1) rfl ⟨Wy A.o.st hp (xR) (z),Ve A.o.ps hp (z),_,rfl,z,rfl,?_⟩;exact(Dl.put8 (xU _) (z)).lower (Nat.le_succ _)
   | false =>
    refine(V5 pb tb cap b1 _ 1 ts [[97,115]] _ _ C4.o.ps.rd (by simp) (by simp)).mono ?_;rw [T0,h5];rintro e w4 ⟨rfl,I⟩;have T:=Za (C4.o.below I);clear I
    have Zy:xQ (R = .inl (D1,b1)):=by rw [HRe.o,if_neg (by simp [h5])]; exact rfl
    clear h5;obtain⟨⟨r0,r1,r2,r3,r4,r5,r6,r7⟩,⟨f0,f1,f2,f3,f4,f5,f6,f7⟩,Yw⟩:=Zn (x:=Zj) (T.o.b1);obtain⟨⟨n0,n1,n2,n3,n4,n5,n6,n7⟩,_,N5⟩:=Zn (x:=j) T.o.b0
    have Z1:¬ w1.heap.size=w.heap.size:=by have:=C1.o.sz; omega
    go_wp2_with fail;rw [Zy.o];refine r64 rfl rfl (Wv (x:=j) T.o.b1) rfl ⟨Wy T.o.st hp (xR) (j),Ve T.o.ps hp (j),_,rfl,j,rfl,?_⟩;exact((T.o.n0).put8 (xU _) (j)).lower (Nat.le_succ _)
section
variable {w : wD} {lo nb kb : Nat} {x y : NV} {D1 D2 : Ty}
theorem zeq (A:Wb lo nb w x D1) (I:Wb lo nb w y D2) (J:w.heap[kb]?=some (.cells #[iP x.k,.string x.tx,iP x.N,iP x.li,iP x.co,.slice x.ta x.tl x.tc,.slice x.na x.nl x.nc,.slice x.ka x.kl x.kc,iP y.k,.string y.tx,iP y.N,iP y.li,iP y.co,.slice y.ta y.tl y.tc,.slice y.na y.nl y.nc,.slice y.ka y.kl y.kc] 64)) (j:lo<=kb) (h:kb≠nb) (z:NV) (C:z.ka=some (aP kb 0)/\z.kl=2) (H:z.tl=0) (F:z.nl=0):Wb lo nb w z (Zp z.k z.tx.data.toList z.N z.li z.co [] [] [D1,D2]):=fun o =>
 Dv (A o) (I o) ((Rg o h).trans J) j z [] [] C ⟨H,xZ _,0,.inl rfl⟩ ⟨F,xZ _,.inl rfl⟩
theorem dQ (j:Wb lo nb w x D1) (I:w.heap[kb]?=some x.obj) (H:lo<=kb) (h:kb≠nb) (z:NV) (A:z.ka=some (aP kb 0)/\z.kl=1) (F:z.tl=0) (C:z.nl=0):Wb lo nb w z (Zp z.k z.tx.data.toList z.N z.li z.co [] [] [D1]):=fun o =>
 Ko (j o) ((Rg o h).trans I) H z [] [] A ⟨F,xZ _,0,.inl rfl⟩ ⟨C,xZ _,.inl rfl⟩
theorem Wb.drew (h:Wb lo nb w x D1):Wb lo nb w.drew x D1:=fun o=>(h o).keep (xR) fun _ _ _=>rfl
end
theorem Y4.reput {pb tb cap d b nb:Nat} {ts:List Tok} {w0 w:wD} {bx bx':List (Nat×Obj)} {ns:List (NV×Ty)} {tys:List (vL×Ty)} (h:Y4 pb tb cap d ts w0 w b bx ns tys) (Vc:w0.heap.size<nb) (z:NV) (C:∃ y:NV,(nb,y.obj) ∈ bx) (F:∀ p ∈ bx',(p=(nb,z.obj)∨(p ∈ bx/\p.1≠nb))):Y4 pb tb cap d ts w0 (put8 w nb z) b bx' [] [] where
 st:=Wy h.st h.hp (by omega) z
 ps:=Ve h.ps (by have:=h.hp; omega) z
 hp:=h.hp
 sz:=by rw [Nt]; exact h.sz
 has:=fun p hp=>by
  rcases F p hp with rfl | ⟨j,H⟩
  ·obtain⟨y,A⟩:=C
   exact⟨Wv (h.has _ A).1,(h.has _ A).2⟩
  ·exact⟨(N7 H).trans (h.has p j).1,(h.has p j).2⟩
 nds:=(fun _ h=>nomatch h)
 tys:=(fun _ h=>nomatch h)
theorem oP {ts:List Tok} {E:Nat->Pr Ty} {a c:Nat} {x:Ty} (A:∀ a x b,E a = .inl (x,b)->a<=b) (h:((Ze ts a [40]).go fun _ b=>(E b).go fun x b=>(Ze ts b [41]).go fun _ b => .inl (x,b)) = .inl (x,c)):a+1<=c:=by
 cases j:Ze ts a [40] with
 | inr e=>rw [j] at h; cases h
 | inl p =>
  obtain⟨u,b⟩:=p;have:=tH j;rw [j,Fo] at h
  have z:Qn b ((E b).go fun x b=>(Ze ts b [41]).go fun _ b => .inl (x,b)):=Yv (Q8 A (xR)) fun _ _ j=>Yv (Q9 j _) fun _ _ C=>Xy C _
  have:=z _ _ h;omega
theorem zfn {ts:List Tok} {E:Nat->Pr Ty} {f a:Nat} {x:Ty} (h:Zg ts a [40]=true):U8 ts E (f+1) x a=((Ze ts a [40]).go fun _ b=>(E b).go fun y b=>(Ze ts b [41]).go fun _ b => .inl (y,b)).go fun y b=>U8 ts E f (Zp 7 [] 0 (Zk ts a).line (Zk ts a).col [] [] [x,y]) b:=by
 rw [U8,if_pos h]
 rw [show Ze ts a [40] = .inl ((),a+1) by unfold Ze; rw [if_pos h],Fo]
 cases E (a+1)with
 | inr e=>rfl
 | inl p =>
  obtain⟨y,b⟩:=p;rw [Fo,Fo]
  cases Ze ts b [41] with
  | inr e=>rfl
  | inl q=>rfl
theorem zfq {ts:List Tok} {E:Nat->Pr Ty} {f a:Nat} {x:Ty} (j:Zg ts a [40]=false) (h:Zg ts a [46]=true):U8 ts E (f+1) x a=(Zu ts (a+1)).go fun s b=>U8 ts E f (Zp 9 s 0 (Zk ts a).line (Zk ts a).col [] [] [x]) b:=by
 rw [U8,if_neg (by simp [j]),if_pos h]
 rfl
theorem zfo {ts:List Tok} {E:Nat->Pr Ty} {f a:Nat} {x:Ty} (j:Zg ts a [40]=false) (h:Zg ts a [46]=false):U8 ts E (f+1) x a = .inl (x,a):=by
 rw [U8,if_neg (by simp [j]),if_neg (by simp [h])]
theorem post_c (pb tb cap d:Nat) (ts:List Tok) (P:Nat->Pr Ty) (hA:Xs pb tb cap d ts Z6 144 P) (E:Nat->Pr Ty) (hE:Xs pb tb cap d ts Z6 92 E) (ok:Ym ts) (a:Nat) (w:wD) (h:Ps w pb tb cap ts a d) :
  Calls prog 143 #[qP pb] w (Ya pb tb cap ts d w Z6 ((P a).go fun x b=>U8 ts E ts.length x b)):=by
 have H:=Za h
 have OK:=Za ok
 have hp:=h.ltp
 have HA1:=Za hA
 have Pm:=Za hE
 have C0:=Za (U2 h Zj.obj)
 obtain⟨R,hR⟩:∃ R:Pr Ty,R=((P a).go fun x b=>U8 ts E ts.length x b):=⟨_,rfl⟩
 rw [<- hR]
 have Yc:=Za hR
 clear h ok hR hA hE
 go_enter func143,ntmps143
 go_wp2_with fail
 refine(HA1.o.calls a _ C0.o.ps).mono ?_
 intro e w1 Zh
 rcases Yr Zh with⟨er,li,co,F,rfl,A⟩ | ⟨D,b,v,F,rfl,A,T,hv⟩
 ·have HE:xQ (R = .inr (er,li,co)):=by rw [Yc.o,F]; exact rfl
  have HF:=Za (C0.o.st.trans A);clear F A Zh;go_wp2_with fail;exact⟨rfl,HF.o,by rw [HE.o]⟩
 have Yl:xQ (R=U8 ts E ts.length D b):=by rw [Yc.o,F]; exact rfl
 obtain⟨x,rfl,hv⟩:=hv
 have Pq:=Za (qY (lo:=w.heap.size+1) (hv.lower C0.o.sz) x.obj)
 have C1:=Za ((C0.o.step A T))
 have C2:=Za (C1.o.alloc (x.obj))
 clear F A T Zh hv
 obtain⟨nb,Vc⟩:=xE w1.heap.size
 have Wq:w.heap.size<nb:=by rw [Vc]; exact C1.o.sz
 rw [<- Vc] at C2 Pq
 go_wp2_with fail
 rw [<- Vc]
 clear Vc
 go_loopg [4] (ts.length - b) (fun gk _ wr=>∃ (b m:Nat) (x:NV) (D:Ty),xQ (Y4 pb tb cap d ts w wr b [(nb,x.obj),(w.heap.size,Zj.obj)] [] [])/\xQ (Wb (w.heap.size+1) nb wr x D)/\xQ (R=U8 ts E m D b)/\xQ (ts.length<=b+m)/\ts.length - b<=gk)
 case atStart=>exact⟨b,ts.length,x,D,C2,Pq,Yl,Nat.le_add_left _ _,xR⟩
 case round =>
  clear C2 Pq Yl C1;obtain⟨b,m,x,D,C2,HX,HRp,Qs,Pw⟩:=hrel
  obtain⟨m,rfl⟩:∃ q,m=q+1:=⟨m - 1,by have:=Qs.o; have:=C2.o.ps.lt; omega⟩
  have Tq:=Za (J7 pb tb cap b d ts _ C2.o.ps);obtain⟨t,ht⟩:=xE (Zk ts b);rw [<- ht] at Tq;have M2:=Za ht;clear ht
  have HnL:xQ (∀ M,Y4 pb tb cap d ts w M b [(nb,x.obj),(w.heap.size,Zj.obj)] [] []->nb<M.heap.size):=fun M ca=>xB ca.b0
  go_wp2_with fail;refine Tq.o.mono ?_;rintro e w2 ⟨rfl,C⟩;have C3:=Za (C2.o.below C);have P9:=Za (((HX.o.below (xB C2.o.b0) C)).alloc (xB C3.o.b0) (Z3 t));have C4:=Za (C3.o.alloc (Z3 t));clear C;go_wp2_with fail
  have hnt:w2.heap.size≠nb:=by have:=xB C3.o.b0; omega
  cases h1:Zg ts b [40] with
  | true =>
   refine(V5 pb tb cap b _ 1 ts [[40]] _ _ C4.o.ps.rd (by simp) (by simp)).mono ?_;rw [T0,h1];rintro e w3 ⟨rfl,C⟩;have O:=Za (C4.o.below C);have Nz:=Za (P9.o.below (xB C4.o.b1) C);clear C;have Zy:=Za (HRp.o.trans (zfn h1));rw [<- M2.o] at Zy;clear h1
   have HC:xQ (∀ M bx,Y4 pb tb cap d ts w M b bx [] []->Wb (w.heap.size+1) nb M x D->(w2.heap.size,Z3 t) ∈ bx->(nb,x.obj) ∈ bx->Calls prog 145 #[qP pb] M fun e j=>(∃ chain,e = .panicked chain/\Ya pb tb cap ts d w Z6 R e j)∨∃ (y:NV) (D2:Ty) (b2:Nat),e = .returned (y.val)/\((kT j w2.heap.size t)/\(kN j nb x))/\(w2.heap.size<j.heap.size/\nb<j.heap.size)/\xQ (R=U8 ts E m (Zp 7 [] 0 t.line t.col [] [] [D,D2]) b2/\Y4 pb tb cap d ts w j b2 bx [] []/\Wb (w.heap.size+1) nb j x D/\Wb (w.heap.size+1) nb j y D2/\b+1<=b2)):=by
    intro M bx Y NA m0 m1;refine(nA pb tb cap d ts E Pm.o OK.o b _ Y.ps).mono ?_;intro e j Zh;rcases Yr Zh with⟨er,li,co,F,rfl,A⟩ | ⟨D2,b2,v,F,rfl,A,T,hv⟩
    ·exact .inl ⟨_,rfl,Y.st.trans A,by rw [Zy.o,F]; rfl⟩
    obtain⟨y,rfl,hv⟩:=hv;have CN:=Y.step A T;exact .inr ⟨y,D2,b2,rfl,⟨(Y8 (CN.has _ m0).1),(Zn (x:=x) (CN.has _ m1).1).1⟩,⟨xB (CN.has _ m0).1,xB (CN.has _ m1).1⟩,by rw [Zy.o,F]; rfl,CN,NA.stay (xB (Y.has _ m1).1) A (by omega),qX hv (xB (Y.has _ m1).1) Y.sz,oP Pm.o.up F⟩
   have B4:(kT w3 w2.heap.size t)/\(kN w3 nb x):=⟨(Y8 (O.o.has (w2.heap.size,Z3 t) (by simp)).1),(Zn (x:=x) (O.o.has (nb,x.obj) (by simp)).1).1⟩
   have Uo:w2.heap.size<w3.heap.size:=xB (O.o.has (w2.heap.size,Z3 t) (by simp)).1;have hl3:nb<w3.heap.size:=xB (O.o.has (nb,x.obj) (by simp)).1;obtain⟨⟨k0,k1,k2,k3⟩,n0,n1,n2,n3,n4,n5,n6,n7⟩:=B4;go_wp2_with fail
   go_region_with (first
    | (go_at_call 123; refine(pI t _ _ _ _ _ _ _ _ _ _ _ _ _).mono ?_; rintro e Z ⟨z,rfl,HZ,C⟩; (first | have J:=Za (HY.o.2.1.below C) | have J:=Za ((HY.o.2.1.alloc _).below C)); have Pl:=Za (Zn (x:=x) (J.o.has (nb,x.obj) (by simp)).1); obtain⟨⟨p0,p1,p2,p3,p4,p5,p6,p7⟩,⟨f0,f1,f2,f3,f4,f5,f6,f7⟩,Yw⟩:=Pl.o; have HBL:xQ (Below j.heap.size j Z):=(by first | exact C | exact Zz (Zq _ _) C); clear C)
    | (go_at_call 145; refine(HC.o _ _ (by first | exact O.o.drew | exact(O.o.alloc _).drew) (by first | exact Nz.o.drew | exact(Nz.o.alloc (xB (O.o.has (nb,x.obj) (by simp)).1) _).drew) (by simp) (by simp)).mono ?_; rintro e j (⟨ch,rfl,hf⟩ | ⟨y,D2,b2,rfl,t5,t7,HY⟩); exact⟨rfl,hf⟩; obtain⟨⟨q0,q1,q2,q3⟩,m0,m1,m2,m3,m4,m5,m6,m7⟩:=t5; obtain⟨hl4,V⟩:=t7))
   all_goals
    go_wp2_with fail
    have Dl:Wb (w.heap.size+1) nb Z z (Zp 7 [] 0 t.line t.col [] [] [D,D2]):=by
     rw [HZ.o]
     first
      | exact zeq (HY.o.2.2.1.below V HBL.o) (HY.o.2.2.2.1.below V HBL.o) (J.o.has (j.heap.size,.cells #[iP x.k,.string x.tx,iP x.N,iP x.li,iP x.co,.slice x.ta x.tl x.tc,.slice x.na x.nl x.nc,.slice x.ka x.kl x.kc,iP y.k,.string y.tx,iP y.N,iP y.li,iP y.co,.slice y.ta y.tl y.tc,.slice y.na y.nl y.nc,.slice y.ka y.kl y.kc] 64) (by simp)).1 (by have:=HY.o.2.1.sz; omega) (by omega) _ ⟨rfl,rfl⟩ rfl rfl
    have hC:=J.o.reput (bx':=[(nb,z.obj),(w.heap.size,Zj.obj)]) Wq z ⟨x,by simp⟩ (by
     intro p hp;rcases List.mem_cons.1 hp with rfl | hp
     ·exact .inl rfl
     ·rw [List.mem_singleton.1 hp]; exact .inr ⟨by simp,by show w.heap.size≠nb; omega⟩)
    go_roundg (ts.length - b2)
    case measure=>have:=J.o.ps.lt; have:=HY.o.2.2.2.2; omega
    case rel=>exact⟨b2,m,z,_,hC,Dl.put8 (xB (J.o.has (nb,x.obj) (by simp)).1) z,HY.o.1,(by have:=Qs.o; have:=HY.o.2.2.2.2; show _<=_; omega),xR⟩
  | false =>
   refine(V5 pb tb cap b _ 1 ts [[40]] _ _ C4.o.ps.rd (by simp) (by simp)).mono ?_;rw [T0,h1];rintro e w3 ⟨rfl,C⟩;have O:=Za (C4.o.below C);have Nz:=Za (P9.o.below (xB C4.o.b1) C);clear C;have HT:=Za (Ta pb tb cap b d ts [46] _ O.o.ps OK.o);go_wp2_with fail
   cases h2:Zg ts b [46] with
   | true =>
    rw [h2,if_pos rfl] at HT;have Zy:=Za (HRp.o.trans (zfq h1 h2));rw [<- M2.o] at Zy;clear h1 h2;refine HT.o.mono ?_;rintro e w4 ⟨rfl,A,T⟩;have I:=Za (O.o.step A T);have Js:=Za (Nz.o.stay (xB O.o.b1) A (by omega));clear A T
    have HC:xQ (∀ M bx,Y4 pb tb cap d ts w M (b+1) bx [] []->Wb (w.heap.size+1) nb M x D->(w2.heap.size,Z3 t) ∈ bx->(nb,x.obj) ∈ bx->Calls prog 85 #[qP pb] M fun e j=>(∃ chain,e = .panicked chain/\Ya pb tb cap ts d w Z6 R e j)∨∃ (s:bS) (b2:Nat),e = .returned (uP s)/\((kT j w2.heap.size t)/\(kN j nb x))/\(w2.heap.size<j.heap.size/\nb<j.heap.size)/\xQ (R=U8 ts E m (Zp 9 s 0 t.line t.col [] [] [D]) b2/\Y4 pb tb cap d ts w j b2 bx [] []/\Wb (w.heap.size+1) nb j x D/\True/\b+1<=b2)):=by
     intro M bx Y NA m0 m1;refine(Dx pb tb cap (b+1) d ts _ Y.ps OK.o).mono ?_;intro e j Zh;rcases Yr Zh with⟨er,li,co,F,rfl,A⟩ | ⟨s,b2,v,F,rfl,A,T,hv⟩
     ·exact .inl ⟨_,rfl,Y.st.trans A,by rw [Zy.o,F]; rfl⟩
     subst hv;have CN:=Y.step A T;exact .inr ⟨s,b2,rfl,⟨(Y8 (CN.has _ m0).1),(Zn (x:=x) (CN.has _ m1).1).1⟩,⟨xB (CN.has _ m0).1,xB (CN.has _ m1).1⟩,by rw [Zy.o,F]; rfl,CN,NA.stay (xB (Y.has _ m1).1) A (by omega),trivial,by have:=Eb F; omega⟩
    have B4:(kT w4 w2.heap.size t)/\(kN w4 nb x):=⟨(Y8 (I.o.has (w2.heap.size,Z3 t) (by simp)).1),(Zn (x:=x) (I.o.has (nb,x.obj) (by simp)).1).1⟩
    have Uo:w2.heap.size<w4.heap.size:=xB (I.o.has (w2.heap.size,Z3 t) (by simp)).1;have hl3:nb<w4.heap.size:=xB (I.o.has (nb,x.obj) (by simp)).1;obtain⟨⟨k0,k1,k2,k3⟩,n0,n1,n2,n3,n4,n5,n6,n7⟩:=B4;go_wp2_with fail
    go_region_with (first
     | (go_at_call 123; refine(pI t _ _ _ _ _ _ _ _ _ _ _ _ _).mono ?_; rintro e Z ⟨z,rfl,HZ,C⟩; (first | have J:=Za (HY.o.2.1.below C) | have J:=Za ((HY.o.2.1.alloc _).below C)); have Pl:=Za (Zn (x:=x) (J.o.has (nb,x.obj) (by simp)).1); obtain⟨⟨p0,p1,p2,p3,p4,p5,p6,p7⟩,⟨f0,f1,f2,f3,f4,f5,f6,f7⟩,Yw⟩:=Pl.o; have HBL:xQ (Below j.heap.size j Z):=(by first | exact C | exact Zz (Zq _ _) C); clear C)
     | (go_at_call 85; refine(HC.o _ _ (by first | exact I.o.drew | exact(I.o.alloc _).drew) (by first | exact Js.o.drew | exact(Js.o.alloc (xB (I.o.has (nb,x.obj) (by simp)).1) _).drew) (by simp) (by simp)).mono ?_; rintro e j (⟨ch,rfl,hf⟩ | ⟨s,b2,rfl,t5,t7,HY⟩); exact⟨rfl,hf⟩; obtain⟨⟨q0,q1,q2,q3⟩,m0,m1,m2,m3,m4,m5,m6,m7⟩:=t5; obtain⟨hl4,V⟩:=t7))
    all_goals
     go_wp2_with fail
     have Dl:Wb (w.heap.size+1) nb Z z (Zp 9 s 0 t.line t.col [] [] [D]):=by
      rw [HZ.o]
      first
       | exact dQ (HY.o.2.2.1.below V HBL.o) (J.o.has (j.heap.size,x.obj) (by simp)).1 (by have:=HY.o.2.1.sz; have:=I.o.sz; omega) (by omega) _ ⟨rfl,rfl⟩ rfl rfl
       | exact dQ (HY.o.2.2.1.below V HBL.o) (J.o.has (w4.heap.size,x.obj) (by simp)).1 (by have:=HY.o.2.1.sz; have:=I.o.sz; omega) (by omega) _ ⟨rfl,rfl⟩ rfl rfl
     have hC:=J.o.reput (bx':=[(nb,z.obj),(w.heap.size,Zj.obj)]) Wq z ⟨x,by simp⟩ (by
      intro p hp;rcases List.mem_cons.1 hp with rfl | hp
      ·exact .inl rfl
      ·rw [List.mem_singleton.1 hp]; exact .inr ⟨by simp,by show w.heap.size≠nb; omega⟩)
     go_roundg (ts.length - b2)
     case measure=>have:=J.o.ps.lt; have:=HY.o.2.2.2.2; omega
     case rel=>exact⟨b2,m,z,_,hC,Dl.put8 (xB (J.o.has (nb,x.obj) (by simp)).1) z,HY.o.1,(by have:=Qs.o; have:=HY.o.2.2.2.2; show _<=_; omega),xR⟩
   | false =>
    rw [h2,if_neg (by simp)] at HT;have Zy:=Za (HRp.o.trans (zfo h1 h2));clear h1 h2;refine HT.o.mono ?_;rintro e w4 ⟨rfl,A,T⟩;have I:=Za (O.o.step A T);have Js:=Za (Nz.o.stay (xB O.o.b1) A (by omega));clear A T;obtain⟨⟨r0,r1,r2,r3,r4,r5,r6,r7⟩,⟨f0,f1,f2,f3,f4,f5,f6,f7⟩,Yw⟩:=Zn (x:=Zj) I.o.b2;obtain⟨⟨n0,n1,n2,n3,n4,n5,n6,n7⟩,_,N5⟩:=Zn (x:=x) I.o.b1
    have Z1:¬ nb=w.heap.size:=by omega
    go_wp2_with fail;rw [Zy.o];refine r64 rfl rfl (Wv (x:=x) I.o.b2) rfl ⟨Wy I.o.st hp (xR) x,Ve I.o.ps hp x,_,rfl,x,rfl,?_⟩;exact((Js.o.now N5).put8 (xU _) x).lower (Nat.le_succ _)
end Go.Proofs.YtoppemkjhhlegaaGreatDoor
