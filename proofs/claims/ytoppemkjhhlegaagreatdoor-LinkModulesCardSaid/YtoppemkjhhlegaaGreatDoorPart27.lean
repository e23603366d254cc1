/- Part. -/
import Derived.Test.YtoppemkjhhlegaaGreatDoorPart26
set_option maxRecDepth 100000
set_option maxHeartbeats 4000000
namespace Go.Proofs.YtoppemkjhhlegaaGreatDoor
open Go.Proofs.Tryz
open Go.RowKit
attribute [local go_sem ↓] Go.wp_at_zero Go.wp_at_succ
def O6 (lo:Nat) (w:wD) (c:List vL) (x:Option (bS×Ty)):Prop:=c.length=5/\∀ y,x=some y->Sm lo w c y
theorem varQ_k:B5 O6 where
 keep:=fun h z A=>⟨h.1,fun y e=>tF.keep (h.2 y e) z A⟩
 lower:=fun h j=>⟨h.1,fun y e=>tF.lower (h.2 y e) j⟩
def VrsP (lo:Nat) (w':wD) (R:Pr (List (bS×Ty))) (e:Ending):Prop :=
 ∃ (av:oA) (cv:Nat) (cs:List (List vL)) (acc:List (Option (bS×Ty))),e = .returned (.slice av acc.length cv)/\Yq O6 lo 96 5 none w' (.slice av acc.length cv) cs acc/\acc.length<=8195/\∀ l b,R = .inl (l,b)->acc=l.map some
theorem zkn {ts:List Tok} {K:Nat->Pr Ty} {S:Yd} (h:Y2 ts (Zf (Zi (Zu ts) S)) [60,58]=false):Zi (My ts K) S=(Zi (Zu ts) S).go fun s b => .inl ((s,Y7 0 [] [] []),b):=by
 cases S with
 | inr p=>rfl
 | inl a =>
  show My ts K a=(Zu ts a).go _;replace h:Y2 ts (Zf (Zu ts a)) [60,58]=false:=h;unfold My
  cases hn:Zu ts a with
  | inr p=>rfl
  | inl q =>
   rw [hn] at h;show(if Zg ts q.2 [60,58] then _ else _)=_;rw [show Zg ts q.2 [60,58]=false from h];rfl
theorem zkp {ts:List Tok} {K:Nat->Pr Ty} {S:Yd} (h:Y2 ts (Zf (Zi (Zu ts) S)) [60,58]=true):∃ s b,Zi (Zu ts) S = .inl (s,b)/\Zi (My ts K) S=(K (b+1)).go fun t c => .inl ((s,t),c):=by
 cases S with
 | inr p=>cases h
 | inl a =>
  replace h:Y2 ts (Zf (Zu ts a)) [60,58]=true:=h
  cases hn:Zu ts a with
  | inr p=>rw [hn] at h; cases h
  | inl q =>
   rw [hn] at h;refine⟨q.1,q.2,hn,?_⟩;show My ts K a=_;unfold My;rw [hn];show(if Zg ts q.2 [60,58] then _ else _)=_;rw [show Zg ts q.2 [60,58]=true from h];rfl
theorem var_up {ts:List Tok} {K:Nat->Pr Ty} (j:∀ a x b,K a = .inl (x,b)->a<=b):∀ a x b,My ts K a = .inl (x,b)->a<=b:=fun a x b h =>
 (Yv (Am (xR)) fun _ _ h=>Vv (Yv (Q8 j (by omega)) fun _ _ h=>Xy h _) (Xy h _):Qn a (My ts K a)) x b h
theorem go_st2 {α:Type} {ts:List Tok} {s:bS} (R:Pr α):Zf (R.go fun l b=>(Ze ts b s).go fun _ b=>(.inl (l,b):Pr α))=Zf (Zi (fun a=>Ze ts a s) (Zf R)):=by
 rcases R with⟨x,b⟩ | p
 ·show Zf ((Ze ts b s).go _)=Zf (Ze ts b s)
  cases Ze ts b s <;> rfl
 ·rfl
theorem hZ {α β:Type} {R:Pr α} {G:α->Nat->Pr β} {D:β} {c:Nat} (h:R.go G = .inl (D,c)):∃ x b,R = .inl (x,b)/\G x b = .inl (D,c):=by
 cases R with
 | inr p=>cases h
 | inl q=>exact⟨q.1,q.2,rfl,h⟩
theorem pJ {α:Type} {rep:Nat->wD->List vL->α->Prop} {pb tb cap d B et k n:Nat} {ts:List Tok} {w W A:wD} {S:Yd} {bx:List (Nat×Obj)} {j:oA} {h:Nat} {cs:List (List vL)} {acc:List α} {c:List vL} {x:α} {v':vL} {o:Obj}
  (X:RX pb tb cap ts w W d S bx) (F:Yq rep B et k none W (.slice j n h) cs acc) (V:w.heap.size<=B) (O:c.length=k) (T:Xt rep B (fun q=>(Value.slice j n h).ownBlock=some q∨(none:Option Nat)=some q) W c x)
  (N:A.ownsRow B et k v' (acc.length+1) (cs.flatten ++ c)) (I:(W.alloc o).grownBy A (Value.slice j n h).ownBlock) (J:v'.ownBlock=(Value.slice j n h).ownBlock∨v'.ownBlock=some (W.heap.size+1)) (M:∀ p ∈ bx,p.1<B) :
  Yq rep B et k none A v' (cs ++ [c]) (acc ++ [x])/\RX pb tb cap ts w A d S bx:=by
 have H:=X.hp
 refine⟨F.put N I (J.imp_right fun e=>⟨_,e,by simp⟩) ((Zl.refl pb _).alloc X.at_.ltp _) (by omega) O (T.stay ((Zl.refl pb _).alloc X.at_.ltp _) (by omega)),?_⟩
 have C:∀ q,(Value.slice j n h).ownBlock=some q->B<=q:=fun q z=>(F.own q z).1
 exact(X.alloc o).drop.grown I (fun q z=>Nat.le_trans V (C q z)) fun p H q z=>by have:=C q z; have:=M p H; omega
theorem zhz (pb tb cap d:Nat) (ts:List Tok) (ok:Ym ts) (K:Nat->Pr Ty) (hu:∀ a x b,K a = .inl (x,b)->a<=b) (f:Nat) (hf:ts.length<=f+1)
  (hK:∀ S w,Z2 w pb tb cap ts d S->Calls prog 73 #[qP pb] w (N0 pb tb cap ts d w (Zi K S)))
  (S:Yd) (w:wD) (h:Z2 w pb tb cap ts d S) :
  Calls prog 59 #[qP pb] w fun e w'=>Zl pb w w'/\Z2 w' pb tb cap ts d (Zf (Zi (Mp ts K (f+1)) S))/\VrsP w.heap.size w' (Zi (Mp ts K (f+1)) S) e:=by
 obtain⟨R,hR⟩:=xE (Zi (Mp ts K (f+1)) S)
 rw [<- hR]
 have Yc:=Za hR
 have HC:=Za (Vi pb tb cap d ts S [91] w h ok)
 have HK:=Za hK
 have HU:=Za (var_up (ts:=ts) hu)
 have OK:=Za ok
 have HF:=Za hf
 have Ys:=h.ltp
 obtain⟨i0,hi,Xr,Xg,Xw⟩:=info_parts gZ
 clear h hK hu ok hR hf
 cases hq:Y2 ts S [91] with
 | false =>
  rw [hq,if_neg (by simp)] at HC
  have HS:xQ (Zf R=S/\∀ l b,R = .inl (l,b)->l=[]):=by
   show _/\_;rw [Yc.o]
   cases S with
   | inr p=>exact⟨rfl,fun l b e=>by cases e⟩
   | inl a =>
    have e0:Mp ts K (f+1) a = .inl ([],a):=by unfold Mp; rw [show Zg ts a [91]=false from hq]; rfl
    exact⟨by show Zf (Mp ts K (f+1) a)=_; rw [e0]; rfl,fun l b e=>by
     have e1:Mp ts K (f+1) a = .inl (l,b):=e;rw [e0] at e1;injection e1 with e1;injection e1 with e1 _
     exact e1.symm⟩
  clear hq;go_enter func59,ntmps59;go_wp2_with fail;refine HC.o.mono ?_;rintro e w1 ⟨rfl,N,O⟩;have HF:=Za (And.intro N O);clear N O;go_wp2_with fail;go_ret;rw [HS.o.1];exact⟨HF.o.1,HF.o.2,none,0,[],[],rfl,Ha _ _ _ _ _,by simp,fun l b e=>by rw [HS.o.2 l b e]; rfl⟩
 | true =>
 rw [hq,if_pos rfl] at HC
 obtain⟨a,rfl⟩:∃ a,S = .inl a:=by cases S with
  | inl a=>exact⟨a,rfl⟩
  | inr p=>cases hq
 obtain⟨Rm,M5⟩:=xE (Zi (fun a=>Z9 ts (My ts K) [44] (f+1) a) (.inl (a+1)))
 have HR:xQ (R=Rm.go fun l b=>(Ze ts b [93]).go fun _ b => .inl (l,b)):=by
  rw [Yc.o,M5];show Mp ts K (f+1) a=_;unfold Mp;rw [show Zg ts a [91]=true from hq];rfl
 have P7:xQ (Ke ts (My ts K) some [44] Rm (.inl (a+1)) [] ts.length):=Ke.start f HF.o M5
 clear hq M5 Yc
 go_enter func59,ntmps59
 go_wp2_with fail
 refine HC.o.mono ?_
 rintro e w1 ⟨rfl,N,O⟩
 have Pq:xQ (RX pb tb cap ts w w1 d (.inl (a+1)) []):=⟨N,O,Ys,by simp⟩
 clear N O HC
 go_wp2_with fail
 go_loopg [3] (ts.length) (fun gk v wr=>∃ (S:Yd) (cs:List (List vL)) (acc:List (Option (bS×Ty))),xQ (RX pb tb cap ts w wr d S [])/\xQ (Yq O6 w.heap.size 96 5 none wr v cs acc)/\xQ (Ke ts (My ts K) some [44] Rm S acc gk))
 case atStart=>exact⟨_,[],[],Pq,Ha O6 w.heap.size 96 5 w1,P7⟩
 case round =>
  clear Pq P7;obtain⟨S',cs,acc,X,RT,HI⟩:=hrel
  have Lw:acc.length<=8194:=HI.o.len fun b e=>by
   obtain⟨a,ha⟩:=X.o.at_;have:=ha.live b e;have:=ha.lt;have:=OK.o.len;omega
  obtain⟨av,cv,rfl⟩:=Yt RT.o.ow;have HC:=Za (Gm pb tb cap d ts S' _ X.o.at_ OK.o);obtain⟨Rn,hRn⟩:=xE (Zi (Zu ts) S');rw [<- hRn] at HC;obtain⟨R2,Tg⟩:=xE (Zi (My ts K) S');have Zy:=Za Tg;have HRn:=Za hRn;obtain⟨M,Bn⟩:=xE (Vd Rn);rw [<- Bn] at HC;have Na:=Za Bn;clear Tg hRn Bn;go_wp2_with fail;refine HC.o.mono ?_;rintro e w3 ⟨rfl,N,O⟩;have S7:=X.o.st.size;have X3:=Za ((X.o.step N O).alloc (.cells #[uP M,iP 0,sP,nP,nP] 96))
  have Fj:=N.size;have hpr:=X.o.at_.ltp;have T3:=Za (N.alloc hpr (.cells #[uP M,iP 0,sP,nP,nP] 96));clear N O HC X;go_wp2_with fail;obtain⟨vb,hvb⟩:=xE w3.heap.size;rw [<- hvb] at X3 Fj ⊢
  have hwv:w.heap.size<=vb:=by omega
  clear hvb;generalize w3.alloc (.cells #[uP M,iP 0,sP,nP,nP] 96)=W3 at X3 T3 ⊢;refine(Vi pb tb cap d ts (Zf Rn) [60,58] _ X3.o.at_ OK.o).mono ?_;rintro e w4 ⟨rfl,N,O⟩;have Y:=Za (X3.o.step N O);have T4:=Za (T3.o.trans N);clear N O X3 T3
  have hbf:Y2 ts (Zf Rn) [60,58]=false∨Y2 ts (Zf Rn) [60,58]=true:=by cases Y2 ts (Zf Rn) [60,58] <;> simp
  rcases hbf with T | T
  case' inl =>
   rw [T] at Y ⊢;rw [if_neg (by simp)] at Y
   have HE:xQ (R2=Rn.go fun s b => .inl ((s,Y7 0 [] [] []),b)):=by
    rw [Zy.o,HRn.o];exact zkn (by rw [<- HRn.o]; exact T)
   rw [show Zf Rn=Zf R2 by rw [HE.o]; cases Rn <;> rfl] at Y
   obtain⟨Z,C,F,I,H,A,z,J,X5,Uj⟩:∃ (Z:Int) (C:bA) (F:oA) (I H:Nat) (A:oA) (z J:Nat),xQ (RX pb tb cap ts w w4 d (Zf R2) [(vb,.cells #[uP M,iP Z,.string C,.slice F I H,.slice A z J] 96)])/\xQ (Xt O6 w.heap.size (fun q=>(Value.slice av acc.length cv).ownBlock=some q∨(none:Option Nat)=some q) w4 [uP M,iP Z,.string C,.slice F I H,.slice A z J] (Vy R2)):=by
    refine⟨0,⟨#[]⟩,none,0,0,none,0,0,Y,Xt.new (lo:=w4.heap.size) ⟨rfl,fun y e=>?_⟩ Y.o.st.size fun q hq=>xT (RT.o.all q hq) T4.o.size⟩;rw [HE.o] at e
    cases hn:Rn with
    | inr p=>rw [hn] at e; cases e
    | inl q =>
     rw [hn] at e;injection e with e;rw [<- e];refine⟨0,⟨#[]⟩,none,0,0,none,0,0,?_,zX _ _ 0 ⟨#[]⟩ (by decide) (by decide)⟩;rw [Na.o,hn];rfl
   obtain⟨⟨t0,t1,t2,t3,t4⟩,⟨f0,f1,f2,f3,f4⟩,Xe⟩:=box5 (X5.o.box (p:=(vb,_)) (xM));have V:=Za (RT.o.stay T4.o Ys)
   go_wp2_with(at_builtin; refine wpList_append_own_at _ rfl (.tmp 19) (.tmp 21) 60 rfl (w.heap.size) 96 i0 _ 5 88 underlying60 hi Xr Xg Xw rfl (by decide) _ _ _ rfl (V.o.ow.alloc _) (aP _ 0) 1 1 [uP M,iP Z,.string C,.slice F I H,.slice A z J] rfl rfl (V2 _ _ _) (by simp [Value.oneCell']) (by unfold maxLen; omega) (by omega) (by have:=X5.o.st.size; simp; omega) ?_)
   intro v' w6 Zr Zo _ Z4;obtain⟨h6,h7⟩:=pJ X5.o.drop V.o (xR) rfl Uj.o Zr Zo Z4 (by simp);have Pa:=Za h6;have X6:=Za h7;clear T Y T4 HE X5 V Uj Zr Zo Z4 h6 h7 t0 t1 t2 t3 t4 f0 f1 f2 f3 f4 Xe
  case' inr =>
   obtain⟨s,b,hn,Sw⟩:=zkp (K:=K) (by rw [<- HRn.o]; exact T);rw [<- HRn.o] at hn;rw [<- Zy.o] at Sw;rw [T] at Y ⊢;rw [if_pos rfl,hn] at Y;replace Y:xQ (RX pb tb cap ts w w4 d (.inl (b+1)) _):=Y;have HE:=Za (And.intro hn Sw);obtain⟨R3,Mu⟩:=xE (K (b+1));have Yz:=Za Mu;have HC:=Za (HK.o _ _ Y.o.at_);rw [show Zi K (.inl (b+1))=R3 from Mu.symm] at HC;clear T hn Sw Mu
   go_wp2_with fail;refine HC.o.mono ?_;rintro e w4' ⟨N,O,Z,C,F,I,H,A,z,J,rfl,hv⟩;have hvl:=xB (Y.o.box (p:=(vb,_)) (xM));have X4':=Za (Y.o.step N O);have T4':=Za (T4.o.trans N)
   have HQ4:xQ (O6 w4.heap.size w4' [uP M,iP Z,.string C,.slice F I H,.slice A z J] (Vy R2)):=⟨rfl,fun y e=>by
    rw [HE.o.2,<- Yz.o] at e
    cases h3:R3 with
    | inr p=>rw [h3] at e; cases e
    | inl q =>
     rw [h3] at e;injection e with e;rw [<- e];refine⟨Z,C,F,I,H,A,z,J,?_,hv q.1 q.2 h3⟩;rw [Na.o,HE.o.1]
     rfl⟩
   have hs4:=Y.o.st.size;have hs44:=T4.o.size;rw [show Zf R3=Zf R2 by rw [HE.o.2,<- Yz.o]; cases R3 <;> rfl] at X4';clear N O hv HC Y T4;obtain⟨⟨t0,t1,t2,t3,t4⟩,⟨f0,f1,f2,f3,f4⟩,Xe⟩:=box5 (X4'.o.box (p:=(vb,_)) (xM));obtain⟨w5,hw5⟩:=xE ((((w4'.setCell (aP vb 1) (iP Z)).setCell (aP vb 2) (.string C)).setCell (aP vb 3) (.slice F I H)).setCell (aP vb 4) (.slice A z J))
   have Do:w5.heap.size=w4'.heap.size:=by rw [hw5]; simp only [Yg]
   have X5:xQ (RX pb tb cap ts w w5 d (Zf R2) [(vb,.cells #[uP M,iP Z,.string C,.slice F I H,.slice A z J] 96)]):=by
    rw [hw5];exact(((X4'.o.setB (by simp) 1 _).setB (by simp) 2 _).setB (by simp) 3 _).setB (by simp) 4 _
   have T5:Zl pb wr w5:=by
    rw [hw5];exact(((T4'.o.own hpr Fj 1 _).own hpr Fj 2 _).own hpr Fj 3 _).own hpr Fj 4 _
   have V:=Za (RT.o.stay T5 Ys)
   have Uj:xQ (Xt O6 w.heap.size (fun q=>(Value.slice av acc.length cv).ownBlock=some q∨(none:Option Nat)=some q) w5 [uP M,iP Z,.string C,.slice F I H,.slice A z J] (Vy R2)):=by
    refine⟨w4',w4.heap.size,HQ4.o,by omega,by omega,fun b hb hl=>?_,fun q hq => .inl (xT (RT.o.all q hq) hs44)⟩
    have Z1:b≠vb:=by omega
    rw [hw5,xH Z1,xH Z1,xH Z1,xH Z1]
   have Uh:xQ (∀ j u,([uP M,iP Z,.string C,.slice F I H,.slice A z J]:List vL)[j]?=some u->(w5.alloc (.cells #[uP M,iP Z,.string C,.slice F I H,.slice A z J] 96)).cell? ((aP w4'.heap.size 0).add j)=some u):=fun j u h=>by
    have:=V2 w5 [uP M,iP Z,.string C,.slice F I H,.slice A z J] 96 j u h;rw [Do] at this;exact this
   have hsw:w.heap.size<=w5.heap.size:=X5.o.st.size;have HW5:=Za hw5;have HS5:=Za Do;clear T5 hw5 Do
   go_wp2_with(at_builtin; rw [<- HW5.o]; refine wpList_append_own_at _ rfl (.tmp 19) (.tmp 21) 60 rfl (w.heap.size) 96 i0 _ 5 88 underlying60 hi Xr Xg Xw rfl (by decide) _ _ _ rfl (V.o.ow.alloc _) (aP _ 0) 1 1 [uP M,iP Z,.string C,.slice F I H,.slice A z J] rfl rfl Uh.o (by simp [Value.oneCell']) (by unfold maxLen; omega) (by omega) (by simp; omega) ?_)
   intro v' w6 Zr Zo _ Z4;obtain⟨h6,h7⟩:=pJ X5.o.drop V.o (xR) rfl Uj.o Zr Zo (by rw [HS5.o]; simpa [HS5.o] using Z4) (by simp);have Pa:=Za h6;have X6:=Za h7;clear HW5 HS5 hsw Uh X4' T4' HQ4 HE Yz X5 V Uj Zr Zo Z4 h6 h7 t0 t1 t2 t3 t4 f0 f1 f2 f3 f4 Xe
  all_goals
   go_wp2_with fail;refine(Vi pb tb cap d ts (Zf R2) [44] _ X6.o.at_ OK.o).mono ?_;rintro e w7 ⟨rfl,N,O⟩;have X7:=Za (X6.o.step N O);have R7:=Za (Pa.o.stay N Ys)
   have Xa:xQ (∀ b,Zf R2 = .inl b->b<ts.length):=fun b e=>by
    obtain⟨a,ha⟩:=X6.o.at_;have:=ha.live b e;have:=ha.lt;omega
   clear N O X6 Pa
   cases T:Y2 ts (Zf R2) [44] with
   | true =>
    rw [T,if_pos rfl] at X7
    obtain⟨g',Qp,hn⟩:=HI.o.more (put:=Vy) (fun _ _=>rfl) (by rw [<- Zy.o]; exact T) HU.o (fun b e=>by
     rw [<- Zy.o] at e;rw [e] at T
     exact Xx OK.o.ends (Xa.o b e) T)
    rw [<- Zy.o] at hn;have HN:=Za hn;clear T hn HI;go_wp2_with fail
    go_roundg g'
    case measure=>exact Qp
    case rel=>exact⟨_,_,_,X7,R7,HN⟩
   | false =>
    rw [T,if_neg (by simp)] at X7;have Ly:=HI.o.end_ (put:=Vy) (fun _ _=>rfl) (by rw [<- Zy.o]; exact T);rw [<- Zy.o] at Ly;have P6:=Za Ly;clear T Ly HI
    have hlv:(acc ++ [Vy R2]).length=acc.length+1:=by simp
    obtain⟨av5,cv5,hv5⟩:=Yt R7.o.ow;subst hv5;go_wp2_with fail;refine(Td pb tb cap d ts (Zf R2) [93] _ X7.o.at_ OK.o).mono ?_;rintro e w8 ⟨rfl,N,O⟩;have X8:=Za (X7.o.step N O);have R8:=Za (R7.o.stay N Ys);clear N O X7 R7;go_wp2_with fail;go_ret;refine⟨X8.o.st,?_,av5,cv5,_,acc ++ [Vy R2],by rw [hlv]; rfl,R8.o,by omega,fun l b e=>?_⟩
    ·rw [HR.o,go_st2,P6.o.1]
     exact X8.o.at_
    ·rw [HR.o] at e
     obtain⟨l',b',h1,h2⟩:=hZ e;obtain⟨_,b2,h3,h4⟩:=hZ h2;injection h4 with h4;injection h4 with h4 _;rw [<- h4];exact P6.o.2 l' b' h1
end Go.Proofs.YtoppemkjhhlegaaGreatDoor
