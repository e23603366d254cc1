/- Part. -/
import Derived.Test.YtfoejkhfdiodhaaGreatDoorPart24
set_option maxRecDepth 100000
set_option maxHeartbeats 4000000
namespace Go.Proofs.YtfoejkhfdiodhaaGreatDoor
open Go.Proofs.Tryz
open Go.RowKit
attribute [local go_sem ↓] Go.wp_at_zero Go.wp_at_succ
def Su (lo : Nat) (w : World) (c : List Value) (x : Option (List UInt8 × Ty)) : Prop := c.length = 5 /\ ∀ y, x = some y -> J5 lo w c y
theorem varQ_k : Lo Su where
 keep := fun h hs hk => ⟨h.1, fun y e => Ci.keep (h.2 y e) hs hk⟩
 lower := fun h hl => ⟨h.1, fun y e => Ci.lower (h.2 y e) hl⟩
def VrsP (lo : Nat) (w' : World) (R : Pr (List (List UInt8 × Ty))) (e : Ending) : Prop :=
 ∃ (av : Option Addr) (cv : Nat) (cs : List (List Value)) (acc : List (Option (List UInt8 × Ty))), e = .returned (.slice av acc.length cv) /\ Ym Su lo 91 5 none w' (.slice av acc.length cv) cs acc /\ acc.length <= 8195 /\ ∀ l b, R = .inl (l, b) -> acc = l.map some
theorem rX {ts : List Tok} {K : Nat -> Pr Ty} {S : Ya} (h : Yw ts (Zf (Zj (Zr ts) S)) [60, 58] = false) : Zj (Pl ts K) S = (Zj (Zr ts) S).go fun s b => .inl ((s, Yq 0 [] [] []), b) := by
 cases S with
 | inr p => rfl
 | inl a =>
  show Pl ts K a = (Zr ts a).go _;replace h : Yw ts (Zf (Zr ts a)) [60, 58] = false := h;unfold Pl
  cases hn : Zr ts a with
  | inr p => rfl
  | inl q =>
   rw [hn] at h;show (if Zh ts q.2 [60, 58] then _ else _) = _;rw [show Zh ts q.2 [60, 58] = false from h];rfl
theorem rZ {ts : List Tok} {K : Nat -> Pr Ty} {S : Ya} (h : Yw ts (Zf (Zj (Zr ts) S)) [60, 58] = true) : ∃ s b, Zj (Zr ts) S = .inl (s, b) /\ Zj (Pl ts K) S = (K (b + 1)).go fun t c => .inl ((s, t), c) := by
 cases S with
 | inr p => cases h
 | inl a =>
  replace h : Yw ts (Zf (Zr ts a)) [60, 58] = true := h
  cases hn : Zr ts a with
  | inr p => rw [hn] at h; cases h
  | inl q =>
   rw [hn] at h;refine ⟨q.1, q.2, hn, ?_⟩;show Pl ts K a = _;unfold Pl;rw [hn];show (if Zh ts q.2 [60, 58] then _ else _) = _;rw [show Zh ts q.2 [60, 58] = true from h];rfl
theorem var_up {ts : List Tok} {K : Nat -> Pr Ty} (hu : ∀ a x b, K a = .inl (x, b) -> a <= b) : ∀ a x b, Pl ts K a = .inl (x, b) -> a <= b := fun a x b h =>
 (Yp (Hs (xR)) fun _ _ h => Wx (Yp (Tc hu (by omega)) fun _ _ h => Xh h _) (Xh h _) : Uw a (Pl ts K a)) x b h
theorem go_st2 {α : Type} {ts : List Tok} {s : List UInt8} (R : Pr α) : Zf (R.go fun l b => (Ze ts b s).go fun _ b => (.inl (l, b) : Pr α)) = Zf (Zj (fun a => Ze ts a s) (Zf R)) := by
 rcases R with ⟨x, b⟩ | p
 ·show Zf ((Ze ts b s).go _) = Zf (Ze ts b s)
  cases Ze ts b s <;> rfl
 ·rfl
theorem vI {α β : Type} {R : Pr α} {G : α -> Nat -> Pr β} {D : β} {c : Nat} (h : R.go G = .inl (D, c)) : ∃ x b, R = .inl (x, b) /\ G x b = .inl (D, c) := by
 cases R with
 | inr p => cases h
 | inl q => exact ⟨q.1, q.2, rfl, h⟩
theorem Ob {α : Type} {rep : Nat -> World -> List Value -> α -> Prop} {pb tb cap d B et k n : Nat} {ts : List Tok} {w W w6 : World} {S : Ya} {bx : List (Nat × Obj)} {av : Option Addr} {cv : Nat} {cs : List (List Value)} {acc : List α} {c : List Value} {x : α} {v' : Value} {o : Obj}
  (X : RX pb tb cap ts w W d S bx) (RW : Ym rep B et k none W (.slice av n cv) cs acc) (hB : w.heap.size <= B) (hc : c.length = k) (Md : Wz rep B (fun q => (Value.slice av n cv).ownBlock = some q ∨ (none : Option Nat) = some q) W c x)
  (Z1 : w6.ownsRow B et k v' (acc.length + 1) (cs.flatten ++ c)) (Zy : (W.alloc o).grownBy w6 (Value.slice av n cv).ownBlock) (Ys : v'.ownBlock = (Value.slice av n cv).ownBlock ∨ v'.ownBlock = some (W.heap.size + 1)) (Uy : ∀ p ∈ bx, p.1 < B) :
  Ym rep B et k none w6 v' (cs ++ [c]) (acc ++ [x]) /\ RX pb tb cap ts w w6 d S bx := by
 have hp := X.hp
 refine ⟨RW.put Z1 Zy (Ys.imp_right fun e => ⟨_, e, by simp⟩) ((Zl.refl pb _).alloc X.at_.ltp _) (by omega) hc (Md.stay ((Zl.refl pb _).alloc X.at_.ltp _) (by omega)), ?_⟩
 have Zo : ∀ q, (Value.slice av n cv).ownBlock = some q -> B <= q := fun q hq => (RW.own q hq).1
 exact (X.alloc o).drop.grown Zy (fun q hq => Nat.le_trans hB (Zo q hq)) fun p hp q hq => by have := Zo q hq; have := Uy p hp; omega
theorem sL (pb tb cap d : Nat) (ts : List Tok) (ok : Yh ts) (K : Nat -> Pr Ty) (hu : ∀ a x b, K a = .inl (x, b) -> a <= b) (f : Nat) (hf : ts.length <= f + 1)
  (hK : ∀ S w, Z2 w pb tb cap ts d S -> Calls prog 77 #[pP pb] w (Pq pb tb cap ts d w (Zj K S)))
  (S : Ya) (w : World) (h : Z2 w pb tb cap ts d S) :
  Calls prog 35 #[pP pb] w fun e w' => Zl pb w w' /\ Z2 w' pb tb cap ts d (Zf (Zj (Q5 ts K (f + 1)) S)) /\ VrsP w.heap.size w' (Zj (Q5 ts K (f + 1)) S) e := by
 obtain ⟨R, hR⟩ := xE (Zj (Q5 ts K (f + 1)) S)
 rw [<- hR]
 have Z9 := Za hR
 have HC := Za (Wq pb tb cap d ts S [91] w h ok)
 have HK := Za hK
 have HU := Za (var_up (ts := ts) hu)
 have OK := Za ok
 have HF := Za hf
 have Xc := h.ltp
 obtain ⟨i0, hi, Wp, Xy, Wr⟩ := info_parts vT
 clear h hK hu ok hR hf
 cases hq : Yw ts S [91] with
 | false =>
  rw [hq, if_neg (by simp)] at HC
  have HS : xQ (Zf R = S /\ ∀ l b, R = .inl (l, b) -> l = []) := by
   show _ /\ _;rw [Z9.o]
   cases S with
   | inr p => exact ⟨rfl, fun l b e => by cases e⟩
   | inl a =>
    have e0 : Q5 ts K (f + 1) a = .inl ([], a) := by unfold Q5; rw [show Zh ts a [91] = false from hq]; rfl
    exact ⟨by show Zf (Q5 ts K (f + 1) a) = _; rw [e0]; rfl, fun l b e => by
     have e1 : Q5 ts K (f + 1) a = .inl (l, b) := e;rw [e0] at e1;injection e1 with e1;injection e1 with e1 _
     exact e1.symm⟩
  clear hq;go_enter func35, ntmps35;go_wp2_with fail;refine HC.o.mono ?_;rintro e w1 ⟨rfl, Zb, Zd⟩;have HF := Za (And.intro Zb Zd);clear Zb Zd;go_wp2_with fail;go_ret;rw [HS.o.1];exact ⟨HF.o.1, HF.o.2, none, 0, [], [], rfl, Lb _ _ _ _ _, by simp, fun l b e => by rw [HS.o.2 l b e]; rfl⟩
 | true =>
 rw [hq, if_pos rfl] at HC
 obtain ⟨a, rfl⟩ : ∃ a, S = .inl a := by cases S with
  | inl a => exact ⟨a, rfl⟩
  | inr p => cases hq
 obtain ⟨Rm, Q0⟩ := xE (Zj (fun a => Yd ts (Pl ts K) [44] (f + 1) a) (.inl (a + 1)))
 have HR : xQ (R = Rm.go fun l b => (Ze ts b [93]).go fun _ b => .inl (l, b)) := by
  rw [Z9.o, Q0];show Q5 ts K (f + 1) a = _;unfold Q5;rw [show Zh ts a [91] = true from hq];rfl
 have N5 : xQ (Np ts (Pl ts K) some [44] Rm (.inl (a + 1)) [] ts.length) := Np.start f HF.o Q0
 clear hq Q0 Z9
 go_enter func35, ntmps35
 go_wp2_with fail
 refine HC.o.mono ?_
 rintro e w1 ⟨rfl, Zb, Zd⟩
 have Mn : xQ (RX pb tb cap ts w w1 d (.inl (a + 1)) []) := ⟨Zb, Zd, Xc, by simp⟩
 clear Zb Zd HC
 go_wp2_with fail
 go_loopg [3] (ts.length) (fun gk v wr => ∃ (S : Ya) (cs : List (List Value)) (acc : List (Option (List UInt8 × Ty))), xQ (RX pb tb cap ts w wr d S []) /\ xQ (Ym Su w.heap.size 91 5 none wr v cs acc) /\ xQ (Np ts (Pl ts K) some [44] Rm S acc gk))
 case atStart => exact ⟨_, [], [], Mn, Lb Su w.heap.size 91 5 w1, N5⟩
 case round =>
  clear Mn N5;obtain ⟨S', cs, acc, X, RT, HI⟩ := hrel
  have M9 : acc.length <= 8194 := HI.o.len fun b e => by
   obtain ⟨a, ha⟩ := X.o.at_;have := ha.live b e;have := ha.lt;have := OK.o.len;omega
  obtain ⟨av, cv, rfl⟩ := U9 RT.o.ow;have HC := Za (L3 pb tb cap d ts S' _ X.o.at_ OK.o);obtain ⟨Rn, hRn⟩ := xE (Zj (Zr ts) S');rw [<- hRn] at HC;obtain ⟨R2, Uc⟩ := xE (Zj (Pl ts K) S');have Zz := Za Uc;have HRn := Za hRn;obtain ⟨nmv, P9⟩ := xE (Wm Rn);rw [<- P9] at HC;have Mz := Za P9;clear Uc hRn P9;go_wp2_with fail;refine HC.o.mono ?_;rintro e w3 ⟨rfl, Zb, Zd⟩;have hwr := X.o.st.size;have X3 := Za ((X.o.step Zb Zd).alloc (.cells #[.string ⟨nmv.toArray⟩, .int .i64 0, .string ⟨#[]⟩, .slice none 0 0, .slice none 0 0] 91))
  have Lz := Zb.size;have hpr := X.o.at_.ltp;have T3 := Za (Zb.alloc hpr (.cells #[.string ⟨nmv.toArray⟩, .int .i64 0, .string ⟨#[]⟩, .slice none 0 0, .slice none 0 0] 91));clear Zb Zd HC X;go_wp2_with fail;obtain ⟨vb, hvb⟩ := xE w3.heap.size;rw [<- hvb] at X3 Lz ⊢
  have hwv : w.heap.size <= vb := by omega
  clear hvb;generalize w3.alloc (.cells #[.string ⟨nmv.toArray⟩, .int .i64 0, .string ⟨#[]⟩, .slice none 0 0, .slice none 0 0] 91) = W3 at X3 T3 ⊢;refine (Wq pb tb cap d ts (Zf Rn) [60, 58] _ X3.o.at_ OK.o).mono ?_;rintro e w4 ⟨rfl, Zb, Zd⟩;have X4 := Za (X3.o.step Zb Zd);have T4 := Za (T3.o.trans Zb);clear Zb Zd X3 T3
  have hbf : Yw ts (Zf Rn) [60, 58] = false ∨ Yw ts (Zf Rn) [60, 58] = true := by cases Yw ts (Zf Rn) [60, 58] <;> simp
  rcases hbf with hs | hs
  case' inl =>
   rw [hs] at X4 ⊢;rw [if_neg (by simp)] at X4
   have HE : xQ (R2 = Rn.go fun s b => .inl ((s, Yq 0 [] [] []), b)) := by
    rw [Zz.o, HRn.o];exact rX (by rw [<- HRn.o]; exact hs)
   rw [show Zf Rn = Zf R2 by rw [HE.o]; cases Rn <;> rfl] at X4
   obtain ⟨k2, nm2, na2, nl2, nc2, ka2, kl2, kc2, X5, Tz⟩ : ∃ (k2 : Int) (nm2 : ByteArray) (na2 : Option Addr) (nl2 nc2 : Nat) (ka2 : Option Addr) (kl2 kc2 : Nat), xQ (RX pb tb cap ts w w4 d (Zf R2) [(vb, .cells #[.string ⟨nmv.toArray⟩, .int .i64 k2, .string nm2, .slice na2 nl2 nc2, .slice ka2 kl2 kc2] 91)]) /\ xQ (Wz Su w.heap.size (fun q => (Value.slice av acc.length cv).ownBlock = some q ∨ (none : Option Nat) = some q) w4 [.string ⟨nmv.toArray⟩, .int .i64 k2, .string nm2, .slice na2 nl2 nc2, .slice ka2 kl2 kc2] (Vf R2)) := by
    refine ⟨0, ⟨#[]⟩, none, 0, 0, none, 0, 0, X4, Wz.new (lo := w4.heap.size) ⟨rfl, fun y e => ?_⟩ X4.o.st.size fun q hq => xT (RT.o.all q hq) T4.o.size⟩;rw [HE.o] at e
    cases hn : Rn with
    | inr p => rw [hn] at e; cases e
    | inl q =>
     rw [hn] at e;injection e with e;rw [<- e];refine ⟨0, ⟨#[]⟩, none, 0, 0, none, 0, 0, ?_, Av _ _ 0 ⟨#[]⟩ (by decide) (by decide)⟩;rw [Mz.o, hn];rfl
   obtain ⟨⟨t0, t1, t2, t3, t4⟩, ⟨f0, f1, f2, f3, f4⟩, Xu⟩ := box5 (X5.o.box (p := (vb, _)) (xM));have RW5 := Za (RT.o.stay T4.o Xc)
   go_wp2_with (at_builtin; refine wpList_append_own_at _ rfl (.tmp 19) (.tmp 21) 46 rfl (w.heap.size) 91 i0 _ 5 88 underlying46 hi Wp Xy Wr rfl (by decide) _ _ _ rfl (RW5.o.ow.alloc _) ⟨_, 0, none⟩ 1 1 [.string ⟨nmv.toArray⟩, .int .i64 k2, .string nm2, .slice na2 nl2 nc2, .slice ka2 kl2 kc2] rfl rfl (Pt _ _ _) (by simp [Value.oneCell']) (by unfold maxLen; omega) (by omega) (by have := X5.o.st.size; simp; omega) ?_)
   intro v' w6 Z1 Zy _ Ys;obtain ⟨h6, h7⟩ := Ob X5.o.drop RW5.o (xR) rfl Tz.o Z1 Zy Ys (by simp);have Te := Za h6;have X6 := Za h7;clear hs X4 T4 HE X5 RW5 Tz Z1 Zy Ys h6 h7 t0 t1 t2 t3 t4 f0 f1 f2 f3 f4 Xu
  case' inr =>
   obtain ⟨s, b, hn, Hj⟩ := rZ (K := K) (by rw [<- HRn.o]; exact hs);rw [<- HRn.o] at hn;rw [<- Zz.o] at Hj;rw [hs] at X4 ⊢;rw [if_pos rfl, hn] at X4;replace X4 : xQ (RX pb tb cap ts w w4 d (.inl (b + 1)) _) := X4;have HE := Za (And.intro hn Hj);obtain ⟨R3, Qq⟩ := xE (K (b + 1));have Yt := Za Qq;have HC := Za (HK.o _ _ X4.o.at_);rw [show Zj K (.inl (b + 1)) = R3 from Qq.symm] at HC;clear hs hn Hj Qq;go_wp2_with fail
   refine HC.o.mono ?_;rintro e w4' ⟨Zb, Zd, k2, nm2, na2, nl2, nc2, ka2, kl2, kc2, rfl, hv⟩;have hvl := xB (X4.o.box (p := (vb, _)) (xM));have X4' := Za (X4.o.step Zb Zd);have T4' := Za (T4.o.trans Zb)
   have HQ4 : xQ (Su w4.heap.size w4' [.string ⟨nmv.toArray⟩, .int .i64 k2, .string nm2, .slice na2 nl2 nc2, .slice ka2 kl2 kc2] (Vf R2)) := ⟨rfl, fun y e => by
    rw [HE.o.2, <- Yt.o] at e
    cases h3 : R3 with
    | inr p => rw [h3] at e; cases e
    | inl q =>
     rw [h3] at e;injection e with e;rw [<- e];refine ⟨k2, nm2, na2, nl2, nc2, ka2, kl2, kc2, ?_, hv q.1 q.2 h3⟩;rw [Mz.o, HE.o.1]
     rfl⟩
   have hs4 := X4.o.st.size;have hs44 := T4.o.size;rw [show Zf R3 = Zf R2 by rw [HE.o.2, <- Yt.o]; cases R3 <;> rfl] at X4';clear Zb Zd hv HC X4 T4;obtain ⟨⟨t0, t1, t2, t3, t4⟩, ⟨f0, f1, f2, f3, f4⟩, Xu⟩ := box5 (X4'.o.box (p := (vb, _)) (xM));obtain ⟨w5, hw5⟩ := xE ((((w4'.setCell ⟨vb, 1, none⟩ (.int .i64 k2)).setCell ⟨vb, 2, none⟩ (.string nm2)).setCell ⟨vb, 3, none⟩ (.slice na2 nl2 nc2)).setCell ⟨vb, 4, none⟩ (.slice ka2 kl2 kc2))
   have hs5 : w5.heap.size = w4'.heap.size := by rw [hw5]; simp only [Ye]
   have X5 : xQ (RX pb tb cap ts w w5 d (Zf R2) [(vb, .cells #[.string ⟨nmv.toArray⟩, .int .i64 k2, .string nm2, .slice na2 nl2 nc2, .slice ka2 kl2 kc2] 91)]) := by
    rw [hw5];exact (((X4'.o.setB (by simp) 1 _).setB (by simp) 2 _).setB (by simp) 3 _).setB (by simp) 4 _
   have T5 : Zl pb wr w5 := by
    rw [hw5];exact (((T4'.o.own hpr Lz 1 _).own hpr Lz 2 _).own hpr Lz 3 _).own hpr Lz 4 _
   have RW5 := Za (RT.o.stay T5 Xc)
   have Tz : xQ (Wz Su w.heap.size (fun q => (Value.slice av acc.length cv).ownBlock = some q ∨ (none : Option Nat) = some q) w5 [.string ⟨nmv.toArray⟩, .int .i64 k2, .string nm2, .slice na2 nl2 nc2, .slice ka2 kl2 kc2] (Vf R2)) := by
    refine ⟨w4', w4.heap.size, HQ4.o, by omega, by omega, fun b hb hl => ?_, fun q hq => .inl (xT (RT.o.all q hq) hs44)⟩
    have Z3 : b ≠ vb := by omega
    rw [hw5, xH Z3, xH Z3, xH Z3, xH Z3]
   have Tu : xQ (∀ j u, ([.string ⟨nmv.toArray⟩, .int .i64 k2, .string nm2, .slice na2 nl2 nc2, .slice ka2 kl2 kc2] : List Value)[j]? = some u -> (w5.alloc (.cells #[.string ⟨nmv.toArray⟩, .int .i64 k2, .string nm2, .slice na2 nl2 nc2, .slice ka2 kl2 kc2] 91)).cell? ((⟨w4'.heap.size, 0, none⟩ : Addr).add j) = some u) := fun j u h => by
    have := Pt w5 [.string ⟨nmv.toArray⟩, .int .i64 k2, .string nm2, .slice na2 nl2 nc2, .slice ka2 kl2 kc2] 91 j u h;rw [hs5] at this;exact this
   have hsw : w.heap.size <= w5.heap.size := X5.o.st.size;have HW5 := Za hw5;have HS5 := Za hs5;clear T5 hw5 hs5
   go_wp2_with (at_builtin; rw [<- HW5.o]; refine wpList_append_own_at _ rfl (.tmp 19) (.tmp 21) 46 rfl (w.heap.size) 91 i0 _ 5 88 underlying46 hi Wp Xy Wr rfl (by decide) _ _ _ rfl (RW5.o.ow.alloc _) ⟨_, 0, none⟩ 1 1 [.string ⟨nmv.toArray⟩, .int .i64 k2, .string nm2, .slice na2 nl2 nc2, .slice ka2 kl2 kc2] rfl rfl Tu.o (by simp [Value.oneCell']) (by unfold maxLen; omega) (by omega) (by simp; omega) ?_)
   intro v' w6 Z1 Zy _ Ys;obtain ⟨h6, h7⟩ := Ob X5.o.drop RW5.o (xR) rfl Tz.o Z1 Zy (by rw [HS5.o]; simpa [HS5.o] using Ys) (by simp);have Te := Za h6;have X6 := Za h7;clear HW5 HS5 hsw Tu X4' T4' HQ4 HE Yt X5 RW5 Tz Z1 Zy Ys h6 h7 t0 t1 t2 t3 t4 f0 f1 f2 f3 f4 Xu
  all_goals
   go_wp2_with fail;refine (Wq pb tb cap d ts (Zf R2) [44] _ X6.o.at_ OK.o).mono ?_;rintro e w7 ⟨rfl, Zb, Zd⟩;have X7 := Za (X6.o.step Zb Zd);have R7 := Za (Te.o.stay Zb Xc)
   have Yx : xQ (∀ b, Zf R2 = .inl b -> b < ts.length) := fun b e => by
    obtain ⟨a, ha⟩ := X6.o.at_;have := ha.live b e;have := ha.lt;omega
   clear Zb Zd X6 Te
   cases hs : Yw ts (Zf R2) [44] with
   | true =>
    rw [hs, if_pos rfl] at X7
    obtain ⟨g', Pg, hn⟩ := HI.o.more (put := Vf) (fun _ _ => rfl) (by rw [<- Zz.o]; exact hs) HU.o (fun b e => by
     rw [<- Zz.o] at e;rw [e] at hs
     exact Q4 OK.o.ends (Yx.o b e) hs)
    rw [<- Zz.o] at hn;have HN := Za hn;clear hs hn HI;go_wp2_with fail
    go_roundg g'
    case measure => exact Pg
    case rel => exact ⟨_, _, _, X7, R7, HN⟩
   | false =>
    rw [hs, if_neg (by simp)] at X7;have Nc := HI.o.end_ (put := Vf) (fun _ _ => rfl) (by rw [<- Zz.o]; exact hs);rw [<- Zz.o] at Nc;have Tv := Za Nc;clear hs Nc HI
    have Ki : (acc ++ [Vf R2]).length = acc.length + 1 := by simp
    obtain ⟨av5, cv5, hv5⟩ := U9 R7.o.ow;subst hv5;go_wp2_with fail;refine (Ua pb tb cap d ts (Zf R2) [93] _ X7.o.at_ OK.o).mono ?_;rintro e w8 ⟨rfl, Zb, Zd⟩;have X8 := Za (X7.o.step Zb Zd);have R8 := Za (R7.o.stay Zb Xc);clear Zb Zd X7 R7;go_wp2_with fail;go_ret;refine ⟨X8.o.st, ?_, av5, cv5, _, acc ++ [Vf R2], by rw [Ki]; rfl, R8.o, by omega, fun l b e => ?_⟩
    ·rw [HR.o, go_st2, Tv.o.1]
     exact X8.o.at_
    ·rw [HR.o] at e
     obtain ⟨l', b', h1, h2⟩ := vI e;obtain ⟨_, b2, h3, h4⟩ := vI h2;injection h4 with h4;injection h4 with h4 _;rw [<- h4];exact Tv.o.2 l' b' h1
end Go.Proofs.YtfoejkhfdiodhaaGreatDoor
