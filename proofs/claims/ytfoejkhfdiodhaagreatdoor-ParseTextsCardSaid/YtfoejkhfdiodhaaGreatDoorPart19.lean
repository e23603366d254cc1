/- Part. -/
import Derived.Test.YtfoejkhfdiodhaaGreatDoorPart18
set_option maxRecDepth 100000
set_option maxHeartbeats 4000000
namespace Go.Proofs.YtfoejkhfdiodhaaGreatDoor
open Go.Proofs.Tryz
open Go.RowKit
attribute [local go_sem ↓] Go.wp_at_zero Go.wp_at_succ
def Xo (lo : Nat) (w : World) (x : NV) (R : Pr Ty) : Prop := ∀ D b, R = .inl (D, b) -> Yi lo w x D
section
variable {lo lo' pb b o : Nat} {w w' : World} {x : NV} {R : Pr Ty}
theorem Xo.keep (h : Xo lo w x R) (hs : w.heap.size <= w'.heap.size) (hk : ∀ b, lo <= b -> b < w.heap.size -> w'.heap[b]? = w.heap[b]?) : Xo lo w' x R := fun D b e => (h D b e).keep hs hk
theorem Xo.lower (h : Xo lo w x R) (hl : lo' <= lo) : Xo lo' w x R := fun D b e => (h D b e).lower hl
theorem Xo.stay (h : Xo lo w x R) (hs : Zl pb w w') (hp : pb < lo) : Xo lo w' x R := fun D b e => (h D b e).stay hs hp
theorem Xo.below (h : Xo lo w x R) (hb : Below w.heap.size w w') : Xo lo w' x R := fun D b e => (h D b e).below hb
end
def Vh (pb tb cap : Nat) (ts : List Tok) (d : Nat) (w : World) (R : Pr Ty) (e : Ending) (w' : World) : Prop :=
 Zl pb w w' /\ Z2 w' pb tb cap ts d (Zf R) /\ ∃ x : NV, e = .returned x.val /\ Xo w.heap.size w' x R
abbrev Yc (k : Int) (li co : Nat) : NV := ⟨k, ⟨#[]⟩, 0, li, co, none, 0, 0, none, 0, 0, none, 0, 0⟩
theorem Am (pb tb cap d : Nat) (ts : List Tok) (S : Ya) (k : Int) (w : World) (h : Z2 w pb tb cap ts d S) :
  Calls prog 121 #[pP pb, .int .i64 k] w fun r w' => ∃ li co, r = .returned (Yc k li co).val /\ (∀ a, S = .inl a -> li = Yg ts a /\ co = Yf ts a) /\ Zl pb w w' /\ Z2 w' pb tb cap ts d S := by
 obtain ⟨a, h⟩ := h
 have Na : (a : Int) < (ts.length : Int) := by have := h.lt; omega
 have Xc := h.ltp
 have Vd := Nat.lt_trans h.tlt h.ltp
 have HL := Za h.live
 have H0 := Za h
 have h1 := (h.alloc Zi.obj).drew
 obtain ⟨⟨c0, c1, c2, c3, c4, c5⟩, f1, f2, f3, f4, f5⟩ := h1.cells
 obtain ⟨q0, q1, q2, q3⟩ := h1.toks a h1.lt
 obtain ⟨t, ht⟩ := xE (Zk ts a)
 rw [<- ht] at q0 q1 q2 q3
 have HT := Za ht
 have Qf := And.intro c0 (And.intro c1 (And.intro q2 q3))
 clear ht c0 c1 c2 c3 c4 c5 q0 q1 q2 q3 h h1 f1 f2 f3 f4 f5
 have Y7 : xQ (∀ o, ((w.alloc o).drew).cell? ⟨pb, 0, none⟩ = some (.slice (some ⟨tb, 0, none⟩) ts.length cap) /\ ((w.alloc o).drew).cell? ⟨pb, 1, none⟩ = some (.int .i64 a) /\ ((w.alloc o).drew).cell? ⟨tb, a * 4 + 2, none⟩ = some (.int .i64 t.line) /\ ((w.alloc o).drew).cell? ⟨tb, a * 4 + 3, none⟩ = some (.int .i64 t.col)) := fun o => by
  have h1 := (H0.o.alloc o).drew;rw [HT.o];exact ⟨h1.cells.1.1, h1.cells.1.2.1, (h1.toks a h1.lt).2.2.1, (h1.toks a h1.lt).2.2.2⟩
 go_enter func121, ntmps121
 go_wp2_with fail
 go_region_held (fun W => W.cell? ⟨pb, 0, none⟩ = some (.slice (some ⟨tb, 0, none⟩) ts.length cap) /\ W.cell? ⟨pb, 1, none⟩ = some (.int .i64 a) /\ W.cell? ⟨tb, a * 4 + 2, none⟩ = some (.int .i64 t.line) /\ W.cell? ⟨tb, a * 4 + 3, none⟩ = some (.int .i64 t.col)) (first | with_reducible assumption | with_reducible exact Y7.o _) (fail)
 go_wp2_with fail
 refine r38 rfl rfl (xL w _) rfl ?_
 refine ⟨t.line, t.col, rfl, fun b e => ?_, (Zl.of Xc (Zq w _)).drew, a, (H0.o.alloc _).drew⟩
 rw [HL.o b e, HT.o]
 exact ⟨rfl, rfl⟩
def xG (lo : Nat) (w' : World) (R : Pr (List Ty)) (e : Ending) : Prop :=
 (e = .returned (.slice none 0 0) /\ ∀ l b, R = .inl (l, b) -> l = []) ∨
 ∃ (g : Nat) (k : Int) (nm : ByteArray) (na : Option Addr) (nl nc : Nat) (ka : Option Addr) (kl kc : Nat) (x : Option Ty), e = .returned (.slice (some ⟨g, 0, none⟩) 1 1) /\ Ym Uv lo 42 4 none w' (.slice (some ⟨g, 0, none⟩) 1 1) [[.int .i64 k, .string nm, .slice na nl nc, .slice ka kl kc]] [x] /\ ∀ l b, R = .inl (l, b) -> ∃ t, l = [t] /\ x = some t
theorem yE (pb tb cap d : Nat) (ts : List Tok) (ok : Yh ts) (K : Nat -> Pr Ty)
  (hK : ∀ S w, Z2 w pb tb cap ts d S -> Calls prog 77 #[pP pb] w (Pq pb tb cap ts d w (Zj K S)))
  (S : Ya) (w : World) (h : Z2 w pb tb cap ts d S) :
  Calls prog 78 #[pP pb] w fun e w' => Zl pb w w' /\ Z2 w' pb tb cap ts d (Zf (Zj (Ve ts K) S)) /\ xG w.heap.size w' (Zj (Ve ts K) S) e := by
 have HC := Za (Wq pb tb cap d ts S [58] w h ok)
 have HK := Za hK
 have Xc := h.ltp
 obtain ⟨R, hR⟩ := xE (Zj (Ve ts K) S)
 rw [<- hR]
 have HR := Za hR
 clear h ok hK hR
 cases hq : Yw ts S [58] with
 | false =>
  rw [hq, if_neg (by simp)] at HC
  have HS : xQ (Zf R = S /\ ∀ l b, R = .inl (l, b) -> l = []) := by
   show _ /\ _;rw [HR.o]
   cases S with
   | inr p => exact ⟨rfl, fun l b e => by cases e⟩
   | inl a =>
    have e0 : Ve ts K a = .inl ([], a) := by unfold Ve; rw [show Zh ts a [58] = false from hq]; rfl
    exact ⟨by show Zf (Ve ts K a) = _; rw [e0]; rfl, fun l b e => by
     have e1 : Ve ts K a = .inl (l, b) := e;rw [e0] at e1;injection e1 with e1;injection e1 with e1 _
     exact e1.symm⟩
  clear hq;go_enter func78, ntmps78;go_wp2_with fail;refine HC.o.mono ?_;rintro e w1 ⟨rfl, Zb, Zd⟩;have HF := Za (And.intro Zb Zd);clear Zb Zd;go_wp2_with fail;go_ret;rw [HS.o.1];exact ⟨HF.o.1, HF.o.2, .inl ⟨rfl, HS.o.2⟩⟩
 | true =>
  rw [hq, if_pos rfl] at HC
  obtain ⟨a, rfl⟩ : ∃ a, S = .inl a := by cases S with
   | inl a => exact ⟨a, rfl⟩
   | inr p => cases hq
  have Yr : xQ (R = (K (a + 1)).go fun t a => .inl ([t], a)) := by
   rw [HR.o];show Ve ts K a = _;unfold Ve;rw [show Zh ts a [58] = true from hq];rfl
  clear hq;go_enter func78, ntmps78;go_wp2_with fail;refine HC.o.mono ?_;rintro e w1 ⟨rfl, Zb, Zd⟩;have HF := Za (And.intro Zb Zd);clear Zb Zd;go_wp2_with fail;refine (HK.o _ _ HF.o.2).mono ?_;rintro e w2 ⟨Zb, Zd, k1, nm1, na1, nl1, nc1, ka1, kl1, kc1, rfl, hv⟩;have HG := Za (And.intro (HF.o.1.trans Zb) Zd);have HV := Za (Ee (hv.lower HF.o.1.size));clear Zb Zd hv;go_wp2_with fail;go_ret;refine ⟨(HG.o.1.alloc Xc _).alloc Xc _, ?_, .inr ⟨w2.heap.size + 1, k1, nm1, na1, nl1, nc1, ka1, kl1, kc1, Vf (K (a + 1)), rfl, ?_, fun l b e => ?_⟩⟩
  ·have := (HG.o.2.alloc (Z5 k1 nm1 na1 nl1 nc1 ka1 kl1 kc1)).alloc (Z5 k1 nm1 na1 nl1 nc1 ka1 kl1 kc1)
   rw [Yr.o]
   have e0 : Zf ((K (a + 1)).go fun t a => .inl ([t], a)) = Zf (Zj K (Ph (.inl a))) := by
    show _ = Zf (K (a + 1))
    cases K (a + 1) <;> rfl
   rw [e0];exact this
  ·have Wc := HG.o.1.size
   have := Aq (B := w.heap.size) (et := 42) (k := 4) (rep := Uv) (wx := w2.alloc (Z5 k1 nm1 na1 nl1 nc1 ka1 kl1 kc1)) (lo := w.heap.size) (c := [.int .i64 k1, .string nm1, .slice na1 nl1 nc1, .slice ka1 kl1 kc1]) (x := Vf (K (a + 1))) (pW.keep HV.o (by rw [xS]; omega) fun b _ hl => xA hl) (xR) (by rw [xS]; omega) rfl;rw [xS] at this;exact this
  ·rw [Yr.o] at e
   cases hk : K (a + 1) with
   | inr p => rw [hk] at e; cases e
   | inl q =>
    obtain ⟨t, c⟩ := q;rw [hk] at e;injection e with e;injection e with e _;exact ⟨t, e.symm, rfl⟩
def Gy (ts : List Tok) (K : Nat -> Pr Ty) (f a : Nat) : Pr Ty :=
 if Zh ts a [40] then (K (a + 1)).go fun t a => (Ze ts a [41]).go fun _ a => .inl (t, a)
 else if Zh ts a [123] then
  if Zh ts (a + 1) [125] then .inl (Yq 5 [] [] [], a + 2)
  else (Yd ts (Tg ts K) [44] f (a + 1)).go fun l a => (Ze ts a [125]).go fun _ a => .inl (Yq 5 [] (l.map (·.1)) (l.map (·.2)), a)
 else (Zr ts a).go fun s a => .inl (Yq 8 s [] [], a)
theorem sB {ts : List Tok} {K : Nat -> Pr Ty} {f : Nat} {S : Ya} {j : Nat} (hj : j < 5) (h0 : ∀ i : Nat, i < j -> Yw ts S (Y4 i) = false) (h : Yw ts S (Y4 j) = true) : ∃ a, S = .inl a /\ Zj (Pj ts K f) S = .inl (Yq j [] [] [], a + 1) := by
 cases S with
 | inr p => cases h
 | inl a =>
  refine ⟨a, rfl, ?_⟩;show Pj ts K f a = _;unfold Pj;have h1 : ∀ i : Nat, i < j -> Zh ts a (Y4 i) = false := h0;have h2 : Zh ts a (Y4 j) = true := h
  match j, hj with
  | 0, _ => rw [if_pos (show Zh ts a (Y4 0) = true from h2)]; rfl
  | 1, _ => rw [if_neg (by rw [show Y4 0 = Y4 ((0 : Nat) : Int) from rfl, h1 0 (by omega)]; simp), if_pos (show Zh ts a (Y4 1) = true from h2)]; rfl
  | 2, _ => rw [if_neg (by rw [show Y4 0 = Y4 ((0 : Nat) : Int) from rfl, h1 0 (by omega)]; simp), if_neg (by rw [show Y4 1 = Y4 ((1 : Nat) : Int) from rfl, h1 1 (by omega)]; simp), if_pos (show Zh ts a (Y4 2) = true from h2)]; rfl
  | 3, _ => rw [if_neg (by rw [show Y4 0 = Y4 ((0 : Nat) : Int) from rfl, h1 0 (by omega)]; simp), if_neg (by rw [show Y4 1 = Y4 ((1 : Nat) : Int) from rfl, h1 1 (by omega)]; simp), if_neg (by rw [show Y4 2 = Y4 ((2 : Nat) : Int) from rfl, h1 2 (by omega)]; simp), if_pos (show Zh ts a (Y4 3) = true from h2)]; rfl
  | 4, _ => rw [if_neg (by rw [show Y4 0 = Y4 ((0 : Nat) : Int) from rfl, h1 0 (by omega)]; simp), if_neg (by rw [show Y4 1 = Y4 ((1 : Nat) : Int) from rfl, h1 1 (by omega)]; simp), if_neg (by rw [show Y4 2 = Y4 ((2 : Nat) : Int) from rfl, h1 2 (by omega)]; simp), if_neg (by rw [show Y4 3 = Y4 ((3 : Nat) : Int) from rfl, h1 3 (by omega)]; simp), if_pos (show Zh ts a (Y4 4) = true from h2)]; rfl
theorem sA {ts : List Tok} {K : Nat -> Pr Ty} {f : Nat} {S : Ya} (h0 : ∀ i : Nat, i < 5 -> Yw ts S (Y4 i) = false) : Zj (Pj ts K f) S = Zj (Gy ts K f) S := by
 cases S with
 | inr p => rfl
 | inl a =>
  have h1 : ∀ i : Nat, i < 5 -> Zh ts a (Y4 i) = false := h0;show Pj ts K f a = Gy ts K f a;unfold Pj Gy;rw [if_neg (by rw [show Y4 0 = Y4 ((0 : Nat) : Int) from rfl, h1 0 (by omega)]; simp), if_neg (by rw [show Y4 1 = Y4 ((1 : Nat) : Int) from rfl, h1 1 (by omega)]; simp), if_neg (by rw [show Y4 2 = Y4 ((2 : Nat) : Int) from rfl, h1 2 (by omega)]; simp), if_neg (by rw [show Y4 3 = Y4 ((3 : Nat) : Int) from rfl, h1 3 (by omega)]; simp), if_neg (by rw [show Y4 4 = Y4 ((4 : Nat) : Int) from rfl, h1 4 (by omega)]; simp)]
abbrev Hz : Obj := .cells #[.string ⟨#[97, 110, 121]⟩, .string ⟨#[110, 117, 108, 108]⟩, .string ⟨#[98, 111, 111, 108]⟩, .string ⟨#[105, 110, 116]⟩, .string ⟨#[115, 116, 114]⟩] 9
theorem bA {w : World} {b i : Nat} (h : w.heap[b]? = some Hz) (hi : i < 5) : w.cell? ⟨b, i, none⟩ = some (.string ⟨(Y4 i).toArray⟩) := by
 rw [cell_of_row _ _ _ _ _ _ h]
 match i, hi with
 | 0, _ | 1, _ | 2, _ | 3, _ | 4, _ => rfl
section
variable {pb tb cap d b c m : Nat} {ts : List Tok} {w0 w w4 : World} {S : Ya} {bx : List (Nat × Obj)} {o : Option Nat} {K : Nat -> Pr Ty}
theorem RX.grown (h : RX pb tb cap ts w0 w d S bx) (hg : w.grownBy w4 o) (hB : ∀ q, o = some q -> w0.heap.size <= q) (Uy : ∀ p ∈ bx, ∀ q, o = some q -> q ≠ p.1) : RX pb tb cap ts w0 w4 d S bx := by
 have hp := h.hp
 refine ⟨h.st.grown hg h.hp hB, ?_, h.hp, fun p Uj => ?_⟩
 ·obtain ⟨a, ha⟩ := h.at_
  exact ⟨a, (hg.block _ ha.ltp (fun e => by have := hB _ e.symm; omega)).trans ha.blk, ha.lt, ha.live, ha.bad, ha.tlt, Qk ha.toks (hg.block _ (Nat.lt_trans ha.tlt ha.ltp) (fun e => by have := hB _ e.symm; have := ha.tlt; omega))⟩
 ·exact ⟨(hg.block _ (xB (h.box Uj)) (fun e => Uy p Uj _ e.symm rfl)).trans (h.box Uj), (h.has p Uj).2⟩
theorem RX.perm {bx' : List (Nat × Obj)} (h : RX pb tb cap ts w0 w d S bx) (hs : ∀ p ∈ bx', p ∈ bx) : RX pb tb cap ts w0 w d S bx' := ⟨h.st, h.at_, h.hp, fun p hp => h.has p (hs p hp)⟩
theorem RX.put2 {k : Int} {nm : ByteArray} {na ka na' : Option Addr} {nl nc kl kc nl' nc' : Nat} (h : RX pb tb cap ts w0 w d S ((b, Z5 k nm na nl nc ka kl kc) :: bx)) (Uy : ∀ p ∈ bx, p.1 ≠ b) : RX pb tb cap ts w0 (w.setCell ⟨b, 2, none⟩ (.slice na' nl' nc')) d S ((b, Z5 k nm na' nl' nc' ka kl kc) :: bx) := by
 have hb := (h.has _ (xM)).2
 have hp := h.hp
 refine ⟨h.st.own hp hb 2 _, h.at_.other (xT hp hb) 2 _, hp, fun p Uj => ?_⟩
 rcases List.mem_cons.1 Uj with rfl | Uj
 ·exact ⟨Xe (h.box (xM)), hb⟩
 ·exact ⟨(xH (Uy p Uj)).trans (h.box (xW _ Uj)), (h.has p (xW _ Uj)).2⟩
theorem RX.put3 {k : Int} {nm : ByteArray} {na ka ka' : Option Addr} {nl nc kl kc kl' kc' : Nat} (h : RX pb tb cap ts w0 w d S ((b, Z5 k nm na nl nc ka kl kc) :: bx)) (Uy : ∀ p ∈ bx, p.1 ≠ b) : RX pb tb cap ts w0 (w.setCell ⟨b, 3, none⟩ (.slice ka' kl' kc')) d S ((b, Z5 k nm na nl nc ka' kl' kc') :: bx) := by
 have hb := (h.has _ (xM)).2
 have hp := h.hp
 refine ⟨h.st.own hp hb 3 _, h.at_.other (xT hp hb) 3 _, hp, fun p Uj => ?_⟩
 rcases List.mem_cons.1 Uj with rfl | Uj
 ·exact ⟨Xe (h.box (xM)), hb⟩
 ·exact ⟨(xH (Uy p Uj)).trans (h.box (xW _ Uj)), (h.has p (xW _ Uj)).2⟩
def Kf (ts : List Tok) (K : Nat -> Pr Ty) (c : Nat) : Pr Ty := Zj K (Zf (Zj (fun a => Ze ts a [58]) (Zf (Zr ts c))))
theorem O8 : Tg ts K c = (Kf ts K c).go fun t b => .inl ((Wm (Zr ts c), t), b) := by
 unfold Tg Kf
 cases Zr ts c with
 | inr e => rfl
 | inl q =>
  obtain ⟨s, b⟩ := q;show (Ze ts b [58]).go _ = (Zj K (Zf (Ze ts b [58]))).go _
  cases Ze ts b [58] with
  | inr e => rfl
  | inl q => rfl
theorem vD (hu : ∀ a x b, K a = .inl (x, b) -> a <= b) {t : Ty} (h : Kf ts K c = .inl (t, b)) : c <= b := by
 unfold Kf at h
 cases h1 : Zr ts c with
 | inr e => rw [h1] at h; cases h
 | inl q =>
  obtain ⟨s, b1⟩ := q;rw [h1] at h;have u1 := Gw h1;replace h : Zj K (Zf (Ze ts b1 [58])) = .inl (t, b) := h
  cases h2 : Ze ts b1 [58] with
  | inr e => rw [h2] at h; cases h
  | inl q =>
   obtain ⟨s2, b2⟩ := q;rw [h2] at h;have u2 := Ck h2;have := hu _ _ _ h;omega
theorem lQ (ok : Yh ts) {x : List UInt8 × Ty} (h : Tg ts K c = .inl (x, b)) : x.1.length <= 70000 := by
 rw [O8] at h
 unfold Kf at h
 cases h1 : Zr ts c with
 | inr e => rw [h1] at h; cases h
 | inl q =>
  rw [h1] at h
  have hn : q.1.length <= 70000 := by
   unfold Zr at h1
   split at h1
   ·injection h1 with h1; rw [<- h1]; exact ok.txt c
   ·cases h1
  cases h2 : Zj K (Zf (Zj (fun a => Ze ts a [58]) (Zf (Sum.inl q : Pr (List UInt8))))) with
  | inr e => rw [h2] at h; cases h
  | inl z =>
   rw [h2] at h;injection h with h;injection h with h _;rw [<- h];exact hn
def Hu (ts : List Tok) (K : Nat -> Pr Ty) (Rm : Pr (List (List UInt8 × Ty))) (acc : List (List UInt8 × Ty)) (m c : Nat) : Prop :=
 Rm = (Yd ts (Tg ts K) [44] m c).go fun l b => .inl (acc ++ l, b)
theorem vC : Hu ts K (Yd ts (Tg ts K) [44] m c) [] m c := by
 unfold Hu
 cases Yd ts (Tg ts K) [44] m c <;> rfl
theorem vB {Rm : Pr (List (List UInt8 × Ty))} {acc : List (List UInt8 × Ty)} (h : Hu ts K Rm acc (m + 1) c) (hs : Yw ts (Zf (Kf ts K c)) [44] = true) : ∃ t b, Kf ts K c = .inl (t, b) /\ Hu ts K Rm (acc ++ [(Wm (Zr ts c), t)]) m (b + 1) := by
 unfold Hu at h ⊢
 rw [Yd, O8] at h
 cases hR : Kf ts K c with
 | inr e => rw [hR] at hs; cases hs
 | inl q =>
  obtain ⟨t, b⟩ := q;rw [hR] at hs h;refine ⟨t, b, rfl, ?_⟩;rw [h];show Pr.go (if Zh ts b [44] then _ else _) _ = _;rw [if_pos (show Zh ts b [44] = true from hs)]
  cases Yd ts (Tg ts K) [44] m (b + 1) with
  | inr e => rfl
  | inl q =>
   show Sum.inl (acc ++ (_ :: q.1), q.2) = Sum.inl ((acc ++ [_]) ++ q.1, q.2);simp
theorem vA {Rm : Pr (List (List UInt8 × Ty))} {acc : List (List UInt8 × Ty)} (h : Hu ts K Rm acc (m + 1) c) (hs : Yw ts (Zf (Kf ts K c)) [44] = false) : (∃ t b, Kf ts K c = .inl (t, b) /\ Rm = .inl (acc ++ [(Wm (Zr ts c), t)], b)) ∨ ∃ e, Kf ts K c = .inr e /\ Rm = .inr e := by
 unfold Hu at h
 rw [Yd, O8] at h
 cases hR : Kf ts K c with
 | inr e => rw [hR] at h; exact .inr ⟨e, rfl, h⟩
 | inl q =>
  obtain ⟨t, b⟩ := q;rw [hR] at hs h;refine .inl ⟨t, b, rfl, ?_⟩;rw [h];show Pr.go (if Zh ts b [44] then _ else _) _ = _;rw [if_neg (by rw [show Zh ts b [44] = false from hs]; simp)];rfl
end
theorem Ld (w : World) (b o : Nat) (v : Value) : Zl b w (w.setCell ⟨b, o, none⟩ v) := (Zl.refl b w).set o v
theorem dZ (pb tb cap d : Nat) (ts : List Tok) (ok : Yh ts) (K : Nat -> Pr Ty) (f : Nat) (hf : ts.length <= f + 1) (hu : ∀ a x b, K a = .inl (x, b) -> a <= b)
  (hK : ∀ S w, Z2 w pb tb cap ts d S -> Calls prog 77 #[pP pb] w (Pq pb tb cap ts d w (Zj K S)))
  (S : Ya) (w : World) (h : Z2 w pb tb cap ts d S) :
  Calls prog 143 #[pP pb] w (Pq pb tb cap ts d w (Zj (Pj ts K (f + 1)) S)) := by
 obtain ⟨R, hR⟩ := xE (Zj (Pj ts K (f + 1)) S)
 rw [<- hR]
 have HR := Za hR
 have HK := Za hK
 have HU := Za hu
 have OK := Za ok
 have X0 := Za (Lc h Xt)
 have X1 := Za (X0.o.alloc Hz)
 clear h hK ok hR hu X0
 go_enter func143, ntmps143
 go_wp2_with fail
 have hp := X1.o.hp
 have X1' : xQ (RX pb tb cap ts w ((w.alloc Xt).alloc Hz) d S [(w.heap.size + 1, Hz), (w.heap.size, Xt)]) := by
  have := X1.o;rw [xS] at this;exact this
 clear X1
 go_loopw [4] (fun i wr => ∃ j : Nat, j <= 5 /\ i = .int .i64 j /\ xQ (RX pb tb cap ts w wr d S [(w.heap.size + 1, Hz), (w.heap.size, Xt)]) /\ xQ (∀ i : Nat, i < j -> Yw ts S (Y4 i) = false)) (fun i _ => 5 - (intOf i).toNat)
 case atStart => exact ⟨0, by omega, rfl, X1', fun i hi => by omega⟩
 case round =>
  clear X1';obtain ⟨j, hj, rfl, X, HN⟩ := hrel;by_cases hj5 : j < 5
  ·have hj5' : (j : Int) < 5 := by omega
   have hbc := bA (X.o.box (p := (w.heap.size + 1, Hz)) (by simp)) hj5
   obtain ⟨Bj, hBj⟩ : ∃ Bj : ByteArray, Bj = ⟨(Y4 (j : Int)).toArray⟩ := ⟨_, rfl⟩
   have HC := Za (Wq pb tb cap d ts S (Y4 (j : Int)) _ X.o.at_ OK.o);rw [<- hBj] at hbc HC;clear hBj;go_wp2_with fail;refine HC.o.mono ?_;rintro e w2 ⟨rfl, Zb, Zd⟩;have X2 := Za (X.o.step Zb Zd);clear Zb Zd HC hbc X
   cases hs : Yw ts S (Y4 (j : Int)) with
   | true =>
    rw [hs, if_pos rfl] at X2;obtain ⟨a, rfl, hRa⟩ := sB (K := K) (f := f + 1) hj5 HN.o hs
    have K1 : xQ (R = .inl (Yq j [] [] [], a + 1)) := by rw [HR.o]; exact hRa
    clear hs hRa;obtain ⟨⟨r0, r1, r2, r3⟩, ⟨f0, f1, f2, f3⟩, Xu⟩ := Z6 (X2.o.box (p := (w.heap.size, Xt)) (by simp));go_wp2_with fail;refine r42 rfl rfl (set4 (X2.o.box (p := (w.heap.size, Xt)) (by simp)) _ _ _ _) rfl ⟨Ta X2.o.st hp (xR) _ _ _ _, ?_, j, ⟨#[]⟩, none, 0, 0, none, 0, 0, rfl, ?_⟩
    ·rw [K1.o]
     exact X2.o.at_.set4 hp _ _ _ _
    ·intro y c ey
     rw [K1.o] at ey;injection ey with ey;injection ey with ey _;rw [<- ey];exact Av _ _ _ _ (by match j, hj5 with | 0, _ | 1, _ | 2, _ | 3, _ | 4, _ => rfl) (by decide)
   | false =>
    rw [hs, if_neg (by simp)] at X2
    have Xz : xQ (∀ i : Nat, i < j + 1 -> Yw ts S (Y4 i) = false) := fun i hi => by
     by_cases e : i = j
     ·rw [e]; exact hs
     ·exact HN.o i (by omega)
    clear hs;go_wp2_with fail
    go_roundw
    case rel => exact ⟨j + 1, by omega, by go_num, X2, Xz⟩
    case measure => simp [intOf]; omega
  ·have hj5' : ¬ (j : Int) < 5 := by omega
   have Qn : xQ (R = Zj (Gy ts K (f + 1)) S) := by rw [HR.o]; exact sA fun i hi => HN.o i (by omega)
   clear HN;go_wp2_with fail;refine (Wq pb tb cap d ts S [40] _ X.o.at_ OK.o).mono ?_;rintro e w2 ⟨rfl, Zb, Zd⟩;have X2 := Za (X.o.step Zb Zd);clear Zb Zd X
   cases hs : Yw ts S [40] with
   | true =>
    rw [hs, if_pos rfl] at X2
    obtain ⟨a, rfl⟩ : ∃ a, S = .inl a := by cases S with
     | inl a => exact ⟨a, rfl⟩
     | inr p => cases hs
    obtain ⟨R1, Xb⟩ := xE (K (a + 1))
    have K1 : xQ (R = R1.go fun t a => (Ze ts a [41]).go fun _ a => .inl (t, a)) := by
     rw [Qn.o, Xb];show Gy ts K (f + 1) a = _;unfold Gy;rw [if_pos (show Zh ts a [40] = true from hs)]
    have HC := Za (HK.o _ _ X2.o.at_);have e1 : Zj K (Ph (.inl a)) = R1 := Xb.symm;rw [e1] at HC;clear hs Xb e1 Qn HR;go_wp2_with fail;refine HC.o.mono ?_;rintro e w3 ⟨Zb, Zd, k1, nm1, na1, nl1, nc1, ka1, kl1, kc1, rfl, hv⟩;have X3 := Za ((X2.o.step Zb Zd).alloc (Z5 k1 nm1 na1 nl1 nc1 ka1 kl1 kc1));have hwl : w.heap.size + 1 <= w2.heap.size := xB (X2.o.box (p := (w.heap.size, Xt)) (by simp));have Bv := Za ((hv.alloc (Z5 k1 nm1 na1 nl1 nc1 ka1 kl1 kc1)).lower hwl)
    have hwl3 : w.heap.size < w3.heap.size := xT hwl Zb.size;clear Zb Zd hv HC X2;go_wp2_with fail;generalize w3.alloc (Z5 k1 nm1 na1 nl1 nc1 ka1 kl1 kc1) = W3 at X3 Bv ⊢;generalize w3.heap.size = tb2 at X3 hwl3 ⊢;refine (Ua pb tb cap d ts (Zf R1) [41] _ X3.o.at_ OK.o).mono ?_;rintro e w4 ⟨rfl, Zb, Zd⟩;have X4 := Za (X3.o.step Zb Zd);have P4 := Za (Bv.o.stay Zb (by omega));clear Zb Zd X3 Bv;obtain ⟨⟨r0, r1, r2, r3⟩, ⟨f0, f1, f2, f3⟩, Xu⟩ := Z6 (X4.o.box (p := (w.heap.size, Xt)) (by simp))
    obtain ⟨⟨t0, t1, t2, t3⟩, _, Vd⟩ := Z6 (X4.o.box (p := (tb2, Z5 k1 nm1 na1 nl1 nc1 ka1 kl1 kc1)) (by simp))
    have Z3 : ¬ tb2 = w.heap.size := by omega
    go_wp2_with fail;refine r42 rfl rfl (set4 (X4.o.box (p := (w.heap.size, Xt)) (by simp)) _ _ _ _) rfl ⟨Ta X4.o.st hp (xR) _ _ _ _, ?_, k1, nm1, na1, nl1, nc1, ka1, kl1, kc1, rfl, ?_⟩
    ·have := X4.o.at_.set4 hp (.int .i64 k1) (.string nm1) (.slice na1 nl1 nc1) (.slice ka1 kl1 kc1)
     have e2 : Zf R = Zf (Zj (fun a => Ze ts a [41]) (Zf R1)) := by
      rw [K1.o]
      cases R1 with
      | inr p => rfl
      | inl q =>
       show Zf ((Ze ts q.2 [41]).go _) = Zf (Ze ts q.2 [41])
       cases Ze ts q.2 [41] <;> rfl
     rw [e2];exact this
    ·intro y c ey
     rw [K1.o] at ey
     cases Xb : R1 with
     | inr p => rw [Xb] at ey; cases ey
     | inl q =>
      rw [Xb] at ey;replace ey : (Ze ts q.2 [41]).go (fun _ a => .inl (q.1, a)) = .inl (y, c) := ey
      cases hw : Ze ts q.2 [41] with
      | inr p => rw [hw] at ey; cases ey
      | inl z =>
       rw [hw] at ey;injection ey with ey;injection ey with ey _;rw [<- ey];exact Yb.lower (Yb.set4 (P4.o q.1 q.2 Xb) (by omega) _ _ _ _) (by omega)
   | false =>
    rw [hs, if_neg (by simp)] at X2;have HNo := Za hs;clear hs;go_wp2_with fail;refine (Wq pb tb cap d ts S [123] _ X2.o.at_ OK.o).mono ?_;rintro e w3 ⟨rfl, Zb, Zd⟩;have X3 := Za (X2.o.step Zb Zd);clear Zb Zd X2
    cases hs : Yw ts S [123] with
    | false =>
     rw [hs, if_neg (by simp)] at X3;obtain ⟨R1, Xb⟩ := xE (Zj (Zr ts) S)
     have K1 : xQ (R = R1.go fun s a => .inl (Yq 8 s [] [], a)) := by
      rw [Qn.o, Xb]
      cases S with
      | inr p => rfl
      | inl a =>
       show Gy ts K (f + 1) a = _;unfold Gy;rw [if_neg (by rw [show Zh ts a [40] = false from HNo.o]; simp), if_neg (by rw [show Zh ts a [123] = false from hs]; simp)];rfl
     have HC := Za (L3 pb tb cap d ts S _ X3.o.at_ OK.o);rw [<- Xb] at HC
     have Kd : xQ (∀ s b, R1 = .inl (s, b) -> s.length <= 70000) := fun s b e => by
      rw [Xb] at e
      cases S with
      | inr p => cases e
      | inl a =>
       have e' : Zr ts a = .inl (s, b) := e;unfold Zr at e'
       split at e'
       ·injection e' with e'; injection e' with e' _; rw [<- e']; exact OK.o.txt a
       ·cases e'
     clear hs Xb Qn HR HNo;go_wp2_with fail;refine HC.o.mono ?_;rintro e w4 ⟨rfl, Zb, Zd⟩;have X4 := Za (X3.o.step Zb Zd);clear Zb Zd HC X3;obtain ⟨⟨r0, r1, r2, r3⟩, ⟨f0, f1, f2, f3⟩, Xu⟩ := Z6 (X4.o.box (p := (w.heap.size, Xt)) (by simp));go_wp2_with fail;refine r42 rfl rfl (set4 (X4.o.box (p := (w.heap.size, Xt)) (by simp)) _ _ _ _) rfl ⟨Ta X4.o.st hp (xR) _ _ _ _, ?_, 8, _, none, 0, 0, none, 0, 0, rfl, ?_⟩
     ·have := X4.o.at_.set4 hp (.int .i64 8) (.string ⟨(Wm R1).toArray⟩) (.slice none 0 0) (.slice none 0 0)
      have e2 : Zf R = Zf R1 := by rw [K1.o]; cases R1 <;> rfl
      rw [e2];exact this
     ·intro y c ey
      rw [K1.o] at ey
      cases Xb : R1 with
      | inr p => rw [Xb] at ey; cases ey
      | inl q =>
       rw [Xb] at ey;injection ey with ey;injection ey with ey _;rw [<- ey];exact Av _ _ _ _ (by decide) (Nat.le_trans (Kd.o q.1 q.2 Xb) (by decide))
    | true =>
     rw [hs, if_pos rfl] at X3
     obtain ⟨a, rfl⟩ : ∃ a, S = .inl a := by cases S with
      | inl a => exact ⟨a, rfl⟩
      | inr p => cases hs
     have K1 : xQ (R = if Zh ts (a + 1) [125] then .inl (Yq 5 [] [] [], a + 2) else (Yd ts (Tg ts K) [44] (f + 1) (a + 1)).go fun l a => (Ze ts a [125]).go fun _ a => .inl (Yq 5 [] (l.map (·.1)) (l.map (·.2)), a)) := by
      rw [Qn.o];show Gy ts K (f + 1) a = _;unfold Gy;rw [if_neg (by rw [show Zh ts a [40] = false from HNo.o]; simp), if_pos (show Zh ts a [123] = true from hs)]
     clear hs Qn HR HNo;have X4 := Za (X3.o.alloc (Z5 5 ⟨#[]⟩ none 0 0 none 0 0));have hwl3 : w.heap.size < w3.heap.size := xB (X3.o.box (p := (w.heap.size, Xt)) (by simp));have hwl4 : w.heap.size + 1 < w3.heap.size := xB (X3.o.box (p := (w.heap.size + 1, Hz)) (by simp));clear X3;go_wp2_with fail;generalize w3.alloc (Z5 5 ⟨#[]⟩ none 0 0 none 0 0) = W4 at X4 ⊢;generalize w3.heap.size = tb2 at X4 hwl3 hwl4 ⊢
     refine (Wq pb tb cap d ts (.inl (a + 1)) [125] _ X4.o.at_ OK.o).mono ?_;rintro e w5 ⟨rfl, Zb, Zd⟩;have X5 := Za (X4.o.step Zb Zd);clear Zb Zd X4
     cases hs : Yw ts (.inl (a + 1)) [125] with
     | true =>
      rw [hs, if_pos rfl] at X5
      have HRb : xQ (R = .inl (Yq 5 [] [] [], a + 2)) := by rw [K1.o, if_pos (show Zh ts (a + 1) [125] = true from hs)]; exact rfl
      clear hs K1;obtain ⟨⟨r0, r1, r2, r3⟩, ⟨f0, f1, f2, f3⟩, Xu⟩ := Z6 (X5.o.box (p := (w.heap.size, Xt)) (by simp));obtain ⟨⟨t0, t1, t2, t3⟩, _, Vd⟩ := Z6 (X5.o.box (p := (tb2, Z5 5 ⟨#[]⟩ none 0 0 none 0 0)) (by simp))
      have Z3 : ¬ tb2 = w.heap.size := by omega
      go_wp2_with fail;refine r42 rfl rfl (set4 (X5.o.box (p := (w.heap.size, Xt)) (by simp)) _ _ _ _) rfl ⟨Ta X5.o.st hp (xR) _ _ _ _, ?_, 5, ⟨#[]⟩, none, 0, 0, none, 0, 0, rfl, ?_⟩
      ·rw [HRb.o]
       exact X5.o.at_.set4 hp _ _ _ _
      ·intro y c ey
       rw [HRb.o] at ey;injection ey with ey;injection ey with ey _;rw [<- ey];exact Av _ _ _ _ (by decide) (by decide)
     | false =>
      rw [hs, if_neg (by simp)] at X5
      have HRb : xQ (R = (Yd ts (Tg ts K) [44] (f + 1) (a + 1)).go fun l a => (Ze ts a [125]).go fun _ a => .inl (Yq 5 [] (l.map (·.1)) (l.map (·.2)), a)) := by rw [K1.o, if_neg (by rw [show Zh ts (a + 1) [125] = false from hs]; simp)]; exact rfl
      clear hs K1;obtain ⟨Rm, Q0⟩ := xE (Yd ts (Tg ts K) [44] (f + 1) (a + 1));have HRm := Za Q0
      have HF0 : xQ (Hu ts K Rm [] (f + 1) (a + 1)) := by rw [Q0]; exact vC
      rw [<- Q0] at HRb;clear Q0;obtain ⟨i0, hi, Wp, Xy, Wr⟩ := info_parts Dp;obtain ⟨s0, si, sz0, sz1, sz2⟩ := info_parts Ri;go_wp2_with fail
      go_loopg [] (ts.length) (fun gk wr => ∃ (c m : Nat) (acc : List (List UInt8 × Ty)) (na ka : Option Addr) (nc kc : Nat) (cn ck : List (List Value)) (ns : List (List UInt8)) (ks : List (Option Ty)), xQ (ns = acc.map (·.1) /\ ks = acc.map (fun p => some p.2)) /\ xQ (RX pb tb cap ts w wr d (.inl c) [(tb2, Z5 5 ⟨#[]⟩ na ns.length nc ka ks.length kc), (w.heap.size + 1, Hz), (w.heap.size, Xt)]) /\ xQ (Ym Qc (tb2 + 1) 9 1 (Value.slice ka ks.length kc).ownBlock wr (.slice na ns.length nc) cn ns) /\ xQ (Ym Uv (tb2 + 1) 42 4 (Value.slice na ns.length nc).ownBlock wr (.slice ka ks.length kc) ck ks) /\ xQ (Hu ts K Rm acc m c) /\ xQ (ts.length <= c + m) /\ xQ (acc.length <= c) /\ xQ (ts.length - c <= gk))
      case atStart =>
       exact ⟨a + 1, f + 1, [], none, none, 0, 0, [], [], [], [], ⟨rfl, rfl⟩, X5, Lb _ _ _ _ _, Lb _ _ _ _ _, HF0, (by show _ <= _; omega), xZ _, (by show _ <= _; omega)⟩
      case round =>
       clear X5 HF0;obtain ⟨c, m, acc, na, ka, nc, kc, cn, ck, ns, ks, Tp, X, HN, HV, HF, HM, HA, HG⟩ := hrel
       have Yz : c < ts.length := by
        obtain ⟨a', ha⟩ := X.o.at_;have e1 := ha.live c rfl;have := ha.lt;omega
       obtain ⟨m, rfl⟩ : ∃ q, m = q + 1 := ⟨m - 1, by have := HM.o; omega⟩
       have hlen : ts.length <= 8193 := OK.o.len
       have Y0 : ns.length <= 8193 := by have := HA.o; rw [Tp.o.1, List.length_map]; omega
       have Qh : ks.length <= 8193 := by have := HA.o; rw [Tp.o.2, List.length_map]; omega
       have Ww : tb2 < wr.heap.size := xB (X.o.box (p := (tb2, Z5 5 ⟨#[]⟩ na ns.length nc ka ks.length kc)) (by simp))
       have Vn : pb < tb2 + 1 := by omega
       obtain ⟨nmv, P9⟩ := xE (Wm (Zr ts c));obtain ⟨R3, Qq⟩ := xE (Kf ts K c);have Mz := Za P9;have Yt := Za Qq;clear P9 Qq
       have V7 : xQ (Calls prog 32 #[pP pb] wr fun r w' => r = .returned (.string ⟨nmv.toArray⟩) /\ Zl pb wr w' /\ Z2 w' pb tb cap ts d (Zf (Zr ts c))) := by
        rw [Mz.o];exact L3 pb tb cap d ts (.inl c) wr X.o.at_ OK.o
       go_wp2_with fail;refine V7.o.mono ?_;rintro e w1 ⟨rfl, Zb, Zd⟩;have X1 := Za (X.o.step Zb Zd);have T0 := Za (HN.o.stay Zb Vn);have HV1 := Za (HV.o.stay Zb Vn);have htb1 : tb2 < w1.heap.size := xT Ww Zb.size;clear Zb Zd X HN HV V7;go_wp2_with fail;refine (Ua pb tb cap d ts _ [58] _ X1.o.at_ OK.o).mono ?_;rintro e w2 ⟨rfl, Zb, Zd⟩;have X2 := Za (X1.o.step Zb Zd);have Xz := Za (T0.o.stay Zb Vn)
       have M2 := Za (HV1.o.stay Zb Vn);have htb2 : tb2 < w2.heap.size := xT htb1 Zb.size;clear Zb Zd X1 T0 HV1;have Tt := Za (HK.o _ _ X2.o.at_);rw [show Zj K (Zf (Zj (fun a => Ze ts a [58]) (Zf (Zr ts c)))) = R3 from Yt.o.symm] at Tt;go_wp2_with fail;refine Tt.o.mono ?_;rintro e w3 ⟨Zb, Zd, k1, nm1, na1, nl1, nc1, ka1, kl1, kc1, rfl, hv⟩
       have hnO : ∀ q, (Value.slice na ns.length nc).ownBlock = some q -> tb2 + 1 <= q /\ q < w3.heap.size := fun q hq => (Xz.o.stay Zb Vn).own q hq
       have hkO : ∀ q, (Value.slice ka ks.length kc).ownBlock = some q -> tb2 + 1 <= q /\ q < w3.heap.size := fun q hq => (M2.o.stay Zb Vn).own q hq
       have HNO := Za hnO;have HKO := Za hkO;have Jj := Zb.trans ((Zl.refl pb w3).alloc (xT X2.o.at_.ltp Zb.size) (Z5 k1 nm1 na1 nl1 nc1 ka1 kl1 kc1));have X3 := Za ((X2.o.step Zb Zd).alloc (Z5 k1 nm1 na1 nl1 nc1 ka1 kl1 kc1));have Pp := Za (Xz.o.stay Jj Vn);have Bv := Za (M2.o.stay Jj Vn);have Tz := Za ((Wz.new (rep := Uv) (B := tb2 + 1) (Ee hv) htb2 (G := fun q => (Value.slice ka ks.length kc).ownBlock = some q ∨ (Value.slice na ns.length nc).ownBlock = some q) fun q hq => M2.o.all q hq).stay ((Zl.refl pb w3).alloc (xT X2.o.at_.ltp Zb.size) (Z5 k1 nm1 na1 nl1 nc1 ka1 kl1 kc1)) Vn)
       have htb3 : tb2 < w3.heap.size := xT htb2 Zb.size;clear Zb Zd hv Tt X2 Xz M2 hnO hkO Jj
       have hwl : w3.heap.size < (w3.alloc (Z5 k1 nm1 na1 nl1 nc1 ka1 kl1 kc1)).heap.size := by simp
       obtain ⟨⟨t0, t1, t2, t3⟩, ⟨f0, f1, f2, f3⟩, Vd⟩ := Z6 (X3.o.box (p := (tb2, Z5 5 ⟨#[]⟩ na ns.length nc ka ks.length kc)) (by simp))
       have Tu : xQ (∀ j u, ([.string ⟨nmv.toArray⟩] : List Value)[j]? = some u -> ((w3.alloc (Z5 k1 nm1 na1 nl1 nc1 ka1 kl1 kc1)).alloc (.cells #[.string ⟨nmv.toArray⟩] 9)).cell? ((⟨w3.heap.size + 1, 0, none⟩ : Addr).add j) = some u) := fun j u h => by
        have := Pt (w3.alloc (Z5 k1 nm1 na1 nl1 nc1 ka1 kl1 kc1)) [.string ⟨nmv.toArray⟩] 9 j u h;rw [xS] at this;exact this
       go_wp2_with (at_builtin; refine wpList_append_own_at _ rfl (.tmp 53) (.tmp 55) 35 rfl (tb2 + 1) 9 s0 _ 1 16 underlying35 si sz0 sz1 sz2 rfl (by decide) _ _ _ rfl (Pp.o.ow.alloc _) ⟨_, 0, none⟩ 1 1 [.string ⟨nmv.toArray⟩] rfl rfl Tu.o (by simp [Value.oneCell']) (by unfold maxLen; omega) (by omega) (by simp; omega) ?_)
       intro vn' w4 Z1 Zy _ Ys;have Ma : pb < (w3.alloc (Z5 k1 nm1 na1 nl1 nc1 ka1 kl1 kc1)).heap.size := X3.o.at_.ltp;have Lg := Za (Pp.o.put (x := nmv) (rep := Qc) Z1 Zy (Ys.imp_right fun e => ⟨_, e, by simp⟩) ((Zl.refl pb _).alloc Ma _) Vn rfl ((Wz.new (rep := Qc) (lo := w3.heap.size + 1) (wx := w3.alloc (Z5 k1 nm1 na1 nl1 nc1 ka1 kl1 kc1)) rfl (by omega) fun q hq => by have := Pp.o.all q hq; simpa using this).stay ((Zl.refl pb _).alloc Ma _) Vn))
       have P4 := Za ((Bv.o.stay ((Zl.refl pb _).alloc Ma (.cells #[.string ⟨nmv.toArray⟩] 9)) Vn).beside (o' := vn'.ownBlock) Zy (Ys.imp_right fun e => ⟨_, e, by simp, (Z1.lt _ e).2⟩) (by simp; omega))
       have HMd4 := Za ((Tz.o.stay ((Zl.refl pb _).alloc Ma (.cells #[.string ⟨nmv.toArray⟩] 9)) Vn).grown (G' := fun q => (Value.slice ka ks.length kc).ownBlock = some q ∨ vn'.ownBlock = some q) Zy (fun q hq => .inr hq) fun q hq => by
        rcases hq with hq | hq
        ·exact .inl (.inl hq)
        ·rcases Ys with e | e
         ·exact .inl (.inr (e ▸ hq))
         ·rw [e] at hq; injection hq with hq; exact .inr (by rw [<- hq]; simp))
       have X4 := Za ((X3.o.alloc (.cells #[.string ⟨nmv.toArray⟩] 9)).drop.grown Zy (fun q hq => by have := HNO.o q hq; omega) fun p hp q hq => by
        have := HNO.o q hq;simp only [List.mem_cons, List.not_mem_nil, or_false] at hp;rcases hp with rfl | rfl | rfl | rfl
        ·show q ≠ w3.heap.size; omega
        ·show q ≠ tb2; omega
        ·show q ≠ w.heap.size + 1; omega
        ·show q ≠ w.heap.size; omega)
       obtain ⟨na4, nc4, rfl⟩ := U9 Z1;clear Z1 Zy Ys Tu t0 t1 t2 t3 f0 f1 f2 f3 Vd hwl Ma Pp Bv Tz X3 HNO HKO;generalize w3.heap.size = nb at X4 htb3 ⊢;obtain ⟨⟨t0, t1, t2, t3⟩, ⟨f0, f1, f2, f3⟩, Vd⟩ := Z6 (X4.o.box (p := (tb2, Z5 5 ⟨#[]⟩ na ns.length nc ka ks.length kc)) (by simp));obtain ⟨⟨b0, b1, b2, b3⟩, _, Z8⟩ := Z6 (X4.o.box (p := (nb, Z5 k1 nm1 na1 nl1 nc1 ka1 kl1 kc1)) (by simp))
       have Z3 : ¬ nb = tb2 := by omega
       have hne' : ¬ tb2 = nb := by omega
       have X5 : xQ (RX pb tb cap ts w (w4.setCell ⟨tb2, 2, none⟩ (.slice na4 (ns.length + 1) nc4)) d (Zf R3) [(tb2, Z5 5 ⟨#[]⟩ na4 (ns.length + 1) nc4 ka ks.length kc), (nb, Z5 k1 nm1 na1 nl1 nc1 ka1 kl1 kc1), (w.heap.size + 1, Hz), (w.heap.size, Xt)]) := by
        refine RX.put2 (na := na) (nl := ns.length) (nc := nc) (X4.o.perm (fun p hp => ?_)) fun p hp => ?_
        ·simp only [List.mem_cons, List.not_mem_nil, or_false] at hp ⊢
         rcases hp with h | h | h | h
         ·exact .inr (.inl h)
         ·exact .inl h
         ·exact .inr (.inr (.inl h))
         ·exact .inr (.inr (.inr h))
        ·simp only [List.mem_cons, List.not_mem_nil, or_false] at hp
         rcases hp with rfl | rfl | rfl
         ·show nb ≠ tb2; omega
         ·show w.heap.size + 1 ≠ tb2; omega
         ·show w.heap.size ≠ tb2; omega
       have N7 := Za (Lg.o.stay (Ld w4 tb2 2 (.slice na4 (ns.length + 1) nc4)) (xU _));have M3 := Za (P4.o.stay (Ld w4 tb2 2 (.slice na4 (ns.length + 1) nc4)) (xU _));have HMd5 := Za (HMd4.o.stay (Ld w4 tb2 2 (.slice na4 (ns.length + 1) nc4)) (xU _));clear Lg P4 HMd4 X4
       have Tu : xQ (∀ j u, ([.int .i64 k1, .string nm1, .slice na1 nl1 nc1, .slice ka1 kl1 kc1] : List Value)[j]? = some u -> ((w4.setCell ⟨tb2, 2, none⟩ (.slice na4 (ns.length + 1) nc4)).alloc (.cells #[.int .i64 k1, .string nm1, .slice na1 nl1 nc1, .slice ka1 kl1 kc1] 42)).cell? ((⟨w4.heap.size, 0, none⟩ : Addr).add j) = some u) := fun j u h => by
        have := Pt (w4.setCell ⟨tb2, 2, none⟩ (.slice na4 (ns.length + 1) nc4)) [.int .i64 k1, .string nm1, .slice na1 nl1 nc1, .slice ka1 kl1 kc1] 42 j u h;rw [Ye] at this;exact this
       go_wp2_with (at_builtin; refine wpList_append_own_at _ rfl (.tmp 59) (.tmp 61) 34 rfl (tb2 + 1) 42 i0 _ 4 72 underlying34 hi Wp Xy Wr rfl (by decide) _ _ _ rfl (M3.o.ow.alloc _) ⟨_, 0, none⟩ 1 1 [.int .i64 k1, .string nm1, .slice na1 nl1 nc1, .slice ka1 kl1 kc1] rfl rfl Tu.o (by simp [Value.oneCell']) (by unfold maxLen; omega) (by omega) (by simp; omega) ?_)
       intro vk' w6 Z1 Zy _ Ys;have Ma : pb < (w4.setCell ⟨tb2, 2, none⟩ (.slice na4 (ns.length + 1) nc4)).heap.size := X5.o.at_.ltp;have Lk := Za (M3.o.put (x := Vf R3) (rep := Uv) Z1 Zy (Ys.imp_right fun e => ⟨_, e, by simp⟩) ((Zl.refl pb _).alloc Ma _) Vn rfl (HMd5.o.stay ((Zl.refl pb _).alloc Ma _) Vn));have Lh := Za ((N7.o.stay ((Zl.refl pb _).alloc Ma (.cells #[.int .i64 k1, .string nm1, .slice na1 nl1 nc1, .slice ka1 kl1 kc1] 42)) Vn).beside (o' := vk'.ownBlock) Zy (Ys.imp_right fun e => ⟨_, e, by simp, (Z1.lt _ e).2⟩) (by simp; omega))
       have X6 : xQ (RX pb tb cap ts w w6 d (Zf R3) [(tb2, Z5 5 ⟨#[]⟩ na4 (ns.length + 1) nc4 ka ks.length kc), (w.heap.size + 1, Hz), (w.heap.size, Xt)]) := by
        refine RX.grown (RX.perm (X5.o.alloc (.cells #[.int .i64 k1, .string nm1, .slice na1 nl1 nc1, .slice ka1 kl1 kc1] 42)).drop fun p hp => ?_) Zy (fun q hq => by have := M3.o.own q hq; omega) fun p hp q hq => ?_
        ·simp only [List.mem_cons, List.not_mem_nil, or_false] at hp ⊢
         rcases hp with h | h | h
         ·exact .inl h
         ·exact .inr (.inr (.inl h))
         ·exact .inr (.inr (.inr h))
        ·have := M3.o.own q hq
         simp only [List.mem_cons, List.not_mem_nil, or_false] at hp;rcases hp with rfl | rfl | rfl
         ·show q ≠ tb2; omega
         ·show q ≠ w.heap.size + 1; omega
         ·show q ≠ w.heap.size; omega
       obtain ⟨ka6, kc6, rfl⟩ := U9 Z1;clear Z1 Zy Ys Tu t0 t1 t2 t3 f0 f1 f2 f3 Vd Ma b0 b1 b2 b3 Z8 N7 M3 HMd5 X5;obtain ⟨⟨t0, t1, t2, t3⟩, ⟨f0, f1, f2, f3⟩, Vd⟩ := Z6 (X6.o.box (p := (tb2, Z5 5 ⟨#[]⟩ na4 (ns.length + 1) nc4 ka ks.length kc)) (by simp))
       have X7 : xQ (RX pb tb cap ts w (w6.setCell ⟨tb2, 3, none⟩ (.slice ka6 (ks.length + 1) kc6)) d (Zf R3) [(tb2, Z5 5 ⟨#[]⟩ na4 (ns.length + 1) nc4 ka6 (ks.length + 1) kc6), (w.heap.size + 1, Hz), (w.heap.size, Xt)]) := by
        refine RX.put3 X6.o fun p hp => ?_
        simp only [List.mem_cons, List.not_mem_nil, or_false] at hp;rcases hp with rfl | rfl
        ·show w.heap.size + 1 ≠ tb2; omega
        ·show w.heap.size ≠ tb2; omega
       have Kw := Za (Lh.o.stay (Ld w6 tb2 3 (.slice ka6 (ks.length + 1) kc6)) (xU _));have J0 := Za (Lk.o.stay (Ld w6 tb2 3 (.slice ka6 (ks.length + 1) kc6)) (xU _));clear Lh Lk X6;go_wp2_with fail;refine (Wq pb tb cap d ts (Zf R3) [44] _ X7.o.at_ OK.o).mono ?_;rintro e w8 ⟨rfl, Zb, Zd⟩;have X8 := Za (X7.o.step Zb Zd);have Kx := Za (Kw.o.stay Zb Vn);have Ll := Za (J0.o.stay Zb Vn);clear Zb Zd X7 Kw J0 t0 t1 t2 t3 f0 f1 f2 f3 Vd
       have Wh : (ns ++ [nmv]).length = ns.length + 1 := by simp
       have V0 : (ks ++ [Vf R3]).length = ks.length + 1 := by simp
       cases hs : Yw ts (Zf R3) [44] with
       | true =>
        rw [hs, if_pos rfl] at X8;rw [Yt.o] at hs;obtain ⟨t, b, Lr, Jf⟩ := vB HF.o hs;have HNx := Za Jf;have hup := vD HU.o Lr
        have hS : Ph (Zf R3) = .inl (b + 1) := by rw [Yt.o, Lr]; rfl
        have Lu : Vf R3 = some t := by rw [Yt.o, Lr]; rfl
        rw [hS, <- Wh, <- V0] at X8;rw [<- Wh, <- V0] at Kx Ll
        have HNS2 : xQ (ns ++ [nmv] = (acc ++ [(Wm (Zr ts c), t)]).map (·.1) /\ ks ++ [Vf R3] = (acc ++ [(Wm (Zr ts c), t)]).map (fun p => some p.2)) := ⟨by rw [Tp.o.1, Mz.o]; simp, by rw [Tp.o.2, Lu]; simp⟩
        clear hs Lr Jf hS Lu Wh V0;go_wp2_with fail
        go_roundg (ts.length - (b + 1))
        case measure => have := HG.o; omega
        case rel => exact ⟨b + 1, m, _, na4, ka6, nc4, kc6, _, _, _, _, HNS2, X8, Kx, Ll, HNx, (by have := HM.o; show _ <= _; omega), (by have := HA.o; show _ <= _; simp; omega), xR⟩
       | false =>
        rw [hs, if_neg (by simp)] at X8;rw [Yt.o] at hs;have HE := Za (vA HF.o hs);clear hs;go_wp2_with fail;refine (Ua pb tb cap d ts (Zf R3) [125] _ X8.o.at_ OK.o).mono ?_;rintro e w9 ⟨rfl, Zb, Zd⟩;have X9 := Za (X8.o.step Zb Zd);have HN9 := Za (Kx.o.stay Zb Vn);have HV9 := Za (Ll.o.stay Zb Vn);clear Zb Zd X8 Kx Ll;obtain ⟨⟨r0, r1, r2, r3⟩, ⟨f0, f1, f2, f3⟩, Xu⟩ := Z6 (X9.o.box (p := (w.heap.size, Xt)) (by simp))
        obtain ⟨⟨t0, t1, t2, t3⟩, _, Vd⟩ := Z6 (X9.o.box (p := (tb2, Z5 5 ⟨#[]⟩ na4 (ns.length + 1) nc4 ka6 (ks.length + 1) kc6)) (by simp))
        have Wl : ¬ tb2 = w.heap.size := by omega
        have Tx := Za Wh;have L9 := Za V0;clear Wh V0;go_wp2_with fail;refine r42 rfl rfl (set4 (X9.o.box (p := (w.heap.size, Xt)) (by simp)) _ _ _ _) rfl ⟨Ta X9.o.st hp (xR) _ _ _ _, ?_, 5, ⟨#[]⟩, na4, ns.length + 1, nc4, ka6, ks.length + 1, kc6, by simp, ?_⟩
        ·have := X9.o.at_.set4 hp (.int .i64 5) (.string ⟨#[]⟩) (.slice na4 (ns.length + 1) nc4) (.slice ka6 (ks.length + 1) kc6)
         have e2 : Zf R = Zf (Zj (fun a => Ze ts a [125]) (Zf R3)) := by
          rw [HRb.o, Yt.o];rcases HE.o with ⟨t, b, e1, e2⟩ | ⟨e, e1, e2⟩
          ·rw [e1, e2]
           show Zf ((Ze ts b [125]).go _) = Zf (Ze ts b [125])
           cases Ze ts b [125] <;> rfl
          ·rw [e1, e2]
           rfl
         rw [e2]
         simpa using this
        ·intro y cc ey
         rw [HRb.o] at ey;rcases HE.o with ⟨t, b, e1, e2⟩ | ⟨e, e1, e2⟩
         ·rw [e2] at ey
          replace ey : (Ze ts b [125]).go (fun _ a => .inl (Yq 5 [] ((acc ++ [(Wm (Zr ts c), t)]).map (·.1)) ((acc ++ [(Wm (Zr ts c), t)]).map (·.2)), a)) = .inl (y, cc) := ey
          cases hw : Ze ts b [125] with
          | inr p => rw [hw] at ey; cases ey
          | inl z =>
           rw [hw] at ey;injection ey with ey;injection ey with ey _;rw [<- ey]
           have Lu : Vf R3 = some t := by rw [Yt.o, e1]; rfl
           have en : ns ++ [nmv] = (acc ++ [(Wm (Zr ts c), t)]).map (·.1) := by rw [Tp.o.1, Mz.o]; simp
           have ek : ks ++ [Vf R3] = ((acc ++ [(Wm (Zr ts c), t)]).map (·.2)).map some := by rw [Tp.o.2, Lu]; simp
           have hN := HN9.o;have hV := HV9.o;rw [en] at hN;rw [ek] at hV
           have Jd : (acc ++ [(Wm (Zr ts c), t)]).length <= 8193 := by have := HA.o; simp; omega
           obtain ⟨a', c', a2, c2, ev, hE⟩ := pT (l := acc ++ [(Wm (Zr ts c), t)]) (lo := tb2 + 1) (w := w9) ⟨_, _, _, _, rfl, hN, R0 hV⟩ Jd (zH (fun a x b h => lQ OK.o h) (f + 1) (HRm.o.symm.trans e2))
           have hln : (acc ++ [(Wm (Zr ts c), t)]).length = ns.length + 1 := by rw [<- Tx.o, en, List.length_map]
           have hlk : (acc ++ [(Wm (Zr ts c), t)]).length = ks.length + 1 := by rw [<- L9.o, ek, List.length_map, List.length_map]
           injection ev with ev;injection ev with ev;injection ev with ev1 ev;injection ev with ev2 _;injection ev1 with g1 _ g2;injection ev2 with g3 _ g4;subst g1 g2 g3 g4
           have hE2 : Yb (tb2 + 1) w9 (.agg #[.int .i64 5, .string ⟨#[]⟩, .slice na4 (ns.length + 1) nc4, .slice ka6 (ks.length + 1) kc6]) (Yq 5 [] ((acc ++ [(Wm (Zr ts c), t)]).map (·.1)) ((acc ++ [(Wm (Zr ts c), t)]).map (·.2))) := by
            have := hE;rw [show (Value.slice na4 (acc ++ [(Wm (Zr ts c), t)]).length nc4) = .slice na4 (ns.length + 1) nc4 by rw [hln], show (Value.slice ka6 (acc ++ [(Wm (Zr ts c), t)]).length kc6) = .slice ka6 (ks.length + 1) kc6 by rw [hlk]] at this;exact this
           exact Yb.lower (Yb.set4 hE2 (by omega) _ _ _ _) (by omega)
         ·rw [e2] at ey; cases ey
end Go.Proofs.YtfoejkhfdiodhaaGreatDoor
