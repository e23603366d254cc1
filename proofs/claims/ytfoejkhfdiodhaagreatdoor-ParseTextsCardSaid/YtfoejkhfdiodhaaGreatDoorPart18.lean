/- Part. -/
import Derived.Test.YtfoejkhfdiodhaaGreatDoorPart14
set_option maxRecDepth 100000
set_option maxHeartbeats 4000000
namespace Go.Proofs.YtfoejkhfdiodhaaGreatDoor
open Go.Proofs.Tryz
open Go.RowKit
abbrev Ya := Nat ⊕ (Int × Nat × Nat)
def eS : Ya -> Int
 | .inl _ => 0
 | .inr p => p.1
def lS : Ya -> Nat
 | .inl _ => 0
 | .inr p => p.2.1
def cS : Ya -> Nat
 | .inl _ => 0
 | .inr p => p.2.2
abbrev rpO (tb n cap a d : Nat) (e : Int) (l c : Nat) : Obj := .cells #[.slice (some ⟨tb, 0, none⟩) n cap, .int .i64 a, .int .i64 d, .int .i64 e, .int .i64 l, .int .i64 c] 79
structure Qb (w : World) (pb tb cap : Nat) (ts : List Tok) (d : Nat) (S : Ya) (a : Nat) : Prop where
 blk : w.heap[pb]? = some (rpO tb ts.length cap a d (eS S) (lS S) (cS S))
 lt : a < ts.length
 live : ∀ b, S = .inl b -> b = a
 bad : ∀ p, S = .inr p -> p.1 ≠ 0
 tlt : tb < pb
 toks : Gl w tb ts
section
variable {w w1 : World} {pb tb cap a d : Nat} {ts : List Tok} {S : Ya}
theorem Qb.ltp (h : Qb w pb tb cap ts d S a) : pb < w.heap.size := xB h.blk
theorem Qb.below (h : Qb w pb tb cap ts d S a) (hb : Below w.heap.size w w1) : Qb w1 pb tb cap ts d S a :=
 ⟨(hb.block _ h.ltp).trans h.blk, h.lt, h.live, h.bad, h.tlt, Qk h.toks (hb.block _ (Nat.lt_trans h.tlt h.ltp))⟩
theorem Qb.alloc (h : Qb w pb tb cap ts d S a) (o : Obj) : Qb (w.alloc o) pb tb cap ts d S a := h.below (Zq _ _)
theorem Qb.drew (h : Qb w pb tb cap ts d S a) : Qb w.drew pb tb cap ts d S a := h.below (Below.refl _ _).drew
theorem Qb.cells (h : Qb w pb tb cap ts d S a) : (w.cell? ⟨pb, 0, none⟩ = some (.slice (some ⟨tb, 0, none⟩) ts.length cap) /\ w.cell? ⟨pb, 1, none⟩ = some (.int .i64 a) /\ w.cell? ⟨pb, 2, none⟩ = some (.int .i64 d) /\ w.cell? ⟨pb, 3, none⟩ = some (.int .i64 (eS S)) /\ w.cell? ⟨pb, 4, none⟩ = some (.int .i64 (lS S)) /\ w.cell? ⟨pb, 5, none⟩ = some (.int .i64 (cS S))) /\
  (w.frozen? ⟨pb, 1, none⟩ = false /\ w.frozen? ⟨pb, 2, none⟩ = false /\ w.frozen? ⟨pb, 3, none⟩ = false /\ w.frozen? ⟨pb, 4, none⟩ = false /\ w.frozen? ⟨pb, 5, none⟩ = false) := by
 refine ⟨⟨?_, ?_, ?_, ?_, ?_, ?_⟩, ?_, ?_, ?_, ?_, ?_⟩
 all_goals first | (rw [cell_of_row _ _ _ _ _ _ h.blk]; rfl) | simp [World.frozen?, h.blk]
end
def Yw (ts : List Tok) : Ya -> List UInt8 -> Bool
 | .inl a, s => Zh ts a s
 | .inr _, _ => false
theorem sM {w : World} {pb tb cap a d : Nat} {ts : List Tok} {S : Ya} (h : Qb w pb tb cap ts d S a) (s : List UInt8) : Yw ts S s = ((eS S == 0) && Zh ts a s) := by
 cases S with
 | inl b => rw [h.live b rfl]; rfl
 | inr p =>
  have := h.bad p rfl;unfold Yw eS;simp [this]
theorem sE (pb tb cap a d : Nat) (ts : List Tok) (S : Ya) (s : List UInt8) (w : World) (h : Qb w pb tb cap ts d S a) :
  Calls prog 76 #[pP pb, .string ⟨s.toArray⟩] w fun e w' => e = .returned (.bool (Yw ts S s)) /\ Below w.heap.size w w' := by
 rw [sM h s]
 obtain ⟨⟨c0, c1, c2, c3, c4, c5⟩, _⟩ := h.cells
 obtain ⟨q0, q1, q2, q3⟩ := h.toks a h.lt
 have Na : (a : Int) < (ts.length : Int) := by have := h.lt; omega
 have Xc := h.ltp
 have Vd := Nat.lt_trans h.tlt h.ltp
 generalize eS S = es at c3 ⊢
 unfold Zh
 generalize Zk ts a = t at q0 q1 q2 q3 ⊢
 obtain ⟨tk, tt, tl, tc⟩ := t
 simp only at q0 q1 q2 q3 ⊢
 obtain ⟨r, hr⟩ := xE ((es == 0 && ((tk == 2 || tk == 5) && tt == s)))
 rw [<- hr]
 have HR := Za hr
 obtain ⟨S0, Vx⟩ : ∃ S0 : ByteArray, S0 = ⟨tt.toArray⟩ := ⟨_, rfl⟩
 obtain ⟨S1, P7⟩ : ∃ S1 : ByteArray, S1 = ⟨s.toArray⟩ := ⟨_, rfl⟩
 have HQ : xQ ((tt == s) = (S0.toList == S1.toList)) := by
  show _ = _
  cases hq : (S0.toList == S1.toList) with
  | true =>
   have := Ge.1 hq;rw [Vx, P7] at this
   simpa using this
  | false =>
   have := Ar hq;rw [Vx, P7] at this
   simpa using this
 rw [<- Vx] at q1
 rw [<- P7]
 clear c2 c4 c5 h hr Vx P7
 have HS : xQ (∀ W, Below w.heap.size w W -> W.cell? ⟨pb, 0, none⟩ = some (.slice (some ⟨tb, 0, none⟩) ts.length cap) /\ W.cell? ⟨pb, 1, none⟩ = some (.int .i64 a) /\ W.cell? ⟨tb, a * 4, none⟩ = some (.int .i64 tk) /\ W.cell? ⟨tb, a * 4 + 1, none⟩ = some (.string S0) /\ W.cell? ⟨tb, a * 4 + 2, none⟩ = some (.int .i64 tl) /\ W.cell? ⟨tb, a * 4 + 3, none⟩ = some (.int .i64 tc)) := fun W hW =>
  ⟨(hW.cell (p := ⟨pb, 0, none⟩) Xc).trans c0, (hW.cell (p := ⟨pb, 1, none⟩) Xc).trans c1, (hW.cell (p := ⟨tb, a * 4, none⟩) Vd).trans q0, (hW.cell (p := ⟨tb, a * 4 + 1, none⟩) Vd).trans q1, (hW.cell (p := ⟨tb, a * 4 + 2, none⟩) Vd).trans q2, (hW.cell (p := ⟨tb, a * 4 + 3, none⟩) Vd).trans q3⟩
 have Qf := HS.o w.drew (Below.refl _ _).drew
 have Y7 : xQ (∀ o, _) := fun o => HS.o ((w.alloc o).drew) (Zq w o).drew
 have HE : xQ (∀ W, Below w.heap.size w W -> W.cell? ⟨pb, 3, none⟩ = some (.int .i64 es)) := fun W hW => (hW.cell (p := ⟨pb, 3, none⟩) Xc).trans c3
 clear c0 c1 c3 q0 q1 q2 q3
 go_enter func76, ntmps76
 go_wp2_with fail
 go_region_held (fun W => W.cell? ⟨pb, 0, none⟩ = some (.slice (some ⟨tb, 0, none⟩) ts.length cap) /\ W.cell? ⟨pb, 1, none⟩ = some (.int .i64 a) /\ W.cell? ⟨tb, a * 4, none⟩ = some (.int .i64 tk) /\ W.cell? ⟨tb, a * 4 + 1, none⟩ = some (.string S0) /\ W.cell? ⟨tb, a * 4 + 2, none⟩ = some (.int .i64 tl) /\ W.cell? ⟨tb, a * 4 + 3, none⟩ = some (.int .i64 tc)) (first | with_reducible assumption | with_reducible exact Y7.o _) (fail)
 have HB : xQ (Below w.heap.size w (w.alloc (.cells #[.int .i64 tk, .string S0, .int .i64 tl, .int .i64 tc] 81)).drew) := (Zq w _).drew
 have HT : xQ ((w.alloc (.cells #[.int .i64 tk, .string S0, .int .i64 tl, .int .i64 tc] 81)).drew.heap[w.heap.size]? = some (.cells #[.int .i64 tk, .string S0, .int .i64 tl, .int .i64 tc] 81)) := xL _ _
 generalize (w.alloc (.cells #[.int .i64 tk, .string S0, .int .i64 tl, .int .i64 tc] 81)).drew = W1 at HB HT ⊢
 clear Qf Y7 HS
 obtain ⟨⟨t0, t1, t2, t3⟩, _, Dn⟩ := Z6 HT.o
 have hE := HE.o _ HB.o
 have Zz : xQ (r = (es == 0 && ((tk == 2 || tk == 5) && (S0.toList == S1.toList)))) := by rw [<- HQ.o]; exact HR.o
 clear HR HQ
 cases he : (es == 0) with
 | false =>
  obtain rfl : r = false := by rw [Zz.o, he]; rfl
  go_wp2_with fail;go_ret;exact ⟨rfl, HB.o⟩
 | true =>
  cases Mq : (tk == 2) with
  | true =>
   obtain rfl : r = (S0.toList == S1.toList) := by rw [Zz.o, he, Mq]; rfl
   go_wp2_with fail;go_ret;exact ⟨rfl, HB.o⟩
  | false =>
   cases Hf : (tk == 5) with
   | true =>
    obtain rfl : r = (S0.toList == S1.toList) := by rw [Zz.o, he, Mq, Hf]; rfl
    go_wp2_with fail;go_ret;exact ⟨rfl, HB.o⟩
   | false =>
    obtain rfl : r = false := by rw [Zz.o, he, Mq, Hf]; rfl
    go_wp2_with fail;go_ret;exact ⟨rfl, HB.o⟩
def Zj {α : Type} (K : Nat -> Pr α) : Ya -> Pr α
 | .inl a => K a
 | .inr p => .inr p
def Zf {α : Type} : Pr α -> Ya
 | .inl (_, b) => .inl b
 | .inr p => .inr p
def Ph : Ya -> Ya
 | .inl a => .inl (a + 1)
 | .inr p => .inr p
def Di (ts : List Tok) (e : Int) : Ya -> Ya
 | .inl a => .inr (e, (Zk ts a).line, (Zk ts a).col)
 | .inr p => .inr p
def Z2 (w : World) (pb tb cap : Nat) (ts : List Tok) (d : Nat) (S : Ya) : Prop := ∃ a, Qb w pb tb cap ts d S a
theorem Z2.below {w w1 : World} {pb tb cap d : Nat} {ts : List Tok} {S : Ya} (h : Z2 w pb tb cap ts d S) (hb : Below w.heap.size w w1) : Z2 w1 pb tb cap ts d S := by
 obtain ⟨a, h⟩ := h
 exact ⟨a, h.below hb⟩
section
variable {w : World} {pb tb cap a b d : Nat} {ts : List Tok}
theorem Qb.setAt (h : Qb w pb tb cap ts d (.inl a) a) (hb : b < ts.length) : Qb (w.setCell ⟨pb, 1, none⟩ (.int .i64 b)) pb tb cap ts d (.inl b) b :=
 ⟨Xe h.blk, hb, (fun _ e => Sum.inl.inj e.symm), (fun _ e => nomatch e), h.tlt, Qk h.toks (xH (by show tb ≠ pb; have := h.tlt; omega))⟩
theorem Qb.setDeep {S : Ya} (h : Qb w pb tb cap ts d S a) (n : Nat) : Qb (w.setCell ⟨pb, 2, none⟩ (.int .i64 n)) pb tb cap ts n S a :=
 ⟨Xe h.blk, h.lt, h.live, h.bad, h.tlt, Qk h.toks (xH (by show tb ≠ pb; have := h.tlt; omega))⟩
theorem Qb.failed (h : Qb w pb tb cap ts d (.inl a) a) {e : Int} (he : e ≠ 0) (l c : Nat) : Qb (((w.setCell ⟨pb, 3, none⟩ (.int .i64 e)).setCell ⟨pb, 4, none⟩ (.int .i64 l)).setCell ⟨pb, 5, none⟩ (.int .i64 c)) pb tb cap ts d (.inr (e, l, c)) a := by
 have Z3 : tb ≠ pb := by have := h.tlt; omega
 have h3 := Xe (o := 3) (u := .int .i64 e) h.blk
 have h4 := Xe (o := 4) (u := .int .i64 l) h3
 have h5 := Xe (o := 5) (u := .int .i64 c) h4
 refine ⟨by simpa [eS, lS, cS] using h5, h.lt, (fun _ e => nomatch e), (fun p hp => ?_), h.tlt, Qk h.toks ?_⟩
 ·obtain rfl := Sum.inr.inj hp
  exact he
 ·rw [xH Z3, xH Z3, xH Z3]
end
theorem Wq (pb tb cap d : Nat) (ts : List Tok) (S : Ya) (s : List UInt8) (w : World) (h : Z2 w pb tb cap ts d S) (ok : Yh ts) :
  Calls prog 31 #[pP pb, .string ⟨s.toArray⟩] w fun e w' => e = .returned (.bool (Yw ts S s)) /\ Zl pb w w' /\ Z2 w' pb tb cap ts d (if Yw ts S s then Ph S else S) := by
 obtain ⟨a, h⟩ := h
 have HC := Za (sE pb tb cap a d ts S s w h)
 have H := Za h
 have OK := Za ok
 clear h ok
 cases hq : Yw ts S s with
 | false =>
  rw [hq] at HC;clear hq;go_enter func31, ntmps31;go_wp2_with fail;refine HC.o.mono ?_;rintro e w1 ⟨rfl, Zt⟩;have HB := Za Zt;clear Zt;go_wp2_with fail;go_ret;exact ⟨rfl, Zl.of H.o.ltp HB.o, a, H.o.below HB.o⟩
 | true =>
  have hS : S = .inl a /\ a + 1 < ts.length := by
   cases S with
   | inr p => cases hq
   | inl b =>
    have e := H.o.live b rfl;subst e;exact ⟨rfl, Q4 OK.o.ends H.o.lt hq⟩
  obtain ⟨rfl, Na⟩ := hS;rw [hq] at HC;clear hq
  have ha9 : a < 8193 := by have := OK.o.len; omega
  go_enter func31, ntmps31;go_wp2_with fail;refine HC.o.mono ?_;rintro e w1 ⟨rfl, Zt⟩;have H1 := Za (H.o.below Zt);have HS := Za (Zl.of H.o.ltp Zt);clear Zt;obtain ⟨⟨c0, c1, c2, c3, c4, c5⟩, f1, f2, f3, f4, f5⟩ := H1.o.cells;go_wp2_with fail;go_ret;exact ⟨rfl, HS.o.set 1 _, a + 1, H1.o.setAt (b := a + 1) Na⟩
theorem Ry (pb tb cap d : Nat) (ts : List Tok) (S : Ya) (e : Int) (he : e ≠ 0) (w : World) (h : Z2 w pb tb cap ts d S) :
  Calls prog 38 #[pP pb, .int .i64 e] w fun r w' => r = .returned (.tuple #[]) /\ Zl pb w w' /\ Z2 w' pb tb cap ts d (Di ts e S) := by
 obtain ⟨a, h⟩ := h
 have H := Za h
 obtain ⟨⟨c0, c1, c2, c3, c4, c5⟩, f1, f2, f3, f4, f5⟩ := h.cells
 obtain ⟨q0, q1, q2, q3⟩ := h.toks a h.lt
 have Na : (a : Int) < (ts.length : Int) := by have := h.lt; omega
 have Xc := h.ltp
 have Vd := Nat.lt_trans h.tlt h.ltp
 have Z3 : ¬ tb = pb := by have := h.tlt; omega
 cases S with
 | inr p =>
  have Uo : (p.1 == 0) = false := by have := h.bad p rfl; simpa using this
  simp only [eS, lS, cS] at c3 c4 c5;clear h;go_enter func38, ntmps38;go_wp2_with fail
  go_end0
  exact ⟨rfl, Zl.refl _ _, a, H.o⟩
 | inl b =>
  have e1 := h.live b rfl;subst e1;simp only [eS, lS, cS] at c3 c4 c5;clear h;go_enter func38, ntmps38;go_wp2_with fail;go_region
  all_goals
   go_wp2_with fail;go_region
   all_goals
    go_wp2_with fail
    go_end0
    exact ⟨rfl, ((((Zl.refl pb w).set 3 _).set 4 _).set 5 _).drew.drew, b, ((H.o.failed he _ _).drew).drew⟩
theorem Ua (pb tb cap d : Nat) (ts : List Tok) (S : Ya) (s : List UInt8) (w : World) (h : Z2 w pb tb cap ts d S) (ok : Yh ts) :
  Calls prog 33 #[pP pb, .string ⟨s.toArray⟩] w fun r w' => r = .returned (.tuple #[]) /\ Zl pb w w' /\ Z2 w' pb tb cap ts d (Zf (Zj (fun a => Ze ts a s) S)) := by
 have HC := Za (Wq pb tb cap d ts S s w h ok)
 have hS : Zf (Zj (fun a => Ze ts a s) S) = if Yw ts S s then Ph S else Di ts 7 S := by
  cases S with
  | inr p => rfl
  | inl a =>
   show Zf (if Zh ts a s then _ else _) = if Zh ts a s then _ else _
   cases Zh ts a s <;> rfl
 rw [hS]
 clear h ok hS
 cases hq : Yw ts S s with
 | true =>
  rw [hq, if_pos rfl] at HC;clear hq;go_enter func33, ntmps33;go_wp2_with fail;refine HC.o.mono ?_;rintro e w1 ⟨rfl, Zb, Zd⟩;have HF := Za (And.intro Zb Zd);clear Zb Zd;go_wp2_with fail
  go_end0
  exact ⟨rfl, HF.o.1, HF.o.2⟩
 | false =>
  rw [hq, if_neg (by simp)] at HC;clear hq;go_enter func33, ntmps33;go_wp2_with fail;refine HC.o.mono ?_;rintro e w1 ⟨rfl, Zb, Zd⟩;have HF := Za (And.intro Zb Zd);clear Zb Zd;go_wp2_with fail;refine (Ry pb tb cap d ts S 7 (by decide) w1 HF.o.2).mono ?_;rintro e w2 ⟨rfl, Zb, Zd⟩;have HG := Za (And.intro (HF.o.1.trans Zb) Zd);clear Zb Zd;go_wp2_with fail
  go_end0
  exact ⟨rfl, HG.o.1, HG.o.2⟩
def Wm : Pr (List UInt8) -> List UInt8
 | .inl (s, _) => s
 | .inr _ => []
theorem L3 (pb tb cap d : Nat) (ts : List Tok) (S : Ya) (w : World) (h : Z2 w pb tb cap ts d S) (ok : Yh ts) :
  Calls prog 32 #[pP pb] w fun r w' => r = .returned (.string ⟨(Wm (Zj (Zr ts) S)).toArray⟩) /\ Zl pb w w' /\ Z2 w' pb tb cap ts d (Zf (Zj (Zr ts) S)) := by
 obtain ⟨a, h⟩ := h
 have H := Za h
 have OK := Za ok
 obtain ⟨⟨c0, c1, c2, c3, c4, c5⟩, f1, f2, f3, f4, f5⟩ := h.cells
 obtain ⟨q0, q1, q2, q3⟩ := h.toks a h.lt
 have Na : (a : Int) < (ts.length : Int) := by have := h.lt; omega
 have Xc := h.ltp
 have Vd := Nat.lt_trans h.tlt h.ltp
 have hS : (∃ b, S = .inl b /\ b = a) ∨ ∃ p, S = .inr p /\ (p.1 == 0) = false := by
  cases S with
  | inl b => exact .inl ⟨b, rfl, h.live b rfl⟩
  | inr p => exact .inr ⟨p, rfl, by have := h.bad p rfl; simpa using this⟩
 obtain ⟨t, ht⟩ := xE (Zk ts a)
 rw [<- ht] at q0 q1 q2 q3
 obtain ⟨es, Hd⟩ := xE (eS S)
 rw [<- Hd] at c3
 have Js := Za Hd
 have HT := Za ht
 clear ht Hd
 have HS : xQ (∀ W, Below w.heap.size w W -> W.cell? ⟨pb, 0, none⟩ = some (.slice (some ⟨tb, 0, none⟩) ts.length cap) /\ W.cell? ⟨pb, 1, none⟩ = some (.int .i64 a) /\ W.cell? ⟨tb, a * 4, none⟩ = some (.int .i64 t.kind) /\ W.cell? ⟨tb, a * 4 + 1, none⟩ = some (.string ⟨t.text.toArray⟩) /\ W.cell? ⟨tb, a * 4 + 2, none⟩ = some (.int .i64 t.line) /\ W.cell? ⟨tb, a * 4 + 3, none⟩ = some (.int .i64 t.col)) := fun W hW =>
  ⟨(hW.cell (p := ⟨pb, 0, none⟩) Xc).trans c0, (hW.cell (p := ⟨pb, 1, none⟩) Xc).trans c1, (hW.cell (p := ⟨tb, a * 4, none⟩) Vd).trans q0, (hW.cell (p := ⟨tb, a * 4 + 1, none⟩) Vd).trans q1, (hW.cell (p := ⟨tb, a * 4 + 2, none⟩) Vd).trans q2, (hW.cell (p := ⟨tb, a * 4 + 3, none⟩) Vd).trans q3⟩
 have Qf := HS.o w.drew (Below.refl _ _).drew
 have Y7 : xQ (∀ o, _) := fun o => HS.o ((w.alloc o).drew) (Zq w o).drew
 obtain ⟨R, hR⟩ := xE (Zj (Zr ts) S)
 rw [<- hR]
 have HR := Za hR
 have Ub := Za hS
 clear c0 c1 c2 c3 c4 c5 q0 q1 q2 q3 h ok hR hS f1 f2 f3 f4 f5
 go_enter func32, ntmps32
 go_wp2_with fail
 go_region_held (fun W => W.cell? ⟨pb, 0, none⟩ = some (.slice (some ⟨tb, 0, none⟩) ts.length cap) /\ W.cell? ⟨pb, 1, none⟩ = some (.int .i64 a) /\ W.cell? ⟨tb, a * 4, none⟩ = some (.int .i64 t.kind) /\ W.cell? ⟨tb, a * 4 + 1, none⟩ = some (.string ⟨t.text.toArray⟩) /\ W.cell? ⟨tb, a * 4 + 2, none⟩ = some (.int .i64 t.line) /\ W.cell? ⟨tb, a * 4 + 3, none⟩ = some (.int .i64 t.col)) (first | with_reducible assumption | with_reducible exact Y7.o _) (fail)
 have HB : xQ (Below w.heap.size w (w.alloc (Zp t)).drew) := (Zq w _).drew
 have HTb : xQ ((w.alloc (Zp t)).drew.heap[w.heap.size]? = some (Zp t)) := xL _ _
 generalize (w.alloc (Zp t)).drew = W1 at HB HTb ⊢
 clear Qf Y7 HS
 have H1 := Za (H.o.below HB.o)
 obtain ⟨⟨t0, t1, t2, t3⟩, _, Dn⟩ := Z6 HTb.o
 obtain ⟨⟨c0, c1, c2, c3, c4, c5⟩, f1, f2, f3, f4, f5⟩ := H1.o.cells
 rw [<- Js.o] at c3
 rcases Ub.o with ⟨b, Qg, rfl⟩ | ⟨p, hSp, Uo⟩
 ·obtain rfl : es = 0 := by rw [Js.o, Qg]; rfl
  have Yr : xQ (R = if t.kind == 1 then .inl (t.text, b + 1) else Wa ts 7 b) := by rw [HR.o, Qg, HT.o]; exact rfl
  have HSb := Za Qg;clear Qg c4 c5
  cases hk : (t.kind == 1) with
  | true =>
   have Z8 : b + 1 < ts.length := by
    have := jS OK.o.ends H1.o.lt;unfold Zr at this;rw [<- HT.o, hk] at this;exact this
   have hb9 : b < 8193 := by have := OK.o.len; omega
   have HRi : xQ (R = .inl (t.text, b + 1)) := by rw [Yr.o, hk]; rfl
   go_wp2_with fail;go_ret;rw [HRi.o];have h2 := H1.o;rw [HSb.o] at h2;exact ⟨rfl, (Zl.of H.o.ltp HB.o).set 1 _, b + 1, h2.setAt (b := b + 1) Z8⟩
  | false =>
   have HRi : xQ (R = Wa ts 7 b) := by rw [Yr.o, hk]; rfl
   go_wp2_with fail;refine (Ry pb tb cap d ts S 7 (by decide) W1 ⟨_, H1.o⟩).mono ?_;rintro e w2 ⟨rfl, Zb, Zd⟩;have HG := Za (And.intro ((Zl.of H.o.ltp HB.o).trans Zb) Zd);clear Zb Zd;go_wp2_with fail;go_ret;rw [HRi.o];have h2 := HG.o.2;rw [HSb.o] at h2;exact ⟨rfl, HG.o.1, h2⟩
 ·have : es = p.1 := by rw [Js.o, hSp]; rfl
  rw [<- this] at Uo
  have HRi : xQ (R = .inr p) := by rw [HR.o, hSp]; rfl
  have HSp := Za hSp;clear hSp this c4 c5;go_wp2_with fail;refine (Ry pb tb cap d ts S 7 (by decide) W1 ⟨_, H1.o⟩).mono ?_;rintro e w2 ⟨rfl, Zb, Zd⟩;have HG := Za (And.intro ((Zl.of H.o.ltp HB.o).trans Zb) Zd);clear Zb Zd;go_wp2_with fail;go_ret;rw [HRi.o];have h2 := HG.o.2;rw [HSp.o] at h2;exact ⟨rfl, HG.o.1, h2⟩
def Lq (d : Nat) : Ya -> Bool
 | .inl _ => decide (d < 100)
 | .inr _ => false
def P5 (ts : List Tok) (d : Nat) (S : Ya) : Ya := if 100 <= d then Di ts 6 S else S
theorem yC (pb tb cap d : Nat) (ts : List Tok) (S : Ya) (hd : d <= 1000) (w : World) (h : Z2 w pb tb cap ts d S) :
  Calls prog 79 #[pP pb] w fun r w' => r = .returned (.bool (Lq d S)) /\ Zl pb w w' /\ Z2 w' pb tb cap ts (if Lq d S then d + 1 else d) (P5 ts d S) := by
 obtain ⟨a, h⟩ := h
 have H := Za h
 obtain ⟨⟨c0, c1, c2, c3, c4, c5⟩, f1, f2, f3, f4, f5⟩ := h.cells
 by_cases Pb : 100 <= d
 ·have hge : (100 : Int) <= (d : Int) := by omega
  have e1 : P5 ts d S = Di ts 6 S := if_pos Pb
  have e2 : Lq d S = false := by cases S <;> simp [Lq]; omega
  have e3 : ∀ w', Z2 w' pb tb cap ts d (Di ts 6 S) -> ∃ a x l c, Qb w' pb tb cap ts d (.inr (x, l, c)) a /\ (x == 0) = false /\ Di ts 6 S = .inr (x, l, c) := by
   rintro w' ⟨a, hr⟩
   cases hf : Di ts 6 S with
   | inl b => cases S <;> cases hf
   | inr p =>
    rw [hf] at hr;obtain ⟨x, l, c⟩ := p;exact ⟨a, x, l, c, hr, by have := hr.bad _ rfl; simpa using this, rfl⟩
  rw [e1, e2, if_neg (by simp)];have HF := Za e3;clear e1 e2 e3 h;go_enter func79, ntmps79;go_wp2_with fail;refine (Ry pb tb cap d ts S 6 (by decide) w ⟨_, H.o⟩).mono ?_;rintro e w2 ⟨rfl, Zb, Zd⟩;obtain ⟨b, x, l, c, hr, hx, he⟩ := HF.o w2 Zd;have HG := Za (And.intro Zb Zd);obtain ⟨⟨g0, g1, g2, g3, g4, g5⟩, _⟩ := hr.cells;simp only [eS] at g3;clear Zb Zd hr he;go_wp2_with fail;go_ret;exact ⟨rfl, HG.o.1, HG.o.2⟩
 ·have Zo : ¬ (100 : Int) <= (d : Int) := by omega
  have e1 : P5 ts d S = S := if_neg Pb;rw [e1];clear e1
  cases S with
  | inr p =>
   have Uo : (p.1 == 0) = false := by have := h.bad p rfl; simpa using this
   simp only [eS] at c3
   show Calls _ _ _ _ fun r w' => r = .returned (.bool false) /\ Zl pb w w' /\ Z2 w' pb tb cap ts d (.inr p)
   clear h;go_enter func79, ntmps79;go_wp2_with fail;go_ret;exact ⟨rfl, Zl.refl _ _, a, H.o⟩
  | inl b =>
   have e2 : Lq d (.inl b) = true := by simp [Lq]; omega
   rw [e2, if_pos rfl];simp only [eS] at c3;clear h e2;go_enter func79, ntmps79;go_wp2_with fail;go_ret;exact ⟨rfl, (Zl.refl _ _).set 2 _, a, H.o.setDeep (d + 1)⟩
end Go.Proofs.YtfoejkhfdiodhaaGreatDoor
namespace Go.Proofs.YtfoejkhfdiodhaaGreatDoor
open Go.Proofs.Tryz
open Go.RowKit
attribute [local go_sem ↓] Go.wp_at_zero Go.wp_at_succ
def Bd (lo : Nat) (w : World) (v : Value) (R : Pr Ty) : Prop := ∀ x b, R = .inl (x, b) -> Yb lo w v x
section
variable {lo lo' pb b o : Nat} {w w' : World} {v : Value} {R : Pr Ty}
theorem Bd.keep (h : Bd lo w v R) (hs : w.heap.size <= w'.heap.size) (hk : ∀ b, lo <= b -> b < w.heap.size -> w'.heap[b]? = w.heap[b]?) : Bd lo w' v R := fun x b e => (h x b e).keep hs hk
theorem Bd.lower (h : Bd lo w v R) (hl : lo' <= lo) : Bd lo' w v R := fun x b e => (h x b e).lower hl
theorem Bd.stay (h : Bd lo w v R) (hs : Zl pb w w') (hp : pb < lo) : Bd lo w' v R := fun x b e => (h x b e).stay hs hp
theorem Bd.alloc (h : Bd lo w v R) (o : Obj) : Bd lo (w.alloc o) v R := fun x b e => (h x b e).alloc o
end
def Pq (pb tb cap : Nat) (ts : List Tok) (d : Nat) (w : World) (R : Pr Ty) (e : Ending) (w' : World) : Prop :=
 Zl pb w w' /\ Z2 w' pb tb cap ts d (Zf R) /\ ∃ (k : Int) (nm : ByteArray) (na : Option Addr) (nl nc : Nat) (ka : Option Addr) (kl kc : Nat), e = .returned (.agg #[.int .i64 k, .string nm, .slice na nl nc, .slice ka kl kc]) /\ Bd w.heap.size w' (.agg #[.int .i64 k, .string nm, .slice na nl nc, .slice ka kl kc]) R
theorem Z2.alloc {w : World} {pb tb cap d : Nat} {ts : List Tok} {S : Ya} (h : Z2 w pb tb cap ts d S) (o : Obj) : Z2 (w.alloc o) pb tb cap ts d S := h.below (Zq _ _)
theorem Z2.drew {w : World} {pb tb cap d : Nat} {ts : List Tok} {S : Ya} (h : Z2 w pb tb cap ts d S) : Z2 w.drew pb tb cap ts d S := h.below (Below.refl _ _).drew
theorem Z2.ltp {w : World} {pb tb cap d : Nat} {ts : List Tok} {S : Ya} (h : Z2 w pb tb cap ts d S) : pb < w.heap.size := by
 obtain ⟨a, h⟩ := h
 exact h.ltp
theorem Z2.other {w : World} {pb tb cap d b : Nat} {ts : List Tok} {S : Ya} (h : Z2 w pb tb cap ts d S) (hb : pb < b) (o : Nat) (u : Value) : Z2 (w.setCell ⟨b, o, none⟩ u) pb tb cap ts d S := by
 obtain ⟨a, h⟩ := h
 exact ⟨a, (xH (by show pb ≠ b; omega)).trans h.blk, h.lt, h.live, h.bad, h.tlt, Qk h.toks (xH (by show tb ≠ b; have := h.tlt; omega))⟩
theorem Z2.setDeep {w : World} {pb tb cap d : Nat} {ts : List Tok} {S : Ya} (h : Z2 w pb tb cap ts d S) (n : Nat) : Z2 (w.setCell ⟨pb, 2, none⟩ (.int .i64 n)) pb tb cap ts n S := by
 obtain ⟨a, h⟩ := h
 exact ⟨a, h.setDeep n⟩
theorem Z2.deep {w : World} {pb tb cap d : Nat} {ts : List Tok} {S : Ya} (h : Z2 w pb tb cap ts d S) : w.cell? ⟨pb, 2, none⟩ = some (.int .i64 d) /\ w.frozen? ⟨pb, 2, none⟩ = false := by
 obtain ⟨a, h⟩ := h
 exact ⟨h.cells.1.2.2.1, h.cells.2.2.1⟩
structure RX (pb tb cap : Nat) (ts : List Tok) (w0 w : World) (d : Nat) (S : Ya) (bx : List (Nat × Obj)) : Prop where
 st : Zl pb w0 w
 at_ : Z2 w pb tb cap ts d S
 hp : pb < w0.heap.size
 has : ∀ p ∈ bx, w.heap[p.1]? = some p.2 /\ w0.heap.size <= p.1
section
variable {pb tb cap d d' b : Nat} {ts : List Tok} {w0 w w' : World} {S S' : Ya} {bx : List (Nat × Obj)} {o : Obj}
theorem Lc (h : Z2 w0 pb tb cap ts d S) (o : Obj) : RX pb tb cap ts w0 (w0.alloc o) d S [(w0.heap.size, o)] :=
 ⟨Zl.of h.ltp (Zq _ _), h.alloc _, h.ltp, fun p hp => by rw [List.mem_singleton.1 hp]; exact ⟨xL _ _, xR⟩⟩
theorem RX.step (h : RX pb tb cap ts w0 w d S bx) (Zb : Zl pb w w') (Zd : Z2 w' pb tb cap ts d' S') : RX pb tb cap ts w0 w' d' S' bx :=
 ⟨h.st.trans Zb, Zd, h.hp, fun p hp => ⟨(Zb.keep p.1 (by have := (h.has p hp).2; have := h.hp; omega) (xB (h.has p hp).1)).trans (h.has p hp).1, (h.has p hp).2⟩⟩
theorem RX.alloc (h : RX pb tb cap ts w0 w d S bx) (o : Obj) : RX pb tb cap ts w0 (w.alloc o) d S ((w.heap.size, o) :: bx) := by
 have h1 := h.step (Zl.of h.at_.ltp (Zq w o)) (h.at_.alloc o)
 refine ⟨h1.st, h1.at_, h1.hp, fun p hp => ?_⟩
 rcases List.mem_cons.1 hp with rfl | hp
 ·exact ⟨xL _ _, h.st.size⟩
 ·exact h1.has p hp
theorem RX.drew (h : RX pb tb cap ts w0 w d S bx) : RX pb tb cap ts w0 w.drew d S bx := ⟨h.st.drew, h.at_.drew, h.hp, h.has⟩
theorem RX.deep (h : RX pb tb cap ts w0 w d S bx) (n : Nat) : RX pb tb cap ts w0 (w.setCell ⟨pb, 2, none⟩ (.int .i64 n)) n S bx :=
 ⟨h.st.set 2 _, h.at_.setDeep n, h.hp, fun p hp => ⟨(xH (by show p.1 ≠ pb; have := (h.has p hp).2; have := h.hp; omega)).trans (h.has p hp).1, (h.has p hp).2⟩⟩
theorem RX.box (h : RX pb tb cap ts w0 w d S bx) {p : Nat × Obj} (hp : p ∈ bx) : w.heap[p.1]? = some p.2 := (h.has p hp).1
end
theorem Z2.set4 {w : World} {pb tb cap d b : Nat} {ts : List Tok} {S : Ya} (h : Z2 w pb tb cap ts d S) (hb : pb < b) (x0 x1 x2 x3 : Value) : Z2 ((((w.setCell ⟨b, 0, none⟩ x0).setCell ⟨b, 1, none⟩ x1).setCell ⟨b, 2, none⟩ x2).setCell ⟨b, 3, none⟩ x3) pb tb cap ts d S :=
 (((h.other hb 0 _).other hb 1 _).other hb 2 _).other hb 3 _
theorem rkids2 {lo g : Nat} {w : World} {a0 a1 a2 a3 e0 e1 e2 e3 : Value} {D1 D2 : Ty} {ty : TypeId} (h1 : Yb lo w (.agg #[a0, a1, a2, a3]) D1) (h2 : Yb lo w (.agg #[e0, e1, e2, e3]) D2) (hg : w.heap[g]? = some (.cells #[a0, a1, a2, a3, e0, e1, e2, e3] ty)) (hl : lo <= g) : ∃ m, Ut w lo m (some ⟨g, 0, none⟩) [D1, D2] := by
 obtain ⟨m1, h1⟩ := h1
 obtain ⟨m2, h2⟩ := h2
 refine ⟨max m1 m2, .inr ⟨g, 0, rfl, hl, ⟨_, _, hg⟩, fun i hi => ?_⟩⟩
 match i, hi with
 | 0, _ => exact ⟨a0, a1, a2, a3, by rw [cell_of_row _ _ _ _ _ _ hg]; rfl, by rw [cell_of_row _ _ _ _ _ _ hg]; rfl, by rw [cell_of_row _ _ _ _ _ _ hg]; rfl, by rw [cell_of_row _ _ _ _ _ _ hg]; rfl, Gg h1 (Nat.le_max_left _ _)⟩
 | 1, _ => exact ⟨e0, e1, e2, e3, by rw [cell_of_row _ _ _ _ _ _ hg]; rfl, by rw [cell_of_row _ _ _ _ _ _ hg]; rfl, by rw [cell_of_row _ _ _ _ _ _ hg]; rfl, by rw [cell_of_row _ _ _ _ _ _ hg]; rfl, Gg h2 (Nat.le_max_right _ _)⟩
theorem yH {lo : Nat} {w : World} {k : Int} {ka : Option Addr} {kc m : Nat} {ks : List Ty} (hk : (Lit.int .i64 k).wf = true) (h : Ut w lo m ka ks) (hc : ks.length <= kc) (hl : ks.length <= 100000) : Yb lo w (.agg #[.int .i64 k, .string ⟨#[]⟩, .slice none 0 0, .slice ka ks.length kc]) (Yq k [] [] ks) :=
 ⟨m + 1, k, ⟨#[]⟩, none, 0, ka, kc, [], ks, rfl, rfl, hk, by decide, (fun _ h => nomatch h), ⟨xR, xZ _⟩, ⟨hc, Nat.le_trans hl (by decide)⟩, .inl rfl, h⟩
theorem Eu (d : Nat) : ((d + 1 : Nat) : Int) - 1 = (d : Int) := by omega
theorem dN (pb tb cap d : Nat) (ts : List Tok) (ok : Yh ts) (A K : Nat -> Pr Ty) (hd : d <= 1000)
  (hA : d < 100 -> ∀ S w, Z2 w pb tb cap ts (d + 1) S -> Calls prog 120 #[pP pb] w (Pq pb tb cap ts (d + 1) w (Zj A S)))
  (hK : d < 100 -> ∀ S w, Z2 w pb tb cap ts (d + 1) S -> Calls prog 77 #[pP pb] w (Pq pb tb cap ts (d + 1) w (Zj K S)))
  (S : Ya) (w : World) (h : Z2 w pb tb cap ts d S) :
  Calls prog 77 #[pP pb] w (Pq pb tb cap ts d w (Zj (fun a => if 100 <= d then Wa ts 6 a else (A a).go fun t a => if Zh ts a [45, 62] then (K (a + 1)).go fun r a => .inl (Yq 6 [] [] [t, r], a) else .inl (t, a)) S)) := by
 obtain ⟨R, hR⟩ : ∃ R : Pr Ty, R = Zj (fun a => if 100 <= d then Wa ts 6 a else (A a).go fun t a => if Zh ts a [45, 62] then (K (a + 1)).go fun r a => .inl (Yq 6 [] [] [t, r], a) else .inl (t, a)) S := ⟨_, rfl⟩
 rw [<- hR]
 have HR := Za hR
 have HA := Za hA
 have HK := Za hK
 have OK := Za ok
 have X0 := Za (Lc h Xt)
 have Tv := Za (fun wx hx => yC pb tb cap d ts S hd wx hx)
 clear h hA hK ok hR
 cases Vv : Lq d S with
 | false =>
  have HS : xQ (Zf R = P5 ts d S /\ ∀ x b, R ≠ .inl (x, b)) := by
   show _ /\ _;rw [HR.o]
   cases S with
   | inr p =>
    refine ⟨?_, fun x b e => by cases e⟩;show Sum.inr p = P5 ts d (.inr p);unfold P5
    split <;> rfl
   | inl a =>
    have Pb : 100 <= d := by simp [Lq] at Vv; exact Vv
    refine ⟨?_, fun x b e => ?_⟩
    ·show Zf (if 100 <= d then _ else _) = P5 ts d (.inl a)
     unfold P5;rw [if_pos Pb, if_pos Pb];rfl
    ·have : (if 100 <= d then (Wa ts 6 a : Pr Ty) else _) = .inl (x, b) := e
     rw [if_pos Pb] at this;cases this
  rw [Vv] at Tv;clear Vv;go_enter func77, ntmps77;go_wp2_with fail;refine (Tv.o _ X0.o.at_).mono ?_;rintro e w1 ⟨rfl, Zb, Zd⟩;have X1 := Za (X0.o.step Zb Zd);clear Zb Zd;obtain ⟨⟨r0, r1, r2, r3⟩, ⟨f0, f1, f2, f3⟩, Xu⟩ := Z6 (X1.o.box (p := (w.heap.size, Xt)) (by simp));go_wp2_with fail;refine r42 rfl rfl (set4 (X1.o.box (p := (w.heap.size, Xt)) (by simp)) _ _ _ _) rfl ⟨Ta X1.o.st X1.o.hp (xR) _ _ _ _, ?_, 0, ⟨#[]⟩, none, 0, 0, none, 0, 0, rfl, fun x b e => absurd e (HS.o.2 x b)⟩
  rw [HS.o.1];exact X1.o.at_.set4 X1.o.hp _ _ _ _
 | true =>
  obtain ⟨a, rfl⟩ : ∃ a, S = .inl a := by cases S with
   | inl a => exact ⟨a, rfl⟩
   | inr p => cases Vv
  have Pb : ¬ 100 <= d := by simp [Lq] at Vv; omega
  replace HA := Za (HA.o (by omega));replace HK := Za (HK.o (by omega))
  have HRl : xQ (R = (A a).go fun t a => if Zh ts a [45, 62] then (K (a + 1)).go fun r a => .inl (Yq 6 [] [] [t, r], a) else .inl (t, a)) := by rw [HR.o]; exact if_neg Pb
  have e1 : P5 ts d (.inl a) = .inl a := if_neg Pb;rw [Vv, e1] at Tv;clear Vv e1 HR;go_enter func77, ntmps77;go_wp2_with fail;refine (Tv.o _ X0.o.at_).mono ?_;rintro e w1 ⟨rfl, Zb, Zd⟩;have X1 := Za (X0.o.step Zb Zd);clear Zb Zd;go_wp2_with fail;refine (HA.o _ _ X1.o.at_).mono ?_;rintro e w2 ⟨Zb, Zd, k1, nm1, na1, nl1, nc1, ka1, kl1, kc1, rfl, hv⟩;have X2 := Za (X1.o.step Zb Zd);have M2 := Za hv
  clear Zb Zd hv;obtain ⟨R1, Xb⟩ := xE (A a);have Yk := Za Xb;have e2 : Zj A (.inl a) = R1 := Xb.symm;rw [e2] at X2 M2
  have F9 : xQ (R = R1.go fun t a => if Zh ts a [45, 62] then (K (a + 1)).go fun r a => .inl (Yq 6 [] [] [t, r], a) else .inl (t, a)) := by rw [Yk.o]; exact HRl.o
  clear Xb e2 HRl X0;have X3 := Za (X2.o.alloc (Z5 k1 nm1 na1 nl1 nc1 ka1 kl1 kc1))
  have HV : xQ (∀ wz, w2.heap.size <= wz.heap.size -> (∀ b, w.heap.size + 1 <= b -> b < w2.heap.size -> wz.heap[b]? = w2.heap[b]?) -> Bd (w.heap.size + 1) wz (.agg #[.int .i64 k1, .string nm1, .slice na1 nl1 nc1, .slice ka1 kl1 kc1]) R1) := fun wz h1 h2 => (M2.o.lower (xB (X1.o.box (p := (w.heap.size, Xt)) (by simp)))).keep h1 h2
  have Tw : xQ (∀ b, w.heap.size + 1 <= b -> b < w2.heap.size -> (w2.alloc (Z5 k1 nm1 na1 nl1 nc1 ka1 kl1 kc1)).heap[b]? = w2.heap[b]?) := fun b _ hl => xA hl
  have Z8 : w.heap.size < w2.heap.size := xB (X2.o.box (p := (w.heap.size, Xt)) (by simp));clear X1 X2 M2;go_wp2_with fail;generalize w2.alloc (Z5 k1 nm1 na1 nl1 nc1 ka1 kl1 kc1) = W3 at X3 Tw ⊢;generalize w2.heap.size = tb2 at X3 Z8 Tw HV ⊢;refine (Wq pb tb cap (d + 1) ts (Zf R1) [45, 62] W3 X3.o.at_ OK.o).mono ?_;rintro e w4 ⟨rfl, Zb, Zd⟩;have X4 := Za (X3.o.step Zb Zd);have hT3 := xB (X3.o.box (p := (tb2, Z5 k1 nm1 na1 nl1 nc1 ka1 kl1 kc1)) (by simp))
  have Ml : xQ (∀ b, w.heap.size + 1 <= b -> b < tb2 -> w4.heap[b]? = w2.heap[b]?) := fun b h1 h2 => (Zb.keep b (by have := X3.o.hp; omega) (by omega)).trans (Tw.o b h1 h2)
  clear Zb Zd X3 Tw hT3;obtain ⟨⟨r0, r1, r2, r3⟩, ⟨f0, f1, f2, f3⟩, Xu⟩ := Z6 (X4.o.box (p := (w.heap.size, Xt)) (by simp));obtain ⟨⟨t0, t1, t2, t3⟩, ⟨g0, g1, g2, g3⟩, Vd⟩ := Z6 (X4.o.box (p := (tb2, Z5 k1 nm1 na1 nl1 nc1 ka1 kl1 kc1)) (by simp));obtain ⟨Tr, hd2⟩ := X4.o.at_.deep;have hpw := X4.o.hp
  have Vq : ¬ tb2 = w.heap.size := by omega
  have Wl : ¬ pb = w.heap.size := by omega
  have Hi : ¬ pb = tb2 := by omega
  have hdk : ((d + 1 : Nat) : Int) - 1 = (d : Int) := Eu d
  cases hs : Yw ts (Zf R1) [45, 62] with
  | false =>
   rw [hs, if_neg (by simp)] at X4
   have HE : xQ (R = R1) := by
    show _ = _;rw [F9.o]
    cases R1 with
    | inr p => rfl
    | inl q =>
     show (if Zh ts q.2 [45, 62] then _ else _) = _;rw [show Zh ts q.2 [45, 62] = false from hs];rfl
   clear hs;go_wp2_with fail;have XD := X4.o.deep d;rw [HE.o];refine r42 rfl rfl (set4 (XD.box (p := (w.heap.size, Xt)) (by simp)) _ _ _ _) rfl ⟨Ta XD.st XD.hp (xR) _ _ _ _, XD.at_.set4 XD.hp _ _ _ _, k1, nm1, na1, nl1, nc1, ka1, kl1, kc1, rfl, ?_⟩;refine (HV.o _ (by simp only [Ye]; omega) fun b h1 h2 => ?_).lower (by omega);exact (Xs (by omega) _ _ _ _).trans ((xH (by show b ≠ pb; omega)).trans (Ml.o b h1 h2))
  | true =>
   rw [hs, if_pos rfl] at X4
   obtain ⟨D1, b1, Xb⟩ : ∃ D1 b1, R1 = .inl (D1, b1) := by
    cases R1 with
    | inr p => cases hs
    | inl q => exact ⟨q.1, q.2, rfl⟩
   have Zz : xQ (R = (K (b1 + 1)).go fun r a => .inl (Yq 6 [] [] [D1, r], a)) := by
    rw [F9.o, Xb];show (if Zh ts b1 [45, 62] then _ else _) = _;rw [Xb] at hs;rw [show Zh ts b1 [45, 62] = true from hs];rfl
   have HV1 : xQ (∀ wz, tb2 <= wz.heap.size -> (∀ b, w.heap.size + 1 <= b -> b < tb2 -> wz.heap[b]? = w2.heap[b]?) -> Yb (w.heap.size + 1) wz (.agg #[.int .i64 k1, .string nm1, .slice na1 nl1 nc1, .slice ka1 kl1 kc1]) D1) := fun wz h1 h2 => HV.o wz h1 h2 _ _ Xb
   have e3 : Ph (Zf R1) = .inl (b1 + 1) := by rw [Xb]; rfl
   rw [e3] at X4;clear hs Xb e3 F9 Yk HV r0 r1 r2 r3 f0 f1 f2 f3 Xu t0 t1 t2 t3 g0 g1 g2 g3 Vd Tr hd2;obtain ⟨R2, Uc⟩ := xE (K (b1 + 1))
   have HRe : xQ (R = R2.go fun r a => .inl (Yq 6 [] [] [D1, r], a)) := by rw [Uc]; exact Zz.o
   have e4 : Zj K (.inl (b1 + 1)) = R2 := Uc.symm;have HC := Za (HK.o _ _ X4.o.at_);rw [e4] at HC;clear Uc e4 Zz;go_wp2_with fail;refine HC.o.mono ?_;rintro e w5 ⟨Zb, Zd, k2, nm2, na2, nl2, nc2, ka2, kl2, kc2, rfl, hv⟩;have X5 := Za (X4.o.step Zb Zd);have hT4 := xB (X4.o.box (p := (tb2, Z5 k1 nm1 na1 nl1 nc1 ka1 kl1 kc1)) (by simp))
   have HF5 : xQ (∀ b, w.heap.size + 1 <= b -> b < tb2 -> w5.heap[b]? = w2.heap[b]?) := fun b h1 h2 => (Zb.keep b (by omega) (by omega)).trans (Ml.o b h1 h2)
   have M3 : xQ (∀ wz, w5.heap.size <= wz.heap.size -> (∀ b, tb2 + 1 <= b -> b < w5.heap.size -> wz.heap[b]? = w5.heap[b]?) -> Bd (w.heap.size + 1) wz (.agg #[.int .i64 k2, .string nm2, .slice na2 nl2 nc2, .slice ka2 kl2 kc2]) R2) := fun wz h1 h2 => ((hv.lower (show tb2 + 1 <= w4.heap.size from hT4)).keep h1 h2).lower (by omega)
   clear Zb Zd hv HC X4 Ml hT4;obtain ⟨⟨r0, r1, r2, r3⟩, ⟨f0, f1, f2, f3⟩, Xu⟩ := Z6 (X5.o.box (p := (w.heap.size, Xt)) (by simp));obtain ⟨⟨t0, t1, t2, t3⟩, ⟨g0, g1, g2, g3⟩, Vd⟩ := Z6 (X5.o.box (p := (tb2, Z5 k1 nm1 na1 nl1 nc1 ka1 kl1 kc1)) (by simp));obtain ⟨Tr, hd2⟩ := X5.o.at_.deep;have Xc := X5.o.at_.ltp;have htl5 : tb2 < w5.heap.size := Vd;have hwl5 : w.heap.size < w5.heap.size := Xu;go_wp2_with fail
   have Uy : w5.heap[w.heap.size]? = some Xt := X5.o.box (p := (w.heap.size, Xt)) (by simp)
   have b2 : (((((w5.setCell ⟨tb2, 0, none⟩ (.int .i64 6)).setCell ⟨tb2, 1, none⟩ (.string ⟨#[]⟩)).setCell ⟨tb2, 2, none⟩ (.slice none 0 0)).setCell ⟨tb2, 3, none⟩ (.slice (some ⟨w5.heap.size + 1, 0, none⟩) 2 2)).setCell ⟨pb, 2, none⟩ (.int .i64 d)).heap[w.heap.size]? = some Xt :=
    (xH (by show w.heap.size ≠ pb; omega)).trans ((Xs (by omega) _ _ _ _).trans Uy)
   have Zb := (((Ta ((Ta X5.o.st hpw (show w.heap.size <= tb2 by omega) (.int .i64 6) (.string ⟨#[]⟩) (.slice none 0 0) (.slice (some ⟨w5.heap.size + 1, 0, none⟩) 2 2)).set 2 (.int .i64 d)) hpw (xR) (.int .i64 6) (.string ⟨#[]⟩) (.slice none 0 0) (.slice (some ⟨w5.heap.size + 1, 0, none⟩) 2 2)).alloc hpw (.cells #[.int .i64 k2, .string nm2, .slice na2 nl2 nc2, .slice ka2 kl2 kc2] 42)).alloc hpw (.cells #[.int .i64 k1, .string nm1, .slice na1 nl1 nc1, .slice ka1 kl1 kc1, .int .i64 k2, .string nm2, .slice na2 nl2 nc2, .slice ka2 kl2 kc2] 42))
   have Zd := ((((X5.o.at_.set4 (show pb < tb2 by omega) (.int .i64 6) (.string ⟨#[]⟩) (.slice none 0 0) (.slice (some ⟨w5.heap.size + 1, 0, none⟩) 2 2)).setDeep d).set4 hpw (.int .i64 6) (.string ⟨#[]⟩) (.slice none 0 0) (.slice (some ⟨w5.heap.size + 1, 0, none⟩) 2 2)).alloc (.cells #[.int .i64 k2, .string nm2, .slice na2 nl2 nc2, .slice ka2 kl2 kc2] 42)).alloc (.cells #[.int .i64 k1, .string nm1, .slice na1 nl1 nc1, .slice ka1 kl1 kc1, .int .i64 k2, .string nm2, .slice na2 nl2 nc2, .slice ka2 kl2 kc2] 42)
   have hbf := (Below.heap_alloc (((((((((((w5.setCell ⟨tb2, 0, none⟩ (.int .i64 6)).setCell ⟨tb2, 1, none⟩ (.string ⟨#[]⟩)).setCell ⟨tb2, 2, none⟩ (.slice none 0 0)).setCell ⟨tb2, 3, none⟩ (.slice (some ⟨w5.heap.size + 1, 0, none⟩) 2 2)).setCell ⟨pb, 2, none⟩ (.int .i64 d)).setCell ⟨w.heap.size, 0, none⟩ (.int .i64 6)).setCell ⟨w.heap.size, 1, none⟩ (.string ⟨#[]⟩)).setCell ⟨w.heap.size, 2, none⟩ (.slice none 0 0)).setCell ⟨w.heap.size, 3, none⟩ (.slice (some ⟨w5.heap.size + 1, 0, none⟩) 2 2))).alloc (.cells #[.int .i64 k2, .string nm2, .slice na2 nl2 nc2, .slice ka2 kl2 kc2] 42)) (.cells #[.int .i64 k1, .string nm1, .slice na1 nl1 nc1, .slice ka1 kl1 kc1, .int .i64 k2, .string nm2, .slice na2 nl2 nc2, .slice ka2 kl2 kc2] 42) w.heap.size (by rw [xS]; simp only [Ye]; omega)).trans ((Below.heap_alloc _ (.cells #[.int .i64 k2, .string nm2, .slice na2 nl2 nc2, .slice ka2 kl2 kc2] 42) w.heap.size (by simp only [Ye]; omega)).trans (set4 b2 (.int .i64 6) (.string ⟨#[]⟩) (.slice none 0 0) (.slice (some ⟨w5.heap.size + 1, 0, none⟩) 2 2)))
   have Yu := Ti ((((((((((w5.setCell ⟨tb2, 0, none⟩ (.int .i64 6)).setCell ⟨tb2, 1, none⟩ (.string ⟨#[]⟩)).setCell ⟨tb2, 2, none⟩ (.slice none 0 0)).setCell ⟨tb2, 3, none⟩ (.slice (some ⟨w5.heap.size + 1, 0, none⟩) 2 2)).setCell ⟨pb, 2, none⟩ (.int .i64 d)).setCell ⟨w.heap.size, 0, none⟩ (.int .i64 6)).setCell ⟨w.heap.size, 1, none⟩ (.string ⟨#[]⟩)).setCell ⟨w.heap.size, 2, none⟩ (.slice none 0 0)).setCell ⟨w.heap.size, 3, none⟩ (.slice (some ⟨w5.heap.size + 1, 0, none⟩) 2 2))) (.cells #[.int .i64 k2, .string nm2, .slice na2 nl2 nc2, .slice ka2 kl2 kc2] 42) (.cells #[.int .i64 k1, .string nm1, .slice na1 nl1 nc1, .slice ka1 kl1 kc1, .int .i64 k2, .string nm2, .slice na2 nl2 nc2, .slice ka2 kl2 kc2] 42)
   simp only [Ye] at Yu;generalize Zs : ((((((((((((w5.setCell ⟨tb2, 0, none⟩ (.int .i64 6)).setCell ⟨tb2, 1, none⟩ (.string ⟨#[]⟩)).setCell ⟨tb2, 2, none⟩ (.slice none 0 0)).setCell ⟨tb2, 3, none⟩ (.slice (some ⟨w5.heap.size + 1, 0, none⟩) 2 2)).setCell ⟨pb, 2, none⟩ (.int .i64 d)).setCell ⟨w.heap.size, 0, none⟩ (.int .i64 6)).setCell ⟨w.heap.size, 1, none⟩ (.string ⟨#[]⟩)).setCell ⟨w.heap.size, 2, none⟩ (.slice none 0 0)).setCell ⟨w.heap.size, 3, none⟩ (.slice (some ⟨w5.heap.size + 1, 0, none⟩) 2 2)).alloc (.cells #[.int .i64 k2, .string nm2, .slice na2 nl2 nc2, .slice ka2 kl2 kc2] 42)).alloc (.cells #[.int .i64 k1, .string nm1, .slice na1 nl1 nc1, .slice ka1 kl1 kc1, .int .i64 k2, .string nm2, .slice na2 nl2 nc2, .slice ka2 kl2 kc2] 42))) = Wf at Zb Zd hbf Yu ⊢
   have hsz : w5.heap.size <= Wf.heap.size := by rw [<- Zs, xS, xS]; simp only [Ye]; omega
   have hke : ∀ b, b ≠ tb2 -> b ≠ pb -> b ≠ w.heap.size -> b < w5.heap.size -> Wf.heap[b]? = w5.heap[b]? := fun b h1 h2 h3 h4 => by
    rw [<- Zs, xA (by rw [xS]; simp only [Ye]; omega), xA (by simp only [Ye]; omega), Xs h3, xH h2, Xs h1]
   clear Zs;refine r42 rfl rfl hbf rfl ⟨Zb, ?_, 6, ⟨#[]⟩, none, 0, 0, some ⟨w5.heap.size + 1, 0, none⟩, 2, 2, rfl, ?_⟩
   ·rw [HRe.o]
    cases R2 with
    | inr q => exact Zd
    | inl q => exact Zd
   ·intro y c e
    rw [HRe.o] at e
    cases Uc : R2 with
    | inr q => rw [Uc] at e; cases e
    | inl q =>
     rw [Uc] at e;injection e with e;injection e with e _;rw [<- e]
     have g1 := HV1.o Wf (by omega) fun b h1 h2 => (hke b (by omega) (by omega) (by omega) (by omega)).trans (HF5.o b h1 h2)
     have g2 := M3.o Wf hsz (fun b h1 h2 => hke b (by omega) (by omega) (by omega) h2) q.1 q.2 (by rw [Uc]);obtain ⟨m, hk⟩ := rkids2 g1 g2 Yu (by omega);exact (yH (by decide) hk (by simp) (by simp)).lower (by omega)
def Uv (lo : Nat) (w : World) (c : List Value) (x : Option Ty) : Prop := (∃ (k : Int) (nm : ByteArray) (na : Option Addr) (nl nc : Nat) (ka : Option Addr) (kl kc : Nat), c = [.int .i64 k, .string nm, .slice na nl nc, .slice ka kl kc]) /\ ∀ t, x = some t -> Nq lo w c t
theorem pW : Lo Uv where
 keep := fun h hs hk => ⟨h.1, fun t e => Om.keep (h.2 t e) hs hk⟩
 lower := fun h hl => ⟨h.1, fun t e => Om.lower (h.2 t e) hl⟩
def Vf {α : Type} : Pr α -> Option α
 | .inl (x, _) => some x
 | .inr _ => none
theorem Ee {lo : Nat} {w : World} {k : Int} {nm : ByteArray} {na : Option Addr} {nl nc : Nat} {ka : Option Addr} {kl kc : Nat} {R : Pr Ty} (h : Bd lo w (.agg #[.int .i64 k, .string nm, .slice na nl nc, .slice ka kl kc]) R) : Uv lo w [.int .i64 k, .string nm, .slice na nl nc, .slice ka kl kc] (Vf R) :=
 ⟨⟨k, nm, na, nl, nc, ka, kl, kc, rfl⟩, fun t e => by
  cases R with
  | inr p => cases e
  | inl q =>
   obtain ⟨x, b⟩ := q;injection e with e;rw [<- e]
   exact h x b rfl⟩
def D9 (ts : List Tok) (one : Nat -> Pr Ty) (sep : List UInt8) (Rm : Pr (List Ty)) (S : Ya) (acc : List (Option Ty)) (gk : Nat) : Prop :=
 (∃ b l m, S = .inl b /\ acc = l.map some /\ K3 ts one sep Rm l m b /\ ts.length <= b + (m + 1) /\ l.length <= b + 1 /\ ts.length - b <= gk) ∨ ∃ e, S = .inr e /\ Rm = .inr e /\ acc.length <= 8195
theorem RX.drop {pb tb cap d : Nat} {ts : List Tok} {w0 w : World} {S : Ya} {p : Nat × Obj} {bx : List (Nat × Obj)} (h : RX pb tb cap ts w0 w d S (p :: bx)) : RX pb tb cap ts w0 w d S bx := ⟨h.st, h.at_, h.hp, fun q hq => h.has q (xW _ hq)⟩
theorem D9.len {ts : List Tok} {one : Nat -> Pr Ty} {sep : List UInt8} {Rm : Pr (List Ty)} {S : Ya} {acc : List (Option Ty)} {gk : Nat} (h : D9 ts one sep Rm S acc gk) (hb : ∀ b, S = .inl b -> b < 8193) : acc.length <= 8195 := by
 rcases h with ⟨b, l, m, e, rfl, _, _, h1, _⟩ | ⟨e, _, _, h⟩
 ·have := hb b e
  rw [List.length_map];omega
 ·exact h
theorem nA (ts : List Tok) (one : Nat -> Pr Ty) (sep : List UInt8) (f : Nat) (S : Ya) (hu : ∀ a x b, one a = .inl (x, b) -> a <= b) (hf : ∀ a, S = .inl a -> ts.length <= a + (f + 1)) :
  D9 ts one sep (Zj (fun a => Yd ts one sep (f + 1) a) S) (Zf (Zj one S)) [Vf (Zj one S)] ts.length := by
 cases S with
 | inr p => exact .inr ⟨p, rfl, rfl, by show 1 <= 8195; decide⟩
 | inl a =>
  cases h : one a with
  | inr e => exact .inr ⟨e, by show Zf (one a) = _; rw [h]; rfl, by show Yd ts one sep (f + 1) a = _; exact Iq h, by show 1 <= 8195; decide⟩
  | inl q =>
   obtain ⟨x, b⟩ := q;have := hu a x b h;have := hf a rfl;exact .inl ⟨b, [x], f, by show Zf (one a) = _; rw [h]; rfl, by show [Vf (one a)] = _; rw [h]; rfl, Iw h, by omega, by show 1 <= b + 1; omega, by omega⟩
theorem m8 {ts : List Tok} {one : Nat -> Pr Ty} {sep : List UInt8} {Rm : Pr (List Ty)} {S : Ya} {acc : List (Option Ty)} {gk : Nat} (h : D9 ts one sep Rm S acc gk) (hs : Yw ts S sep = true) (hb : ∀ b, S = .inl b -> b + 1 < ts.length) (ok : ts.length <= 8193) (hu : ∀ a x b, one a = .inl (x, b) -> a <= b) :
  ∃ b, S = .inl b /\ (∃ g', g' < gk /\ D9 ts one sep Rm (Zf (Zj one (Ph S))) (acc ++ [Vf (Zj one (Ph S))]) g') := by
 rcases h with ⟨b, l, m, rfl, rfl, hm, h1, h2, h3⟩ | ⟨e, rfl, _⟩
 ·have Z8 := hb b rfl
  obtain ⟨m, rfl⟩ : ∃ q, m = q + 1 := ⟨m - 1, by omega⟩
  refine ⟨b, rfl, ?_⟩
  cases h : one (b + 1) with
  | inr e => exact ⟨0, by omega, .inr ⟨e, by show Zf (one (b + 1)) = _; rw [h]; rfl, Iu hm hs h, by simp; omega⟩⟩
  | inl q =>
   obtain ⟨x, c⟩ := q;have := hu _ _ _ h;exact ⟨ts.length - c, by omega, .inl ⟨c, l ++ [x], m, by show Zf (one (b + 1)) = _; rw [h]; rfl, by show _ ++ [Vf (one (b + 1))] = _; rw [h]; simp [Vf], Iv hm hs h, by omega, by simp; omega, xR⟩⟩
 ·cases hs
theorem mY {ts : List Tok} {one : Nat -> Pr Ty} {sep : List UInt8} {Rm : Pr (List Ty)} {S : Ya} {acc : List (Option Ty)} {gk : Nat} (h : D9 ts one sep Rm S acc gk) (hs : Yw ts S sep = false) : (∃ b l, S = .inl b /\ acc = l.map some /\ Rm = .inl (l, b)) ∨ ∃ e, S = .inr e /\ Rm = .inr e := by
 rcases h with ⟨b, l, m, rfl, rfl, hm, _⟩ | ⟨e, rfl, h, _⟩
 ·exact .inl ⟨b, l, rfl, rfl, Ir hm hs⟩
 ·exact .inr ⟨e, rfl, h⟩
theorem R0 {B et : Nat} {o : Option Nat} {wx : World} {v : Value} {cs : List (List Value)} {l : List Ty} (h : Ym Uv B et 4 o wx v cs (l.map some)) : Ym Nq B et 4 o wx v cs l := by
 refine ⟨by rw [h.len, List.length_map], h.each, by have := h.ow; rwa [List.length_map] at this, h.apart, h.olt, fun i h1 h2 => ?_⟩
 obtain ⟨wi, lo, m1, m2⟩ := h.made i h1 (by rw [List.length_map]; exact h2)
 exact ⟨wi, lo, m1.2 _ (by rw [List.getElem_map]), m2⟩
theorem ralt_c (pb tb cap d : Nat) (ts : List Tok) (ok : Yh ts) (one : Nat -> Pr Ty) (f : Nat) (hf : ts.length <= f + 1) (hu : ∀ a x b, one a = .inl (x, b) -> a <= b)
  (hP : ∀ S w, Z2 w pb tb cap ts d S -> Calls prog 143 #[pP pb] w (Pq pb tb cap ts d w (Zj one S)))
  (S : Ya) (w : World) (h : Z2 w pb tb cap ts d S) :
  Calls prog 120 #[pP pb] w (Pq pb tb cap ts d w ((Zj (fun a => Yd ts one [124] (f + 1) a) S).go fun l a => match l with | [t] => .inl (t, a) | l => .inl (Yq 7 [] [] l, a))) := by
 have H0 := Za (nA ts one [124] f S hu (fun a _ => by omega))
 obtain ⟨Rm, Q0⟩ := xE (Zj (fun a => Yd ts one [124] (f + 1) a) S)
 rw [<- Q0] at H0 ⊢
 have HP := Za hP
 have HU := Za hu
 have OK := Za ok
 have X0 := Za (Lc h Xt)
 obtain ⟨i0, hi, Wp, Xy, Wr⟩ := info_parts Dp
 clear h hP ok Q0 hu
 go_enter func120, ntmps120
 go_wp2_with fail
 refine (HP.o _ _ X0.o.at_).mono ?_
 rintro e w1 ⟨Zb, Zd, k1, nm1, na1, nl1, nc1, ka1, kl1, kc1, rfl, hv⟩
 have X1 := Za (X0.o.step Zb Zd)
 have Yk := Za (Aq (B := w.heap.size + 1) (et := 42) (k := 4) (rep := Uv) (c := [.int .i64 k1, .string nm1, .slice na1 nl1 nc1, .slice ka1 kl1 kc1]) (Ee hv) (by simp) (by have := Zb.size; simp at this; omega) rfl)
 have X2 := Za (X1.o.alloc (.cells #[.int .i64 k1, .string nm1, .slice na1 nl1 nc1, .slice ka1 kl1 kc1] 42))
 clear Zb Zd hv X0 X1
 go_wp2_with fail
 go_loopg [3] (ts.length) (fun gk s wr => ∃ (S : Ya) (cs : List (List Value)) (acc : List (Option Ty)), xQ (RX pb tb cap ts w wr d S [(w.heap.size, Xt)]) /\ xQ (Ym Uv (w.heap.size + 1) 42 4 none wr s cs acc) /\ xQ (D9 ts one [124] Rm S acc gk) /\ 1 <= acc.length)
 case atStart => exact ⟨_, _, _, X2.o.drop, Yk, H0, Nat.le_refl 1⟩
 case round =>
  clear X2 Yk H0;obtain ⟨S', cs, acc, X, RW, HA, A8⟩ := hrel
  have M9 : acc.length <= 8195 := HA.o.len fun b e => by
   obtain ⟨a, ha⟩ := X.o.at_;have := ha.live b e;have := ha.lt;have := OK.o.len;omega
  go_wp2_with fail;refine (Wq pb tb cap d ts S' [124] _ X.o.at_ OK.o).mono ?_;rintro e w2 ⟨rfl, Zb, Zd⟩;have XT := Za (X.o.step Zb Zd);have RT := Za (RW.o.stay Zb (by have := X.o.hp; omega));clear Zb Zd RW
  cases hs : Yw ts S' [124] with
  | false =>
   rw [hs, if_neg (by simp)] at XT;have HE := Za (mY HA.o hs);clear hs HA X;obtain ⟨av, cv, rfl, hcv, hform⟩ := RT.o.form pW
   obtain ⟨g, rfl, hgB, hgc, hel⟩ : ∃ g, av = some ⟨g, 0, none⟩ /\ w.heap.size + 1 <= g /\ N0 w2 g /\ ∀ i (hi : i < acc.length), ∃ c : List Value, c.length = 4 /\ (∀ j, j < 4 -> w2.cell? ⟨g, i * 4 + j, none⟩ = c[j]?) /\ Uv (w.heap.size + 1) w2 c acc[i] := by
    rcases hform with e | h
    ·rw [e] at A8; exact absurd A8 (by simp)
    ·exact h
   obtain ⟨c, _, K9, ⟨k0, nm0, na0, nl0, nc0, ka0, kl0, kc0, rfl⟩, hcq⟩ := hel 0 A8;have q0 := K9 0 (by decide);have q1 := K9 1 (by decide);have q2 := K9 2 (by decide);have q3 := K9 3 (by decide);have HCQ := Za hcq;simp only [Nat.zero_mul, Nat.zero_add] at q0 q1 q2 q3;have He := Nr hgc;clear K9 hcq hel hform hgc;have Uy := XT.o.box (p := (w.heap.size, Xt)) (by simp);obtain ⟨⟨r0, r1, r2, r3⟩, ⟨f0, f1, f2, f3⟩, Xu⟩ := Z6 Uy
   have HBX := Za Uy;clear Uy
   have Z3 : ¬ g = w.heap.size := by omega
   have hp := XT.o.hp;by_cases h1 : acc.length = 1
   ·have Tx := Za h1
    have h1' : ((acc.length : Int) == 1) = true := by rw [h1]; rfl
    clear h1;go_wp2_with fail
    have one_of : ∀ l : List Ty, acc = l.map some -> ∃ t, l = [t] := fun l e => by
     have := Tx.o;rw [e, List.length_map] at this;exact List.length_eq_one_iff.1 this
    refine r42 rfl rfl (set4 HBX.o _ _ _ _) rfl ⟨Ta XT.o.st hp (xR) _ _ _ _, ?_, k0, nm0, na0, nl0, nc0, ka0, kl0, kc0, rfl, ?_⟩
    ·have := XT.o.at_.set4 hp (.int .i64 k0) (.string nm0) (.slice na0 nl0 nc0) (.slice ka0 kl0 kc0)
     rcases HE.o with ⟨b, l, rfl, e2, e3⟩ | ⟨e, rfl, e3⟩
     ·obtain ⟨t, rfl⟩ := one_of l e2
      rw [e3]; exact this
     ·rw [e3]; exact this
    ·intro y cc ey
     rcases HE.o with ⟨b, l, rfl, e2, e3⟩ | ⟨e, rfl, e3⟩
     ·obtain ⟨t, rfl⟩ := one_of l e2
      rw [e3] at ey;injection ey with ey;injection ey with ey _;rw [<- ey];have hq := HCQ.o t (by simp only [e2, List.map_cons, List.getElem_cons_zero]);exact Yb.lower (Yb.set4 (show Yb (w.heap.size + 1) w2 _ t from hq) (by omega) _ _ _ _) (by omega)
     ·rw [e3] at ey; cases ey
   ·have h1' : ((acc.length : Int) == 1) = false := by rw [beq_eq_false_iff_ne]; omega
    have Tx := Za h1;clear h1;go_wp2_with fail;refine r42 rfl rfl (set4 HBX.o _ _ _ _) rfl ⟨Ta XT.o.st hp (xR) _ _ _ _, ?_, 7, ⟨#[]⟩, none, 0, 0, some ⟨g, 0, none⟩, acc.length, cv, rfl, ?_⟩
    ·have := XT.o.at_.set4 hp (.int .i64 7) (.string ⟨#[]⟩) (.slice none 0 0) (.slice (some ⟨g, 0, none⟩) acc.length cv)
     rcases HE.o with ⟨b, l, rfl, e2, e3⟩ | ⟨e, rfl, e3⟩
     ·rw [e3]
      match l, e2 with
      | [], _ => exact this
      | [t], e2 => exact absurd (by rw [e2]; rfl) Tx.o
      | _ :: _ :: _, _ => exact this
     ·rw [e3]; exact this
    ·intro y cc ey
     rcases HE.o with ⟨b, l, rfl, e2, e3⟩ | ⟨e, rfl, e3⟩
     ·have hy : y = Yq 7 [] [] l := by
       rw [e3] at ey
       match l, e2, ey with
       | [], _, ey => injection ey with ey; injection ey with ey _; exact ey.symm
       | [t], e2, _ => exact absurd (by rw [e2]; rfl) Tx.o
       | _ :: _ :: _, _, ey => injection ey with ey; injection ey with ey _; exact ey.symm
      rw [hy];have hr := RT.o;rw [e2] at hr;obtain ⟨a', cap', m, ea, Yz, hk⟩ := G3 (R0 hr);rw [List.length_map] at ea;injection ea with ea _ ec;subst ea ec
      have hl8 : l.length <= 8195 := by rw [e2, List.length_map] at M9; exact M9
      have Mq := Ni hk (w' := ((((w2.setCell ⟨w.heap.size, 0, none⟩ (.int .i64 7)).setCell ⟨w.heap.size, 1, none⟩ (.string ⟨#[]⟩)).setCell ⟨w.heap.size, 2, none⟩ (.slice none 0 0)).setCell ⟨w.heap.size, 3, none⟩ (.slice (some ⟨g, 0, none⟩) acc.length cv))) (by rw [Mg]; exact xR) fun b hb _ => Xs (by omega) _ _ _ _
      have := yH (k := 7) (by decide) Mq Yz (by omega);rw [e2, List.length_map];rw [e2, List.length_map] at this;refine Yb.lower this ?_;omega
     ·rw [e3] at ey; cases ey
  | true =>
   have Jh : ∀ b, S' = .inl b -> b + 1 < ts.length := fun b e => by
    obtain ⟨a, ha⟩ := X.o.at_;have hb := ha.live b e;subst hb;rw [e] at hs;exact Q4 OK.o.ends ha.lt hs
   obtain ⟨b, Qg, g', Pg, Jf⟩ := m8 HA.o hs Jh OK.o.len HU.o;have HN := Za Jf;rw [hs, if_pos rfl] at XT;clear hs HA X Jh Qg Jf;obtain ⟨R2, Uc⟩ := xE (Zj one (Ph S'));have HC := Za (HP.o _ _ XT.o.at_);rw [<- Uc] at HN HC;clear Uc;obtain ⟨av, cv, rfl⟩ := U9 RT.o.ow;go_wp2_with fail;refine HC.o.mono ?_;rintro e w3 ⟨Zb, Zd, k2, nm2, na2, nl2, nc2, ka2, kl2, kc2, rfl, hv⟩;have X3 := Za (((XT.o.step Zb Zd).alloc (.cells #[.int .i64 k2, .string nm2, .slice na2 nl2 nc2, .slice ka2 kl2 kc2] 42)).drop)
   have HQ := Za (Ee hv);have Lz := Zb.size;have RW3 := Za (RT.o.stay (Zb.trans ((Zl.refl pb w3).alloc (xT XT.o.at_.ltp Zb.size) (.cells #[.int .i64 k2, .string nm2, .slice na2 nl2 nc2, .slice ka2 kl2 kc2] 42))) (by have := XT.o.hp; omega));have Tz := Za ((Wz.new (rep := Uv) (B := w.heap.size + 1) (Ee hv) (xB (XT.o.box (p := (w.heap.size, Xt)) (by simp))) fun q hq => RT.o.all q hq).stay ((Zl.refl pb w3).alloc (xT XT.o.at_.ltp Zb.size) (.cells #[.int .i64 k2, .string nm2, .slice na2 nl2 nc2, .slice ka2 kl2 kc2] 42)) (by have := XT.o.hp; omega))
   have hwl : w.heap.size < w3.heap.size := xT (xB (XT.o.box (p := (w.heap.size, Xt)) (by simp))) Zb.size
   have Tu : xQ (∀ j u, ([.int .i64 k2, .string nm2, .slice na2 nl2 nc2, .slice ka2 kl2 kc2] : List Value)[j]? = some u -> ((w3.alloc (.cells #[.int .i64 k2, .string nm2, .slice na2 nl2 nc2, .slice ka2 kl2 kc2] 42)).alloc (.cells #[.int .i64 k2, .string nm2, .slice na2 nl2 nc2, .slice ka2 kl2 kc2] 42)).cell? ((⟨w3.heap.size + 1, 0, none⟩ : Addr).add j) = some u) := fun j u h => by
    have := Pt (w3.alloc (.cells #[.int .i64 k2, .string nm2, .slice na2 nl2 nc2, .slice ka2 kl2 kc2] 42)) [.int .i64 k2, .string nm2, .slice na2 nl2 nc2, .slice ka2 kl2 kc2] 42 j u h;rw [xS] at this;exact this
   clear Zb Zd hv HC
   go_wp2_with (at_builtin; refine wpList_append_own_at _ rfl (.tmp 15) (.tmp 17) 34 rfl (w.heap.size + 1) 42 i0 _ 4 72 underlying34 hi Wp Xy Wr rfl (by decide) _ _ _ rfl (RW3.o.ow.alloc _) ⟨_, 0, none⟩ 1 1 [.int .i64 k2, .string nm2, .slice na2 nl2 nc2, .slice ka2 kl2 kc2] rfl rfl Tu.o (by simp [Value.oneCell']) (by unfold maxLen; omega) (by omega) (by simp; omega) ?_)
   intro v' w4 Z1 Zy _ Ys
   have Xi : xQ (Ym Uv (w.heap.size + 1) 42 4 none w4 v' (cs ++ [[.int .i64 k2, .string nm2, .slice na2 nl2 nc2, .slice ka2 kl2 kc2]]) (acc ++ [Vf R2])) :=
    RW3.o.put Z1 Zy (Ys.imp_right fun e => ⟨_, e, by simp⟩) ((Zl.refl pb _).alloc X3.o.at_.ltp _) (by have := X3.o.hp; omega) rfl (Tz.o.stay ((Zl.refl pb _).alloc X3.o.at_.ltp _) (by have := X3.o.hp; omega))
   have Q9 : xQ (RX pb tb cap ts w w4 d (Zf R2) [(w.heap.size, Xt)]) := by
    have hX := (X3.o.alloc (.cells #[.int .i64 k2, .string nm2, .slice na2 nl2 nc2, .slice ka2 kl2 kc2] 42)).drop
    have Zo : ∀ q, (Value.slice av acc.length cv).ownBlock = some q -> w.heap.size + 1 <= q := fun q hq => (RW3.o.own q hq).1
    refine ⟨hX.st.grown Zy hX.hp fun q hq => by have := Zo q hq; omega, ?_, hX.hp, fun p hp => ?_⟩
    ·obtain ⟨a, ha⟩ := hX.at_
     have hp := hX.hp;exact ⟨a, (Zy.block _ ha.ltp (fun e => by have := Zo _ e.symm; omega)).trans ha.blk, ha.lt, ha.live, ha.bad, ha.tlt, Qk ha.toks (Zy.block _ (Nat.lt_trans ha.tlt ha.ltp) (fun e => by have := Zo _ e.symm; have := ha.tlt; omega))⟩
    ·rw [List.mem_singleton.1 hp]
     exact ⟨(Zy.block _ (xB (hX.box (p := (w.heap.size, Xt)) (by simp))) (fun e => by have := Zo _ e.symm; omega)).trans (hX.box (p := (w.heap.size, Xt)) (by simp)), xR⟩
   clear Z1 Zy Ys;go_wp2_with fail
   go_roundg g'
   case measure => exact Pg
   case rel => exact ⟨_, _, _, Q9, Xi, HN, by simp⟩
end Go.Proofs.YtfoejkhfdiodhaaGreatDoor
