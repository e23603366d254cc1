/- Part. -/
import Derived.Test.YtfoejkhfdiodhaaGreatDoorPart27
set_option maxRecDepth 100000
set_option maxHeartbeats 4000000
namespace Go.Proofs.YtfoejkhfdiodhaaGreatDoor
open Go.Proofs.Tryz
open Go.RowKit
attribute [local go_sem ↓] Go.wp_at_zero Go.wp_at_succ
def M7 (ts : List Tok) : Ya -> Ya
 | .inl a => if (Zk ts a).kind == 0 then .inl a else .inr (7, (Zk ts a).line, (Zk ts a).col)
 | .inr p => .inr p
abbrev G6 : Obj := .cells #[.int .i64 0, .int .i64 0, .int .i64 0, .int .i64 0] 29
theorem rend_c (pb tb cap d : Nat) (ts : List Tok) (S : Ya) (w : World) (h : Z2 w pb tb cap ts d S) :
  Calls prog 15 #[pP pb] w fun r w' => r = .returned (M6 (lS (M7 ts S)) (cS (M7 ts S)) (eS (M7 ts S))) /\ Zl pb w w' /\ Z2 w' pb tb cap ts d (M7 ts S) := by
 have X0 := Za (Lc h G6)
 obtain ⟨a, h⟩ := h
 have Na : (a : Int) < (ts.length : Int) := by have := h.lt; omega
 have Xc := h.ltp
 have Vd := Nat.lt_trans h.tlt h.ltp
 have hS : (∃ b, S = .inl b /\ b = a) ∨ ∃ p, S = .inr p /\ (p.1 == 0) = false := by
  cases S with
  | inl b => exact .inl ⟨b, rfl, h.live b rfl⟩
  | inr p => exact .inr ⟨p, rfl, by have := h.bad p rfl; simpa using this⟩
 have H0 := Za h
 have h1 := (h.alloc G6).drew
 obtain ⟨⟨c0, c1, c2, c3, c4, c5⟩, f1, f2, f3, f4, f5⟩ := h1.cells
 obtain ⟨q0, q1, q2, q3⟩ := h1.toks a h1.lt
 obtain ⟨t, ht⟩ := xE (Zk ts a)
 rw [<- ht] at q0 q1 q2 q3
 obtain ⟨es, Hd⟩ := xE (eS S)
 rw [<- Hd] at c3
 have Js := Za Hd
 have HT := Za ht
 have H1 := Za h1
 have Qf := And.intro c0 (And.intro c1 (And.intro c3 q0))
 have Ub := Za hS
 clear ht Hd c0 c1 c2 c3 c4 c5 q0 q1 q2 q3 h h1 hS f1 f2 f3 f4 f5
 rcases Ub.o with ⟨b, Qg, rfl⟩ | ⟨p, hSp, Uo⟩
 ·obtain rfl : es = 0 := by rw [Js.o, Qg]; rfl
  have HSb := Za Qg;clear Qg
  cases hk : (t.kind == 0) with
  | true =>
   go_enter func15, ntmps15;go_wp2_with fail
   go_region_held (fun W => W.cell? ⟨pb, 0, none⟩ = some (.slice (some ⟨tb, 0, none⟩) ts.length cap) /\ W.cell? ⟨pb, 1, none⟩ = some (.int .i64 b) /\ W.cell? ⟨pb, 3, none⟩ = some (.int .i64 0) /\ W.cell? ⟨tb, b * 4, none⟩ = some (.int .i64 t.kind)) (with_reducible assumption) (fail)
   go_wp2_with fail;have XD := Za (X0.o.drew.drew);have H2 := Za (H1.o.drew);obtain ⟨⟨d0, d1, d2, d3, d4, d5⟩, _⟩ := H2.o.cells;rw [<- Js.o] at d3;have hTT := And.intro d3 (And.intro d4 d5);obtain ⟨⟨r0, r1, r2, r3⟩, ⟨f0, f1, f2, f3⟩, Xu⟩ := Z6 (XD.o.box (p := (w.heap.size, G6)) (by simp))
   have Y7 : xQ (∀ o, ((w.alloc o).drew.drew).cell? ⟨pb, 3, none⟩ = some (.int .i64 0) /\ ((w.alloc o).drew.drew).cell? ⟨pb, 4, none⟩ = some (.int .i64 (lS S)) /\ ((w.alloc o).drew.drew).cell? ⟨pb, 5, none⟩ = some (.int .i64 (cS S))) := fun o => by
    have := ((H0.o.alloc o).drew.drew).cells.1;rw [Js.o];exact this.2.2.2
   clear Qf d0 d1 d2 d3 d4 d5
   go_region_held (fun W => W.cell? ⟨pb, 3, none⟩ = some (.int .i64 0) /\ W.cell? ⟨pb, 4, none⟩ = some (.int .i64 (lS S)) /\ W.cell? ⟨pb, 5, none⟩ = some (.int .i64 (cS S))) (first | with_reducible assumption | with_reducible exact Y7.o _) (fail)
   go_wp2_with fail;refine bodyPost_ret (results_cell_row rfl _ _ w.heap.size 29 _ (0, 0) _ rfl (xL w _) underlying29 rfl (by kernel_rfl)) rfl ?_
   have e1 : M7 ts S = S := by rw [HSb.o]; exact if_pos (by rw [<- HT.o]; exact hk)
   rw [e1];refine ⟨by rw [<- Js.o], (Zl.of Xc (Zq w _)).drew.drew, b, (H0.o.alloc _).drew.drew⟩
  | false =>
   go_enter func15, ntmps15;go_wp2_with fail
   go_region_held (fun W => W.cell? ⟨pb, 0, none⟩ = some (.slice (some ⟨tb, 0, none⟩) ts.length cap) /\ W.cell? ⟨pb, 1, none⟩ = some (.int .i64 b) /\ W.cell? ⟨pb, 3, none⟩ = some (.int .i64 0) /\ W.cell? ⟨tb, b * 4, none⟩ = some (.int .i64 t.kind)) (with_reducible assumption) (fail)
   have Mq : (t.kind != 0) = true := by rw [bne, hk]; rfl
   clear Qf;go_wp2_with fail;refine (Ry pb tb cap d ts S 7 (by decide) _ ⟨_, H1.o⟩).mono ?_;rintro e w2 ⟨rfl, Zb, Zd⟩;have X2 := Za ((X0.o.drew).step Zb Zd);clear Zb Zd
   have e1 : M7 ts S = Di ts 7 S := by rw [HSb.o]; exact if_neg (by rw [<- HT.o, hk]; simp)
   rw [<- e1] at X2;clear e1;obtain ⟨a2, h2⟩ := X2.o.at_;obtain ⟨⟨d0, d1, d2, d3, d4, d5⟩, _⟩ := h2.drew.cells;have hTT := And.intro d3 (And.intro d4 d5);have HH2 := Za h2;obtain ⟨⟨r0, r1, r2, r3⟩, ⟨f0, f1, f2, f3⟩, Xu⟩ := Z6 (X2.o.drew.box (p := (w.heap.size, G6)) (by simp));obtain ⟨⟨g0, g1, g2, g3⟩, ⟨k0, k1, k2, k3⟩, He⟩ := Z6 (X2.o.box (p := (w.heap.size, G6)) (by simp));clear h2 d0 d1 d2 d3 d4 d5
   have Y7 : xQ (∀ x0 x1 x2 x3, ((((w2.setCell ⟨w.heap.size, 0, none⟩ x0).setCell ⟨w.heap.size, 1, none⟩ x1).setCell ⟨w.heap.size, 2, none⟩ x2).setCell ⟨w.heap.size, 3, none⟩ x3).drew.cell? ⟨pb, 3, none⟩ = some (.int .i64 (eS (M7 ts S))) /\ ((((w2.setCell ⟨w.heap.size, 0, none⟩ x0).setCell ⟨w.heap.size, 1, none⟩ x1).setCell ⟨w.heap.size, 2, none⟩ x2).setCell ⟨w.heap.size, 3, none⟩ x3).drew.cell? ⟨pb, 4, none⟩ = some (.int .i64 (lS (M7 ts S))) /\ ((((w2.setCell ⟨w.heap.size, 0, none⟩ x0).setCell ⟨w.heap.size, 1, none⟩ x1).setCell ⟨w.heap.size, 2, none⟩ x2).setCell ⟨w.heap.size, 3, none⟩ x3).drew.cell? ⟨pb, 5, none⟩ = some (.int .i64 (cS (M7 ts S)))) := fun x0 x1 x2 x3 => by
    obtain ⟨a3, h3⟩ := (X2.o.at_.set4 Xc x0 x1 x2 x3).drew;exact h3.cells.1.2.2.2
   go_wp2_with fail
   go_region_held (fun W => W.cell? ⟨pb, 3, none⟩ = some (.int .i64 (eS (M7 ts S))) /\ W.cell? ⟨pb, 4, none⟩ = some (.int .i64 (lS (M7 ts S))) /\ W.cell? ⟨pb, 5, none⟩ = some (.int .i64 (cS (M7 ts S)))) (first | with_reducible assumption | with_reducible exact Y7.o _ _ _ _) (fail)
   go_wp2_with fail;refine bodyPost_ret (results_cell_row rfl _ _ w.heap.size 29 _ (0, 0) _ rfl (set4 (X2.o.box (p := (w.heap.size, G6)) (by simp)) _ _ _ _) underlying29 rfl (by kernel_rfl)) rfl ?_;exact ⟨rfl, (Ta X2.o.st Xc (xR) _ _ _ _).drew, (X2.o.at_.set4 Xc _ _ _ _).drew⟩
 ·have he : es = p.1 := by rw [Js.o, hSp]; rfl
  rw [<- he] at Uo;have HSp := Za hSp;clear hSp he;go_enter func15, ntmps15;go_wp2_with fail;obtain ⟨c0, c1, c3, q0⟩ := Qf;go_region;go_wp2_with fail;have XD := Za (X0.o.drew.drew);have H2 := Za (H1.o.drew);obtain ⟨⟨d0, d1, d2, d3, d4, d5⟩, _⟩ := H2.o.cells;rw [<- Js.o] at d3;have hTT := And.intro d3 (And.intro d4 d5);obtain ⟨⟨r0, r1, r2, r3⟩, ⟨f0, f1, f2, f3⟩, Xu⟩ := Z6 (XD.o.box (p := (w.heap.size, G6)) (by simp))
  have Y7 : xQ (∀ o, ((w.alloc o).drew.drew).cell? ⟨pb, 3, none⟩ = some (.int .i64 es) /\ ((w.alloc o).drew.drew).cell? ⟨pb, 4, none⟩ = some (.int .i64 (lS S)) /\ ((w.alloc o).drew.drew).cell? ⟨pb, 5, none⟩ = some (.int .i64 (cS S))) := fun o => by
   have := ((H0.o.alloc o).drew.drew).cells.1;rw [Js.o];exact this.2.2.2
  clear c0 c1 c3 q0 d0 d1 d2 d3 d4 d5
  go_region_held (fun W => W.cell? ⟨pb, 3, none⟩ = some (.int .i64 es) /\ W.cell? ⟨pb, 4, none⟩ = some (.int .i64 (lS S)) /\ W.cell? ⟨pb, 5, none⟩ = some (.int .i64 (cS S))) (first | with_reducible assumption | with_reducible exact Y7.o _) (fail)
  go_wp2_with fail;refine bodyPost_ret (results_cell_row rfl _ _ w.heap.size 29 _ (0, 0) _ rfl (xL w _) underlying29 rfl (by kernel_rfl)) rfl ?_
  have e1 : M7 ts S = S := by rw [HSp.o]; rfl
  rw [e1];refine ⟨by rw [Js.o], (Zl.of Xc (Zq w _)).drew.drew, a, (H0.o.alloc _).drew.drew⟩
end Go.Proofs.YtfoejkhfdiodhaaGreatDoor
namespace Go.Proofs.YtfoejkhfdiodhaaGreatDoor
open Go.Proofs.Tryz
open Go.RowKit
def BegP (w : World) (R : List Tok ⊕ (Int × Nat × Nat)) (e : Ending) (w' : World) : Prop :=
 Below w.heap.size w w' /\ match R with
 | .inr (x, li, co) => ∃ pb, e = .returned (.tuple #[pP pb, M6 li co x])
 | .inl ts => ∃ pb g cap, e = .returned (.tuple #[pP pb, M6 0 0 0]) /\ w.heap.size <= pb /\ Z2 w' pb g cap ts 0 (.inl 0)
def LexF (lo : Nat) (w' : World) (ga : Option Addr) (gl li co : Nat) (x : Int) : List Tok ⊕ (Int × Nat × Nat) -> Prop
 | .inr p => p = (x, li, co)
 | .inl ts => ∃ g, ga = some ⟨g, 0, none⟩ /\ gl = ts.length /\ li = 0 /\ co = 0 /\ x = 0 /\ Gl w' g ts /\ g < w'.heap.size /\ lo <= g
theorem kX {w : World} {R : List Tok ⊕ (Int × Nat × Nat)} {e : Ending} {w' : World} (h : Lx.LexPost w R e w') : Below w.heap.size w w' /\ ∃ (ga : Option Addr) (gl gc li co : Nat) (x : Int), e = .returned (.tuple #[.slice ga gl gc, M6 li co x]) /\ LexF w.heap.size w' ga gl li co x R := by
 obtain ⟨hb, hm⟩ := h
 refine ⟨hb, ?_⟩
 cases R with
 | inr p =>
  obtain ⟨x, li, co⟩ := p;exact ⟨none, 0, 0, li, co, x, hm, rfl⟩
 | inl ts =>
  obtain ⟨g, cap, he, Xk⟩ := hm;have := Xk.lt g rfl;exact ⟨some ⟨g, 0, none⟩, ts.length, cap, 0, 0, 0, he, g, rfl, rfl, rfl, rfl, rfl, Ol Xk, this.2, this.1⟩
abbrev Um (li co : Nat) (x : Int) : Obj := .cells #[.int .i64 0, .int .i64 li, .int .i64 co, .int .i64 x] 29
theorem dB (S : ByteArray) (hS : S.size <= 140737488351232) (w : World) :
  Calls prog 13 #[.string S] w (BegP w (Tk S.data.toList)) := by
 have HX := Za (fun wx => Lx.lexR_c S hS wx)
 obtain ⟨R, hR⟩ := xE (Tk S.data.toList)
 rw [<- hR] at HX ⊢
 have HR := Za hR
 clear hR
 go_enter func13, ntmps13
 go_wp2_with fail
 refine (HX.o _).mono ?_
 intro e w2 Zg
 obtain ⟨Z0, ga, gl, gc, li, co, x, rfl, hm⟩ := kX Zg
 have Yx := Za Z0
 have HM := Za hm
 have Pw : xQ (w2.heap[w.heap.size]? = some G6) := (Z0.block _ (by simp)).trans (xL _ _)
 clear Zg Z0 hm
 have Vr : xQ (Below w.heap.size w (w2.alloc (Um li co x))) := Zx (Zx (Zq _ _) Yx.o) (Zq _ _)
 have Qm : xQ ((w2.alloc (Um li co x)).heap[w2.heap.size]? = some (Um li co x)) := xL _ _
 have Nm : xQ ((w2.alloc (Um li co x)).heap[w.heap.size]? = some G6) := (xA (xB Pw.o)).trans Pw.o
 have HM3 : xQ (LexF (w.heap.size + 1) (w2.alloc (Um li co x)) ga gl li co x R) := by
  have := HM.o
  cases R with
  | inr p => exact this
  | inl ts =>
   obtain ⟨g, h1, h2, h3, h4, h5, h6, h7, h8⟩ := this;exact ⟨g, h1, h2, h3, h4, h5, Qk h6 (xA h7), by rw [xS]; omega, by rw [xS] at h8; omega⟩
 have hlt0 : w.heap.size < w2.heap.size := xB Pw.o
 go_wp2_with fail
 obtain ⟨db, Kh⟩ := xE w2.heap.size
 rw [<- Kh] at Qm hlt0 ⊢
 clear Kh HM Pw Yx
 generalize w2.alloc (Um li co x) = W2 at Vr Qm Nm HM3 ⊢
 have V0 := xB Qm.o
 have Nn : xQ (∀ W : World, W.heap[db]? = some (Um li co x) -> W.cell? ⟨db, 0, none⟩ = some (.int .i64 0) /\ W.cell? ⟨db, 1, none⟩ = some (.int .i64 li) /\ W.cell? ⟨db, 2, none⟩ = some (.int .i64 co) /\ W.cell? ⟨db, 3, none⟩ = some (.int .i64 x)) := fun W h => (Z6 h).1
 have Qf := Nn.o W2 Qm.o
 have Nv := xB Nm.o
 obtain ⟨⟨r0, r1, r2, r3⟩, ⟨f0, f1, f2, f3⟩, Xu⟩ := Z6 Nm.o
 obtain ⟨s0, s1, s2, s3⟩ := Qf
 go_region
 go_wp2_with fail
 have Uy := set4 Nm.o (.int .i64 0) (.int .i64 li) (.int .i64 co) (.int .i64 x)
 have hsz : ((((W2.setCell ⟨w.heap.size, 0, none⟩ (.int .i64 0)).setCell ⟨w.heap.size, 1, none⟩ (.int .i64 li)).setCell ⟨w.heap.size, 2, none⟩ (.int .i64 co)).setCell ⟨w.heap.size, 3, none⟩ (.int .i64 x)).heap.size = W2.heap.size := Mg ..
 refine bodyPost_ret (Lx.results_tmp_cell rfl _ rfl ((xA (by rw [hsz]; exact Nv)).trans Uy) underlying29 (by kernel_rfl)) rfl ?_
 refine ⟨((V9 Vr.o (xR) _ _ _ _).alloc (by rw [hsz]; exact Vr.o.size) _).drew, ?_⟩
 have HM4 := HM3.o
 have HRo := HR.o
 cases R with
 | inr p =>
  obtain rfl : p = (x, li, co) := HM4;exact ⟨_, rfl⟩
 | inl ts =>
  obtain ⟨g, rfl, rfl, rfl, rfl, rfl, h6, h7, h8⟩ := HM4;have ok := E2 HRo.symm
  have hgn : g ≠ w.heap.size := by omega
  refine ⟨W2.heap.size, g, gc, rfl, by have := Vr.o.size; omega, 0, ?_, ok.pos, (fun b e => Sum.inl.inj e.symm), (fun _ e => nomatch e), h7, ?_⟩
  ·have := xL ((((W2.setCell ⟨w.heap.size, 0, none⟩ (.int .i64 0)).setCell ⟨w.heap.size, 1, none⟩ (.int .i64 ((0 : Nat) : Int))).setCell ⟨w.heap.size, 2, none⟩ (.int .i64 ((0 : Nat) : Int))).setCell ⟨w.heap.size, 3, none⟩ (.int .i64 0)) (rpO g ts.length gc 0 0 0 0 0)
   rw [hsz] at this;exact this
  ·exact Qk h6 ((xA (by rw [hsz]; exact h7)).trans (Xs hgn _ _ _ _))
theorem lF {α : Type} (ts : List Tok) (R : Pr α) : (∃ x b, R = .inl (x, b) /\ M7 ts (Zf R) = .inl b /\ Bh (Bz ts R) = .inl x) ∨ ∃ p, M7 ts (Zf R) = .inr p /\ Bh (Bz ts R) = .inr p := by
 cases R with
 | inr p => exact .inr ⟨p, rfl, rfl⟩
 | inl q =>
  obtain ⟨x, b⟩ := q;by_cases h : ((Zk ts b).kind == 0) = true
  ·refine .inl ⟨x, b, rfl, if_pos h, ?_⟩
   show Bh (if (Zk ts b).kind == 0 then .inl (x, b) else Wa ts 7 b) = _;rw [if_pos h];rfl
  ·refine .inr ⟨(7, (Zk ts b).line, (Zk ts b).col), if_neg h, ?_⟩
   show Bh (if (Zk ts b).kind == 0 then .inl (x, b) else Wa ts 7 b) = _;rw [if_neg h];rfl
theorem A9 (w : World) (i : Nat) : w.drew.heap[i]? = w.heap[i]? := rfl
end Go.Proofs.YtfoejkhfdiodhaaGreatDoor
