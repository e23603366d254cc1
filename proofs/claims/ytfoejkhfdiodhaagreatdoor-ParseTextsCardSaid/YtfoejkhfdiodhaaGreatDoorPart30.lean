/- Part. -/
import Derived.Test.YtfoejkhfdiodhaaGreatDoorPart29
set_option maxRecDepth 100000
set_option maxHeartbeats 4000000
namespace Go.Proofs.YtfoejkhfdiodhaaGreatDoor
open Go.Proofs.Tryz
open Go.RowKit
theorem jL {s s' : List UInt8} {ex ex' : Bool} {vs vs' : List (List UInt8 × Ty)} {pm pm' : List UInt8} {tys tys' : List Ty} {B B' : Ty} {l l' c c' : Nat} (h : Qu s ex vs pm tys B l c = Qu s' ex' vs' pm' tys' B' l' c') : s = s' /\ ex = ex' /\ vs = vs' /\ pm = pm' /\ tys = tys' /\ B = B' /\ l = l' /\ c = c' := by
 unfold Qu at h
 simp only [DataW.agg.injEq, List.cons.injEq, DataW.lit.injEq, Lit.int.injEq, Lit.string.injEq, Lit.bool.injEq, true_and, and_true] at h
 obtain ⟨h1, h2, h3, h4, h5, h6, h7, h8⟩ := h
 refine ⟨h1, h2, (List.map_inj_right fun x y e => ?_).1 h3, h4, h5, h6, by omega, by omega⟩
 simp only [DataW.agg.injEq, List.cons.injEq, DataW.lit.injEq, Lit.string.injEq, and_true] at e
 exact Prod.ext e.1 e.2
theorem jM {s s' : List UInt8} {ns ns' : List (List UInt8)} {l l' c c' : Nat} (h : Bo s ns l c = Bo s' ns' l' c') : s = s' /\ ns = ns' /\ l = l' /\ c = c' := by
 unfold Bo at h
 simp only [DataW.agg.injEq, List.cons.injEq, DataW.lit.injEq, Lit.int.injEq, Lit.string.injEq, true_and, and_true] at h
 obtain ⟨h1, h2, h3, h4⟩ := h
 refine ⟨h1, (List.map_inj_right fun x y e => ?_).1 h2, by omega, by omega⟩
 simp only [DataW.lit.injEq, Lit.string.injEq] at e
 exact e
theorem mH {w : World} {lo : Nat} {a : Option Addr} {vs : List (List UInt8 × Ty)} (h : Be lo w a vs) {i : Nat} (hi : i < vs.length) : ∃ (g : Nat) (k : Int) (nm : ByteArray) (na : Option Addr) (nl nc : Nat) (ka : Option Addr) (kl kc m : Nat), a = some ⟨g, 0, none⟩ /\ g < w.heap.size /\
  (w.cell? ⟨g, i * 5, none⟩ = some (.string ⟨vs[i].1.toArray⟩) /\ w.cell? ⟨g, i * 5 + 1, none⟩ = some (.int .i64 k) /\ w.cell? ⟨g, i * 5 + 2, none⟩ = some (.string nm) /\ w.cell? ⟨g, i * 5 + 3, none⟩ = some (.slice na nl nc) /\ w.cell? ⟨g, i * 5 + 4, none⟩ = some (.slice ka kl kc)) /\ Bc w lo m (.agg #[.int .i64 k, .string nm, .slice na nl nc, .slice ka kl kc]) vs[i].2 := by
 rcases h with rfl | ⟨g, e, _, hc, hr⟩
 ·cases hi
 ·obtain ⟨c, h1, h2, k, nm, na, nl, nc, ka, kl, kc, rfl, m, ht⟩ := hr i hi
  exact ⟨g, k, nm, na, nl, nc, ka, kl, kc, m, e, Nr hc, ⟨h2 0 (by omega), h2 1 (by omega), h2 2 (by omega), h2 3 (by omega), h2 4 (by omega)⟩, ht⟩
theorem bZ {lo lo' : Nat} {w : World} {c c' : List Value} {D : Ty} (h : N2 lo w c D) (h' : N2 lo' w c' D) :
  Calls prog 17 #[.agg c.toArray, .agg c'.toArray] w fun e w' => e = .returned (.bool true) /\ Below w.heap.size w w' := by
 obtain ⟨s, ex, vs, va, vc, pm, ta, tc, tys, x, B, li, co, m, rfl, rfl, hvl, Vd, hvs, hts, hx⟩ := h
 obtain ⟨s', ex', vs', va', vc', pm', ta', tc', tys', y, B', li', co', m', rfl, e, _, _, hvs', hts', hy⟩ := h'
 obtain ⟨rfl, rfl, rfl, rfl, rfl, rfl, rfl, rfl⟩ := jL e
 clear e
 obtain ⟨S1, P7⟩ : ∃ S1 : ByteArray, S1 = ⟨s.toArray⟩ := ⟨_, rfl⟩
 obtain ⟨S2, K7⟩ : ∃ S2 : ByteArray, S2 = ⟨pm.toArray⟩ := ⟨_, rfl⟩
 rw [<- P7, <- K7]
 have e1 : (S1.toList == S1.toList) = true := by simp
 have e2 : (S2.toList == S2.toList) = true := by simp
 have e3 : (ex == ex) = true := by simp
 clear P7 K7
 obtain ⟨W, hW⟩ := xE ((w.alloc (dO S1 ex (.slice va vs.length vc) S2 (.slice ta 2 tc) x li co)).alloc (dO S1 ex (.slice va' vs.length vc') S2 (.slice ta' 2 tc') y li co))
 have Wk : Below w.heap.size w W := by rw [hW]; exact Zx (Zq _ _) (Zq _ _)
 have J1 : xQ (W.heap[w.heap.size]? = some (dO S1 ex (.slice va vs.length vc) S2 (.slice ta 2 tc) x li co)) := by rw [hW]; exact (xA (by simp)).trans (xL w _)
 have Lm : xQ (W.heap[w.heap.size + 1]? = some (dO S1 ex (.slice va' vs.length vc') S2 (.slice ta' 2 tc') y li co)) := by rw [hW]; exact Ti w _ _
 have Po : xQ (∀ wx, Below W.heap.size W wx -> wx.heap[w.heap.size]? = some (dO S1 ex (.slice va vs.length vc) S2 (.slice ta 2 tc) x li co) /\ wx.heap[w.heap.size + 1]? = some (dO S1 ex (.slice va' vs.length vc') S2 (.slice ta' 2 tc') y li co)) := fun wx Xd => ⟨(Xd.block _ (xB J1.o)).trans J1.o, (Xd.block _ (xB Lm.o)).trans Lm.o⟩
 have HB0 := Za Wk
 have HVA := Za (Ql hvs Wk.size fun b _ hl => Wk.block b hl)
 have HVB := Za (Ql hvs' Wk.size fun b _ hl => Wk.block b hl)
 have Q6 : xQ (∀ wx, Below W.heap.size W wx -> Calls prog 40 #[.slice ta 2 tc, .slice ta' 2 tc'] wx fun e w' => e = .returned (.bool true) /\ Below wx.heap.size wx w') := fun wx Xd => by
  have := zG (max m m') (I9 (max m m')) ta ta' tc tc' tys wx (Rl (Ik (E1 hts (Nat.le_max_left _ _))) (Zx Wk Xd)) (Rl (Ik (E1 hts' (Nat.le_max_right _ _))) (Zx Wk Xd)) (by omega);rw [Vd] at this;exact this
 have Tt : xQ (∀ wx, Below W.heap.size W wx -> Calls prog 41 #[x.val, y.val] wx fun e w' => e = .returned (.bool true) /\ Below wx.heap.size wx w') := fun wx Xd => by
  obtain ⟨m1, hx⟩ := hx;obtain ⟨m2, hy⟩ := hy;exact tI (max m1 m2) x y _ _ _ _ (I6 (Ga hx (Nat.le_max_left _ _)) (Zx Wk Xd)) (I6 (Ga hy (Nat.le_max_right _ _)) (Zx Wk Xd))
 clear hvs hvs' hts hts' hx hy Wk
 obtain ⟨⟨x0, x1, x2, x3, x4, x5, x6, x7, x8, x9, x10, x11, x12, x13, x14⟩, _, Hg⟩ := U3 J1.o
 obtain ⟨⟨y0, y1, y2, y3, y4, y5, y6, y7, y8, y9, y10, y11, y12, y13, y14⟩, _, Gr⟩ := U3 Lm.o
 go_enter func17, ntmps17
 go_wp2_with fail
 rw [<- hW]
 clear hW
 go_loopw [5] (fun i wx => ∃ j : Nat, i = .int .i64 j /\ j <= vs.length /\ xQ (Below W.heap.size W wx)) (fun i _ => vs.length - (intOf i).toNat)
 case atStart => exact ⟨0, rfl, xZ _, Below.refl _ _⟩
 case round =>
  obtain ⟨j, rfl, hj, Z8⟩ := hrel;clear x0 x1 x2 x3 x4 x5 x6 x7 x8 x9 x10 x11 x12 x13 x14 y0 y1 y2 y3 y4 y5 y6 y7 y8 y9 y10 y11 y12 y13 y14 Hg Gr;obtain ⟨⟨x0, x1, x2, x3, x4, x5, x6, x7, x8, x9, x10, x11, x12, x13, x14⟩, _, Hg⟩ := U3 (Po.o wr Z8.o).1;obtain ⟨⟨y0, y1, y2, y3, y4, y5, y6, y7, y8, y9, y10, y11, y12, y13, y14⟩, _, Gr⟩ := U3 (Po.o wr Z8.o).2;by_cases Zo : j < vs.length
  ·have Qt : (j : Int) < (vs.length : Int) := by omega
   clear x0 x1 x3 x4 x5 x6 x7 x8 x9 x10 x11 x12 x13 x14 y0 y1 y3 y4 y5 y6 y7 y8 y9 y10 y11 y12 y13 y14;obtain ⟨g, k1, nm1, na1, nl1, nc1, ka1, kl1, kc1, m1, rfl, Vj, Bk, Vt⟩ := mH HVA.o Zo;obtain ⟨g', k2, nm2, na2, nl2, nc2, ka2, kl2, kc2, m2, rfl, Wu, Ns, Hl⟩ := mH HVB.o Zo
   obtain ⟨N1, hN1⟩ : ∃ N1 : ByteArray, N1 = ⟨vs[j].1.toArray⟩ := ⟨_, rfl⟩
   rw [<- hN1] at Bk Ns
   have e4 : (N1.toList == N1.toList) = true := by simp
   have HSK : xQ (∀ wx, Below wr.heap.size wr wx -> wx.cell? ⟨w.heap.size, 2, none⟩ = some (.slice (some ⟨g, 0, none⟩) vs.length vc) /\ wx.cell? ⟨w.heap.size + 1, 2, none⟩ = some (.slice (some ⟨g', 0, none⟩) vs.length vc') /\ wx.cell? ⟨g, j * 5, none⟩ = some (.string N1) /\ wx.cell? ⟨g, j * 5 + 1, none⟩ = some (.int .i64 k1) /\ wx.cell? ⟨g, j * 5 + 2, none⟩ = some (.string nm1) /\ wx.cell? ⟨g, j * 5 + 3, none⟩ = some (.slice na1 nl1 nc1) /\ wx.cell? ⟨g, j * 5 + 4, none⟩ = some (.slice ka1 kl1 kc1) /\ wx.cell? ⟨g', j * 5, none⟩ = some (.string N1) /\ wx.cell? ⟨g', j * 5 + 1, none⟩ = some (.int .i64 k2) /\ wx.cell? ⟨g', j * 5 + 2, none⟩ = some (.string nm2) /\ wx.cell? ⟨g', j * 5 + 3, none⟩ = some (.slice na2 nl2 nc2) /\ wx.cell? ⟨g', j * 5 + 4, none⟩ = some (.slice ka2 kl2 kc2)) := fun wx Xd => by
    have hB := Zx Z8.o Xd;obtain ⟨q0, q1, q2, q3, q4⟩ := Bk;obtain ⟨p0, p1, p2, p3, p4⟩ := Ns;exact ⟨(U3 (Po.o wx hB).1).1.2.2.1, (U3 (Po.o wx hB).2).1.2.2.1, (hB.cell (p := ⟨g, _, none⟩) Vj).trans q0, (hB.cell (p := ⟨g, _, none⟩) Vj).trans q1, (hB.cell (p := ⟨g, _, none⟩) Vj).trans q2, (hB.cell (p := ⟨g, _, none⟩) Vj).trans q3, (hB.cell (p := ⟨g, _, none⟩) Vj).trans q4, (hB.cell (p := ⟨g', _, none⟩) Wu).trans p0, (hB.cell (p := ⟨g', _, none⟩) Wu).trans p1, (hB.cell (p := ⟨g', _, none⟩) Wu).trans p2, (hB.cell (p := ⟨g', _, none⟩) Wu).trans p3, (hB.cell (p := ⟨g', _, none⟩) Wu).trans p4⟩
   have HC : xQ (∀ wx, Below wr.heap.size wr wx -> Calls prog 39 #[.agg #[.int .i64 k1, .string nm1, .slice na1 nl1 nc1, .slice ka1 kl1 kc1], .agg #[.int .i64 k2, .string nm2, .slice na2 nl2 nc2, .slice ka2 kl2 kc2]] wx fun e w' => e = .returned (.bool true) /\ Below wr.heap.size wr w') := fun wx Xd =>
    (I9 (max m1 m2) _ _ vs[j].2 wx (Cg (yO (Gg Vt (Nat.le_max_left _ _))) (Zx Z8.o Xd)) (Cg (yO (Gg Hl (Nat.le_max_right _ _))) (Zx Z8.o Xd))).mono fun e w' ⟨e1, e2⟩ => ⟨e1, Zx Xd e2⟩
   have Vx := HSK.o wr.drew (Below.refl _ _).drew;clear Bk Ns Vt Hl hN1;go_wp2_with fail
   go_region_held (fun W => W.cell? ⟨w.heap.size, 2, none⟩ = some (.slice (some ⟨g, 0, none⟩) vs.length vc) /\ W.cell? ⟨w.heap.size + 1, 2, none⟩ = some (.slice (some ⟨g', 0, none⟩) vs.length vc') /\ W.cell? ⟨g, j * 5, none⟩ = some (.string N1) /\ W.cell? ⟨g, j * 5 + 1, none⟩ = some (.int .i64 k1) /\ W.cell? ⟨g, j * 5 + 2, none⟩ = some (.string nm1) /\ W.cell? ⟨g, j * 5 + 3, none⟩ = some (.slice na1 nl1 nc1) /\ W.cell? ⟨g, j * 5 + 4, none⟩ = some (.slice ka1 kl1 kc1) /\ W.cell? ⟨g', j * 5, none⟩ = some (.string N1) /\ W.cell? ⟨g', j * 5 + 1, none⟩ = some (.int .i64 k2) /\ W.cell? ⟨g', j * 5 + 2, none⟩ = some (.string nm2) /\ W.cell? ⟨g', j * 5 + 3, none⟩ = some (.slice na2 nl2 nc2) /\ W.cell? ⟨g', j * 5 + 4, none⟩ = some (.slice ka2 kl2 kc2)) (assumption) (first
    | (go_at_call 39; refine (HC.o _ (by first | exact Below.refl _ _ | exact below_drewN (Below.refl _ _) _ | exact (Below.refl _ _).drew)).mono ?_; rintro e w5 ⟨rfl, U5⟩; have t5 := HSK.o _ U5; have L8 := Za U5; clear U5))
   all_goals go_wp2_with fail
   all_goals obtain ⟨a0, a1, q0, _, _, _, _, p0, _, _, _, _⟩ := t5
   all_goals go_quiet (fail)
   all_goals go_wp2_with fail
   all_goals exact ⟨⟨j + 1, by go_num, by omega, below_drewN (Zx Z8.o L8.o) _⟩, by simp [intOf]; omega⟩
  ·have Qt : ¬ (j : Int) < (vs.length : Int) := by omega
   go_wp2_with fail;refine (Q6.o _ Z8.o).mono ?_;rintro e w3 ⟨rfl, Q1⟩;have Vr := Za (Zx Z8.o Q1);clear Q1 x0 x1 x2 x3 x4 x5 x6 x7 x8 x9 x10 x11 x12 x13 x14 y0 y1 y2 y3 y4 y5 y6 y7 y8 y9 y10 y11 y12 y13 y14 Hg Gr;obtain ⟨⟨x0, x1, x2, x3, x4, x5, x6, x7, x8, x9, x10, x11, x12, x13, x14⟩, _, Hg⟩ := U3 (Po.o w3 Vr.o).1;obtain ⟨⟨y0, y1, y2, y3, y4, y5, y6, y7, y8, y9, y10, y11, y12, y13, y14⟩, _, Gr⟩ := U3 (Po.o w3 Vr.o).2
   go_wp2_with fail;refine (Tt.o _ Vr.o).mono ?_;rintro e w4 ⟨rfl, Ha⟩;have Mk := Za (Zx Vr.o Ha);clear Ha;go_wp2_with fail;go_ret;exact ⟨rfl, Zx HB0.o Mk.o⟩
theorem vO {w : World} {lo : Nat} {a : Option Addr} {xs : List Ty} (h : J3 N9 4 lo w a xs) {i : Nat} (hi : i < xs.length) : ∃ (g : Nat) (s : List UInt8) (l : List (List UInt8)) (na : Option Addr) (nc li co : Nat), a = some ⟨g, 0, none⟩ /\ g < w.heap.size /\
  (w.cell? ⟨g, i * 4, none⟩ = some (.string ⟨s.toArray⟩) /\ w.cell? ⟨g, i * 4 + 1, none⟩ = some (.slice na l.length nc) /\ w.cell? ⟨g, i * 4 + 2, none⟩ = some (.int .i64 li) /\ w.cell? ⟨g, i * 4 + 3, none⟩ = some (.int .i64 co)) /\ xs[i] = Bo s l li co /\ l.length <= 8193 /\ Db w na l := by
 rcases h with rfl | ⟨g, e, _, hc, hr⟩
 ·cases hi
 ·obtain ⟨c, h1, h2, s, l, na, nc, li, co, rfl, h3, h4, h5⟩ := hr i hi
  exact ⟨g, s, l, na, nc, li, co, e, Nr hc, ⟨h2 0 (by omega), h2 1 (by omega), h2 2 (by omega), h2 3 (by omega)⟩, h3, h4, h5.at⟩
theorem wI {w : World} {lo : Nat} {a : Option Addr} {xs : List Ty} (h : J3 N2 15 lo w a xs) {i : Nat} (hi : i < xs.length) : ∃ (g : Nat) (c0 c1 c2 c3 c4 c5 c6 c7 c8 c9 c10 c11 c12 c13 c14 : Value), a = some ⟨g, 0, none⟩ /\ g < w.heap.size /\ (w.cell? ⟨g, i * 15, none⟩ = some c0 /\ w.cell? ⟨g, i * 15 + 1, none⟩ = some c1 /\ w.cell? ⟨g, i * 15 + 2, none⟩ = some c2 /\ w.cell? ⟨g, i * 15 + 3, none⟩ = some c3 /\ w.cell? ⟨g, i * 15 + 4, none⟩ = some c4 /\ w.cell? ⟨g, i * 15 + 5, none⟩ = some c5 /\ w.cell? ⟨g, i * 15 + 6, none⟩ = some c6 /\ w.cell? ⟨g, i * 15 + 7, none⟩ = some c7 /\ w.cell? ⟨g, i * 15 + 8, none⟩ = some c8 /\ w.cell? ⟨g, i * 15 + 9, none⟩ = some c9 /\ w.cell? ⟨g, i * 15 + 10, none⟩ = some c10 /\ w.cell? ⟨g, i * 15 + 11, none⟩ = some c11 /\ w.cell? ⟨g, i * 15 + 12, none⟩ = some c12 /\ w.cell? ⟨g, i * 15 + 13, none⟩ = some c13 /\ w.cell? ⟨g, i * 15 + 14, none⟩ = some c14) /\ N2 lo w [c0, c1, c2, c3, c4, c5, c6, c7, c8, c9, c10, c11, c12, c13, c14] xs[i] := by
 rcases h with rfl | ⟨g, e, _, hc, hr⟩
 ·cases hi
 ·obtain ⟨c, h1, h2, h3⟩ := hr i hi
  have h4 := h3;obtain ⟨s, ex, vs, va, vc, pm, ta, tc, tys, x, B, li, co, m, rfl, _⟩ := h4;exact ⟨g, _, _, _, _, _, _, _, _, _, _, _, _, _, _, _, e, Nr hc, ⟨h2 0 (by omega), h2 1 (by omega), h2 2 (by omega), h2 3 (by omega), h2 4 (by omega), h2 5 (by omega), h2 6 (by omega), h2 7 (by omega), h2 8 (by omega), h2 9 (by omega), h2 10 (by omega), h2 11 (by omega), h2 12 (by omega), h2 13 (by omega), h2 14 (by omega)⟩, h3⟩
theorem jR {lo lo' : Nat} {w : World} {x y : MV} {D : List Ty × List Ty} (h : Vu lo w x D) (h' : Vu lo' w y D) :
  Calls prog 7 #[x.val, y.val] w fun e w' => e = .returned (.bool true) /\ Below w.heap.size w w' := by
 obtain ⟨ia, il, ic, da, dl, dc⟩ := x
 obtain ⟨ia', il', ic', da', dl', dc'⟩ := y
 obtain ⟨h1, h2, h3, h4, hi, hd⟩ := h
 obtain ⟨h1', h2', _, _, Qs, hd'⟩ := h'
 dsimp only at h1 h2 hi hd h1' h2' Qs hd'
 subst h1 h2 h1' h2'
 obtain ⟨is, ds⟩ := D
 dsimp only at h3 h4 hi hd Qs hd' ⊢
 obtain ⟨W, hW⟩ := xE ((w.alloc (MV.obj ⟨ia, is.length, ic, da, ds.length, dc⟩)).alloc (MV.obj ⟨ia', is.length, ic', da', ds.length, dc'⟩))
 have Wk : Below w.heap.size w W := by rw [hW]; exact Zx (Zq _ _) (Zq _ _)
 have J1 : xQ (W.heap[w.heap.size]? = some (MV.obj ⟨ia, is.length, ic, da, ds.length, dc⟩)) := by rw [hW]; exact (xA (by simp)).trans (xL w _)
 have Lm : xQ (W.heap[w.heap.size + 1]? = some (MV.obj ⟨ia', is.length, ic', da', ds.length, dc'⟩)) := by rw [hW]; exact Ti w _ _
 have Po : xQ (∀ wx, Below W.heap.size W wx -> (wx.cell? ⟨w.heap.size, 0, none⟩ = some (.slice ia is.length ic) /\ wx.cell? ⟨w.heap.size, 1, none⟩ = some (.slice da ds.length dc)) /\ wx.cell? ⟨w.heap.size + 1, 0, none⟩ = some (.slice ia' is.length ic') /\ wx.cell? ⟨w.heap.size + 1, 1, none⟩ = some (.slice da' ds.length dc')) := fun wx Xd => ⟨(Qd (x := ⟨ia, is.length, ic, da, ds.length, dc⟩) ((Xd.block _ (xB J1.o)).trans J1.o)).1, (Qd (x := ⟨ia', is.length, ic', da', ds.length, dc'⟩) ((Xd.block _ (xB Lm.o)).trans Lm.o)).1⟩
 have HB0 := Za Wk
 have HIA := Za (Rz Do hi Wk.size fun b _ hl => Wk.block b hl)
 have HIB := Za (Rz Do Qs Wk.size fun b _ hl => Wk.block b hl)
 have HDA := Za (Rz Gp hd Wk.size fun b _ hl => Wk.block b hl)
 have HDB := Za (Rz Gp hd' Wk.size fun b _ hl => Wk.block b hl)
 clear hi Qs hd hd' Wk
 obtain ⟨⟨x0, x1⟩, y0, y1⟩ := Po.o W (Below.refl _ _)
 have hlx := xB J1.o
 have hly := xB Lm.o
 go_enter func7, ntmps7
 go_wp2_with fail
 rw [<- hW]
 clear hW
 go_loopw [5] (fun i wx => ∃ j : Nat, i = .int .i64 j /\ j <= is.length /\ xQ (Below W.heap.size W wx)) (fun i _ => is.length - (intOf i).toNat)
 case atStart => exact ⟨0, rfl, xZ _, Below.refl _ _⟩
 case round =>
  obtain ⟨j, rfl, hj, Z8⟩ := hrel;clear x0 x1 y0 y1;obtain ⟨⟨x0, x1⟩, y0, y1⟩ := Po.o wr Z8.o;have hwr := Z8.o.size
  have hlx' : w.heap.size < wr.heap.size := by omega
  have hly' : w.heap.size + 1 < wr.heap.size := by omega
  by_cases Zo : j < is.length
  ·have Qt : (j : Int) < (is.length : Int) := by omega
   obtain ⟨g, s, l, na, nc, li, co, rfl, Vj, ⟨q0, q1, q2, q3⟩, e1, hl, hn⟩ := vO HIA.o Zo;obtain ⟨g', s', l', na', nc', li', co', rfl, Wu, ⟨p0, p1, p2, p3⟩, e2, _, hn'⟩ := vO HIB.o Zo;obtain ⟨rfl, rfl, rfl, rfl⟩ := jM (e1.symm.trans e2)
   obtain ⟨S1, P7⟩ : ∃ S1 : ByteArray, S1 = ⟨s.toArray⟩ := ⟨_, rfl⟩
   rw [<- P7] at q0 p0
   have e4 : (S1.toList == S1.toList) = true := by simp
   replace q0 := (Z8.o.cell (p := ⟨g, _, none⟩) Vj).trans q0;replace q1 := (Z8.o.cell (p := ⟨g, _, none⟩) Vj).trans q1;replace q2 := (Z8.o.cell (p := ⟨g, _, none⟩) Vj).trans q2;replace q3 := (Z8.o.cell (p := ⟨g, _, none⟩) Vj).trans q3;replace p0 := (Z8.o.cell (p := ⟨g', _, none⟩) Wu).trans p0;replace p1 := (Z8.o.cell (p := ⟨g', _, none⟩) Wu).trans p1;replace p2 := (Z8.o.cell (p := ⟨g', _, none⟩) Wu).trans p2
   replace p3 := (Z8.o.cell (p := ⟨g', _, none⟩) Wu).trans p3;replace Vj := xT Vj hwr;replace Wu := xT Wu hwr;have HN := Za hn;have HN' := Za hn';clear e1 e2 P7 hn hn';go_wp2_with fail;have U5 : Below wr.heap.size wr ((wr.alloc (.cells #[.string S1, .slice na l.length nc, .int .i64 li, .int .i64 co] 58)).alloc (.cells #[.string S1, .slice na' l.length nc', .int .i64 li, .int .i64 co] 58)) := Zx (Zq _ _) (Zq _ _)
   have HXC := Za ((Below.heap_alloc (wr.alloc (.cells #[.string S1, .slice na l.length nc, .int .i64 li, .int .i64 co] 58)) (.cells #[.string S1, .slice na' l.length nc', .int .i64 li, .int .i64 co] 58) _ (by rw [xS]; omega)).trans (xL wr _));have HXD := Za (Ti wr (.cells #[.string S1, .slice na l.length nc, .int .i64 li, .int .i64 co] 58) (.cells #[.string S1, .slice na' l.length nc', .int .i64 li, .int .i64 co] 58))
   have L8 := Za (Zx Z8.o U5);refine (yL na na' nc nc' l _ (Ak HN.o L8.o) (Ak HN'.o L8.o) (by omega)).mono ?_;rintro e w6 ⟨rfl, q, rfl⟩;clear U5 q0 q1 q2 q3 p0 p1 p2 p3;generalize (wr.alloc (.cells #[.string S1, .slice na l.length nc, .int .i64 li, .int .i64 co] 58)).alloc (.cells #[.string S1, .slice na' l.length nc', .int .i64 li, .int .i64 co] 58) = W5 at HXC HXD L8 ⊢;obtain ⟨⟨q0, q1, q2, q3⟩, _, hql⟩ := Z6 HXC.o
   obtain ⟨⟨p0, p1, p2, p3⟩, _, Xc⟩ := Z6 HXD.o;go_wp2_with fail;exact ⟨⟨j + 1, by go_num, by omega, below_drewN L8.o q⟩, by simp [intOf]; omega⟩
  ·have Qt : ¬ (j : Int) < (is.length : Int) := by omega
   go_wp2_with fail
   go_loopw [9] (fun i wx => ∃ j : Nat, i = .int .i64 j /\ j <= ds.length /\ xQ (Below W.heap.size W wx)) (fun i _ => ds.length - (intOf i).toNat)
   case atStart => exact ⟨0, rfl, xZ _, Z8⟩
   case round =>
    clear x0 x1 y0 y1 Z8 hwr hlx' hly' hj Zo Qt;obtain ⟨j, rfl, hj, Z8⟩ := hrel;obtain ⟨⟨x0, x1⟩, y0, y1⟩ := Po.o _ Z8.o;by_cases Zo : j < ds.length
    ·have Qt : (j : Int) < (ds.length : Int) := by omega
     obtain ⟨g, c0, c1, c2, c3, c4, c5, c6, c7, c8, c9, c10, c11, c12, c13, c14, rfl, Vj, Bk, Vt⟩ := wI HDA.o Zo;obtain ⟨g', d0, d1, d2, d3, d4, d5, d6, d7, d8, d9, d10, d11, d12, d13, d14, rfl, Wu, Ns, Hl⟩ := wI HDB.o Zo
     have HSK : xQ (∀ wx, Below wr.heap.size wr wx -> wx.cell? ⟨w.heap.size, 1, none⟩ = some (.slice (some ⟨g, 0, none⟩) ds.length dc) /\ wx.cell? ⟨w.heap.size + 1, 1, none⟩ = some (.slice (some ⟨g', 0, none⟩) ds.length dc') /\ wx.cell? ⟨g, j * 15, none⟩ = some c0 /\ wx.cell? ⟨g, j * 15 + 1, none⟩ = some c1 /\ wx.cell? ⟨g, j * 15 + 2, none⟩ = some c2 /\ wx.cell? ⟨g, j * 15 + 3, none⟩ = some c3 /\ wx.cell? ⟨g, j * 15 + 4, none⟩ = some c4 /\ wx.cell? ⟨g, j * 15 + 5, none⟩ = some c5 /\ wx.cell? ⟨g, j * 15 + 6, none⟩ = some c6 /\ wx.cell? ⟨g, j * 15 + 7, none⟩ = some c7 /\ wx.cell? ⟨g, j * 15 + 8, none⟩ = some c8 /\ wx.cell? ⟨g, j * 15 + 9, none⟩ = some c9 /\ wx.cell? ⟨g, j * 15 + 10, none⟩ = some c10 /\ wx.cell? ⟨g, j * 15 + 11, none⟩ = some c11 /\ wx.cell? ⟨g, j * 15 + 12, none⟩ = some c12 /\ wx.cell? ⟨g, j * 15 + 13, none⟩ = some c13 /\ wx.cell? ⟨g, j * 15 + 14, none⟩ = some c14 /\ wx.cell? ⟨g', j * 15, none⟩ = some d0 /\ wx.cell? ⟨g', j * 15 + 1, none⟩ = some d1 /\ wx.cell? ⟨g', j * 15 + 2, none⟩ = some d2 /\ wx.cell? ⟨g', j * 15 + 3, none⟩ = some d3 /\ wx.cell? ⟨g', j * 15 + 4, none⟩ = some d4 /\ wx.cell? ⟨g', j * 15 + 5, none⟩ = some d5 /\ wx.cell? ⟨g', j * 15 + 6, none⟩ = some d6 /\ wx.cell? ⟨g', j * 15 + 7, none⟩ = some d7 /\ wx.cell? ⟨g', j * 15 + 8, none⟩ = some d8 /\ wx.cell? ⟨g', j * 15 + 9, none⟩ = some d9 /\ wx.cell? ⟨g', j * 15 + 10, none⟩ = some d10 /\ wx.cell? ⟨g', j * 15 + 11, none⟩ = some d11 /\ wx.cell? ⟨g', j * 15 + 12, none⟩ = some d12 /\ wx.cell? ⟨g', j * 15 + 13, none⟩ = some d13 /\ wx.cell? ⟨g', j * 15 + 14, none⟩ = some d14) := fun wx Xd => by
      have hB := Zx Z8.o Xd;obtain ⟨⟨_, a1⟩, _, b1⟩ := Po.o wx hB;obtain ⟨q0, q1, q2, q3, q4, q5, q6, q7, q8, q9, q10, q11, q12, q13, q14⟩ := Bk;obtain ⟨p0, p1, p2, p3, p4, p5, p6, p7, p8, p9, p10, p11, p12, p13, p14⟩ := Ns;exact ⟨a1, b1, (hB.cell (p := ⟨g, _, none⟩) Vj).trans q0, (hB.cell (p := ⟨g, _, none⟩) Vj).trans q1, (hB.cell (p := ⟨g, _, none⟩) Vj).trans q2, (hB.cell (p := ⟨g, _, none⟩) Vj).trans q3, (hB.cell (p := ⟨g, _, none⟩) Vj).trans q4, (hB.cell (p := ⟨g, _, none⟩) Vj).trans q5, (hB.cell (p := ⟨g, _, none⟩) Vj).trans q6, (hB.cell (p := ⟨g, _, none⟩) Vj).trans q7, (hB.cell (p := ⟨g, _, none⟩) Vj).trans q8, (hB.cell (p := ⟨g, _, none⟩) Vj).trans q9, (hB.cell (p := ⟨g, _, none⟩) Vj).trans q10, (hB.cell (p := ⟨g, _, none⟩) Vj).trans q11, (hB.cell (p := ⟨g, _, none⟩) Vj).trans q12, (hB.cell (p := ⟨g, _, none⟩) Vj).trans q13, (hB.cell (p := ⟨g, _, none⟩) Vj).trans q14, (hB.cell (p := ⟨g', _, none⟩) Wu).trans p0, (hB.cell (p := ⟨g', _, none⟩) Wu).trans p1, (hB.cell (p := ⟨g', _, none⟩) Wu).trans p2, (hB.cell (p := ⟨g', _, none⟩) Wu).trans p3, (hB.cell (p := ⟨g', _, none⟩) Wu).trans p4, (hB.cell (p := ⟨g', _, none⟩) Wu).trans p5, (hB.cell (p := ⟨g', _, none⟩) Wu).trans p6, (hB.cell (p := ⟨g', _, none⟩) Wu).trans p7, (hB.cell (p := ⟨g', _, none⟩) Wu).trans p8, (hB.cell (p := ⟨g', _, none⟩) Wu).trans p9, (hB.cell (p := ⟨g', _, none⟩) Wu).trans p10, (hB.cell (p := ⟨g', _, none⟩) Wu).trans p11, (hB.cell (p := ⟨g', _, none⟩) Wu).trans p12, (hB.cell (p := ⟨g', _, none⟩) Wu).trans p13, (hB.cell (p := ⟨g', _, none⟩) Wu).trans p14⟩
     have HC : xQ (∀ wx, Below wr.heap.size wr wx -> Calls prog 17 #[.agg #[c0, c1, c2, c3, c4, c5, c6, c7, c8, c9, c10, c11, c12, c13, c14], .agg #[d0, d1, d2, d3, d4, d5, d6, d7, d8, d9, d10, d11, d12, d13, d14]] wx fun e w' => e = .returned (.bool true) /\ Below wr.heap.size wr w') := fun wx Xd => by
      have hB := Zx Z8.o Xd
      exact (bZ (Gp.keep Vt hB.size fun b _ hl => hB.block b hl) (Gp.keep Hl hB.size fun b _ hl => hB.block b hl)).mono fun e w' ⟨e1, e2⟩ => ⟨e1, Zx Xd e2⟩
     have Vx := HSK.o wr.drew (Below.refl _ _).drew;clear Bk Ns Vt Hl;go_wp2_with fail
     go_region_held (fun W => W.cell? ⟨w.heap.size, 1, none⟩ = some (.slice (some ⟨g, 0, none⟩) ds.length dc) /\ W.cell? ⟨w.heap.size + 1, 1, none⟩ = some (.slice (some ⟨g', 0, none⟩) ds.length dc') /\ W.cell? ⟨g, j * 15, none⟩ = some c0 /\ W.cell? ⟨g, j * 15 + 1, none⟩ = some c1 /\ W.cell? ⟨g, j * 15 + 2, none⟩ = some c2 /\ W.cell? ⟨g, j * 15 + 3, none⟩ = some c3 /\ W.cell? ⟨g, j * 15 + 4, none⟩ = some c4 /\ W.cell? ⟨g, j * 15 + 5, none⟩ = some c5 /\ W.cell? ⟨g, j * 15 + 6, none⟩ = some c6 /\ W.cell? ⟨g, j * 15 + 7, none⟩ = some c7 /\ W.cell? ⟨g, j * 15 + 8, none⟩ = some c8 /\ W.cell? ⟨g, j * 15 + 9, none⟩ = some c9 /\ W.cell? ⟨g, j * 15 + 10, none⟩ = some c10 /\ W.cell? ⟨g, j * 15 + 11, none⟩ = some c11 /\ W.cell? ⟨g, j * 15 + 12, none⟩ = some c12 /\ W.cell? ⟨g, j * 15 + 13, none⟩ = some c13 /\ W.cell? ⟨g, j * 15 + 14, none⟩ = some c14 /\ W.cell? ⟨g', j * 15, none⟩ = some d0 /\ W.cell? ⟨g', j * 15 + 1, none⟩ = some d1 /\ W.cell? ⟨g', j * 15 + 2, none⟩ = some d2 /\ W.cell? ⟨g', j * 15 + 3, none⟩ = some d3 /\ W.cell? ⟨g', j * 15 + 4, none⟩ = some d4 /\ W.cell? ⟨g', j * 15 + 5, none⟩ = some d5 /\ W.cell? ⟨g', j * 15 + 6, none⟩ = some d6 /\ W.cell? ⟨g', j * 15 + 7, none⟩ = some d7 /\ W.cell? ⟨g', j * 15 + 8, none⟩ = some d8 /\ W.cell? ⟨g', j * 15 + 9, none⟩ = some d9 /\ W.cell? ⟨g', j * 15 + 10, none⟩ = some d10 /\ W.cell? ⟨g', j * 15 + 11, none⟩ = some d11 /\ W.cell? ⟨g', j * 15 + 12, none⟩ = some d12 /\ W.cell? ⟨g', j * 15 + 13, none⟩ = some d13 /\ W.cell? ⟨g', j * 15 + 14, none⟩ = some d14) (assumption) (first
      | (go_at_call 17; refine (HC.o _ (by first | exact Below.refl _ _ | exact below_drewN (Below.refl _ _) _ | exact (Below.refl _ _).drew)).mono ?_; rintro e w5 ⟨rfl, U5⟩; have t5 := HSK.o _ U5; have L8 := Za U5; clear U5))
     all_goals go_wp2_with fail
     all_goals exact ⟨⟨j + 1, by go_num, by omega, Zx Z8.o L8.o⟩, by simp [intOf]; omega⟩
    ·have Qt : ¬ (j : Int) < (ds.length : Int) := by omega
     go_wp2_with fail;go_ret;exact ⟨rfl, Zx HB0.o Z8.o⟩
def mdT : (List Ty × List Ty) ⊕ (Int × Nat × Nat) -> List Ty × List Ty
 | .inl D => D
 | .inr _ => ([], [])
def dgM : (List Ty × List Ty) ⊕ (Int × Nat × Nat) -> Int × Nat × Nat
 | .inl _ => (0, 0, 0)
 | .inr p => p
theorem mP {w : World} {R : (List Ty × List Ty) ⊕ (Int × Nat × Nat)} {e : Ending} {w' : World} (h : J6 w Y2.val Da R e w') : Below w.heap.size w w' /\ ∃ x : MV, e = .returned (.tuple #[x.val, M6 (dgM R).2.1 (dgM R).2.2 (dgM R).1]) /\ Vu w.heap.size w' x (mdT R) := by
 obtain ⟨hb, hm⟩ := h
 refine ⟨hb, ?_⟩
 cases R with
 | inl D =>
  obtain ⟨v, rfl, x, rfl, hv⟩ := hm;exact ⟨x, rfl, hv⟩
 | inr p =>
  obtain ⟨er, li, co⟩ := p;exact ⟨Y2, hm, rfl, rfl, xZ _, xZ _, .inl rfl, .inl rfl⟩
theorem Vu.allocK {lo : Nat} {w : World} {x : MV} {D : List Ty × List Ty} (h : Vu lo w x D) (o : Obj) : Vu lo (w.alloc o) x D := h.keep (by rw [xS]; omega) fun b _ hl => xA hl
theorem parseTexts_walk (a : ByteArray) (w : World) (hw : Ou w) (hs : a.size <= 140737488351232) :
  Calls prog 3 #[.string a] w fun e w' => e = .returned (.bool true) /\ Below w.heap.size w w' := by
 have HW := Za hw
 have HA := Za (n9 w hw)
 clear hw
 have hz : ((a.size : Int) <= 9223372036854775807) := by omega
 go_enter func3, ntmps3
 go_wp2_with fail
 refine HA.o.mono ?_
 rintro e w1 ⟨rfl, Zt⟩
 have Yl := Za Zt
 clear Zt HA
 by_cases hlong : (70000 : Int) < (a.size : Int)
 ·go_wp2_with fail
  go_ret;exact ⟨rfl, Yl.o⟩
 go_wp2_with fail
 obtain ⟨R, hR⟩ := xE (Nk a.data.toList)
 have HR := Za hR
 refine (zW a hs _ (HW.o.lx.below Yl.o)).mono ?_
 rw [<- hR]
 clear hR
 intro e w2 Zg
 obtain ⟨Z0, x, rfl, hv1⟩ := mP Zg
 have Yx := Za (Zx Yl.o Z0)
 have HV1 := Za hv1
 clear Zg Z0 hv1
 obtain ⟨li, B5⟩ := xE ((dgM R).2.1)
 obtain ⟨co, Th⟩ := xE ((dgM R).2.2)
 obtain ⟨er, her⟩ := xE ((dgM R).1)
 rw [<- B5, <- Th, <- her]
 have HG := Za (And.intro B5 (And.intro Th her))
 clear B5 Th her
 have hB2 := Zx (Zq w2 x.obj) (Zq _ (Um li co er))
 have HBw := Za (Zx Yx.o hB2)
 have Kt := Za ((Below.heap_alloc (w2.alloc x.obj) (Um li co er) _ (by rw [xS]; omega)).trans (xL w2 x.obj))
 have Ku := Za (Ti w2 x.obj (Um li co er))
 have HVw := Za ((HV1.o.allocK x.obj).allocK (Um li co er))
 clear hB2 HV1 Yx
 go_wp2_with fail
 obtain ⟨ab, K8⟩ := xE w2.heap.size
 rw [<- K8] at Kt Ku ⊢
 clear K8
 generalize (w2.alloc (.cells #[.slice x.ia x.il x.ic, .slice x.da x.dl x.dc] 26)).alloc (.cells #[.int .i64 0, .int .i64 li, .int .i64 co, .int .i64 er] 29) = W2 at HBw Kt Ku HVw ⊢
 refine (fX a hs _).mono ?_
 rw [<- HR.o]
 intro e w3 Zg
 obtain ⟨Q1, y, rfl, hv2⟩ := mP Zg
 rw [<- HG.o.1, <- HG.o.2.1, <- HG.o.2.2]
 have hB3 := Zx Q1 (Zx (Zq w3 y.obj) (Zq _ (Um li co er)))
 have Vr := Za (Zx HBw.o hB3)
 have L7 := Za ((hB3.block _ (xB Kt.o)).trans Kt.o)
 have Qm := Za ((hB3.block _ (xB Ku.o)).trans Ku.o)
 have Bv := Za (HVw.o.keep hB3.size fun b _ hl => hB3.block b hl)
 have HE3 := Za ((Below.heap_alloc (w3.alloc y.obj) (Um li co er) _ (by rw [xS]; omega)).trans (xL w3 y.obj))
 have Tw := Za (Ti w3 y.obj (Um li co er))
 have HU3 := Za ((hv2.allocK y.obj).allocK (Um li co er))
 have P3 := Za HBw.o.size
 clear Zg Q1 hv2 hB3 HBw Kt Ku HVw
 obtain ⟨⟨a0, a1⟩, _, Lw⟩ := Qd L7.o
 obtain ⟨⟨e0, e1⟩, _, U8⟩ := Qd HE3.o
 have hw0 := Vr.o.size
 have HSz : xQ (((w3.alloc y.obj).alloc (Um li co er)).heap.size = w3.heap.size + 1 + 1) := by show _ = _; rw [xS, xS]
 have HW1 : xQ (w.heap.size <= w1.heap.size) := Yl.o.size
 have HW2 : xQ (w.heap.size <= W2.heap.size) := P3.o
 go_wp2_with fail
 generalize (w3.alloc (.cells #[.slice y.ia y.il y.ic, .slice y.da y.dl y.dc] 26)).alloc (.cells #[.int .i64 0, .int .i64 li, .int .i64 co, .int .i64 er] 29) = W3 at Vr L7 Qm Bv HE3 Tw HU3 Lw U8 a0 a1 e0 e1 hw0 HSz ⊢
 clear a0 a1 e0 e1
 refine (jR Bv.o HU3.o).mono ?_
 rintro e w4 ⟨rfl, Ha⟩
 have Mk := Za (Zx Vr.o Ha)
 obtain ⟨⟨d0, d1, d2, d3⟩, _, Nt⟩ := Z6 ((Ha.block _ (xB Qm.o)).trans Qm.o)
 obtain ⟨⟨f0, f1, f2, f3⟩, _, hfl⟩ := Z6 ((Ha.block _ (xB Tw.o)).trans Tw.o)
 clear Ha
 go_wp2_with fail
 go_ret
 exact ⟨rfl, Mk.o⟩
end Go.Proofs.YtfoejkhfdiodhaaGreatDoor
