/- Part. -/
import Derived.Test.YtfoejkhfdiodhaaGreatDoorPart17
set_option maxRecDepth 100000
set_option maxHeartbeats 4000000
namespace Go.Proofs.YtfoejkhfdiodhaaGreatDoor
open Go.Proofs.Tryz
open Go.RowKit
theorem uT {w : World} {na : Option Addr} {ns : List (List UInt8)} (h : Db w na ns) {i : Nat} (hi : i < ns.length) : ∃ b o, na = some ⟨b, o, none⟩ /\ b < w.heap.size /\ w.cell? ⟨b, o + i, none⟩ = some (.string ⟨ns[i].toArray⟩) := by
 rcases h with rfl | ⟨b, o, e, hb, hc⟩
 ·cases hi
 ·exact ⟨b, o, e, hb, hc i hi⟩
theorem yL (na nb : Option Addr) (ca cb : Nat) (ns : List (List UInt8)) (w : World) (ha : Db w na ns) (hb : Db w nb ns) (hl : ns.length <= 140737488351232) :
  Calls prog 16 #[.slice na ns.length ca, .slice nb ns.length cb] w fun e w' => e = .returned (.bool true) /\ ∃ q, w' = w.drewN q := by
 have HA := Za ha
 have HB := Za hb
 have e1 : ((ns.length : Int) != (ns.length : Int)) = false := by simp
 clear ha hb
 go_enter func16, ntmps16
 go_wp2_with fail
 go_loopw [5] (fun i wx => ∃ j q : Nat, i = .int .i64 j /\ j <= ns.length /\ wx = w.drewN q) (fun i _ => ns.length - (intOf i).toNat)
 case atStart => exact ⟨0, 0, rfl, xZ _, rfl⟩
 case round =>
  obtain ⟨j, q, rfl, hj, rfl⟩ := hrel;by_cases Zo : j < ns.length
  ·have Qt : (j : Int) < (ns.length : Int) := by omega
   obtain ⟨b, o, rfl, Z8, hc⟩ := uT HA.o Zo;obtain ⟨b', o', rfl, hbl', Hb⟩ := uT HB.o Zo
   obtain ⟨S1, P7⟩ : ∃ S1 : ByteArray, S1 = ⟨ns[j].toArray⟩ := ⟨_, rfl⟩
   rw [<- P7] at hc Hb
   have e5 : (S1.toList == S1.toList) = true := by simp
   clear P7;go_wp2_with fail
   go_quiet (fail)
   go_wp2_with fail;exact ⟨⟨j + 1, _, by go_num, by omega, rfl⟩, by simp [intOf]; omega⟩
  ·have Qt : ¬ (j : Int) < (ns.length : Int) := by omega
   go_wp2_with fail;go_ret;exact ⟨rfl, q, rfl⟩
def xI (n : Nat) : Prop := ∀ (va vb : Value) (D : Ty) (w : World), Dd w false n va D -> Dd w false n vb D -> Calls prog 39 #[va, vb] w fun e w' => e = .returned (.bool true) /\ Below w.heap.size w w'
theorem zG (n : Nat) (ih : xI n) (ka kb : Option Addr) (ca cb : Nat) (ks : List Ty) (w : World) (ha : A3 w false n ka ks) (hb : A3 w false n kb ks) (hl : ks.length <= 140737488351232) :
  Calls prog 40 #[.slice ka ks.length ca, .slice kb ks.length cb] w fun e w' => e = .returned (.bool true) /\ Below w.heap.size w w' := by
 have HA := Za ha
 have HB := Za hb
 have IH := Za ih
 have e1 : ((ks.length : Int) != (ks.length : Int)) = false := by simp
 clear ha hb ih
 go_enter func40, ntmps40
 go_wp2_with fail
 go_loopw [5] (fun i wx => ∃ j : Nat, i = .int .i64 j /\ j <= ks.length /\ xQ (Below w.heap.size w wx)) (fun i _ => ks.length - (intOf i).toNat)
 case atStart => exact ⟨0, rfl, xZ _, Below.refl _ _⟩
 case round =>
  obtain ⟨j, rfl, hj, Z8⟩ := hrel;by_cases Zo : j < ks.length
  ·have Qt : (j : Int) < (ks.length : Int) := by omega
   obtain ⟨b, o, k1, nm1, na1, nl1, nc1, la1, ll1, lc1, rfl, Zt, q0, q1, q2, q3, Vt⟩ := vV HA.o Zo;obtain ⟨b', o', k2, nm2, na2, nl2, nc2, la2, ll2, lc2, rfl, Z0, p0, p1, p2, p3, Hl⟩ := vV HB.o Zo
   have HSK : xQ (∀ wx, Below wr.heap.size wr wx -> wx.cell? ⟨b, o + j * 4, none⟩ = some (.int .i64 k1) /\ wx.cell? ⟨b, o + j * 4 + 1, none⟩ = some (.string nm1) /\ wx.cell? ⟨b, o + j * 4 + 2, none⟩ = some (.slice na1 nl1 nc1) /\ wx.cell? ⟨b, o + j * 4 + 3, none⟩ = some (.slice la1 ll1 lc1) /\ wx.cell? ⟨b', o' + j * 4, none⟩ = some (.int .i64 k2) /\ wx.cell? ⟨b', o' + j * 4 + 1, none⟩ = some (.string nm2) /\ wx.cell? ⟨b', o' + j * 4 + 2, none⟩ = some (.slice na2 nl2 nc2) /\ wx.cell? ⟨b', o' + j * 4 + 3, none⟩ = some (.slice la2 ll2 lc2)) := fun wx Xd => by
    have hB := Zx Z8.o Xd;exact ⟨(hB.cell (p := ⟨b, o + j * 4, none⟩) Zt).trans q0, (hB.cell (p := ⟨b, o + j * 4 + 1, none⟩) Zt).trans q1, (hB.cell (p := ⟨b, o + j * 4 + 2, none⟩) Zt).trans q2, (hB.cell (p := ⟨b, o + j * 4 + 3, none⟩) Zt).trans q3, (hB.cell (p := ⟨b', o' + j * 4, none⟩) Z0).trans p0, (hB.cell (p := ⟨b', o' + j * 4 + 1, none⟩) Z0).trans p1, (hB.cell (p := ⟨b', o' + j * 4 + 2, none⟩) Z0).trans p2, (hB.cell (p := ⟨b', o' + j * 4 + 3, none⟩) Z0).trans p3⟩
   have HC : xQ (∀ wx, Below wr.heap.size wr wx -> Calls prog 39 #[.agg #[.int .i64 k1, .string nm1, .slice na1 nl1 nc1, .slice la1 ll1 lc1], .agg #[.int .i64 k2, .string nm2, .slice na2 nl2 nc2, .slice la2 ll2 lc2]] wx fun e w' => e = .returned (.bool true) /\ Below wr.heap.size wr w') := fun wx Xd =>
    (IH.o _ _ ks[j] wx (Cg Vt (Zx Z8.o Xd)) (Cg Hl (Zx Z8.o Xd))).mono fun e w' ⟨e1, e2⟩ => ⟨e1, Zx Xd e2⟩
   have Vx := HSK.o wr.drew (Below.refl _ _).drew;clear q0 q1 q2 q3 p0 p1 p2 p3 Vt Hl;go_wp2_with fail
   go_region_held (fun W => W.cell? ⟨b, o + j * 4, none⟩ = some (.int .i64 k1) /\ W.cell? ⟨b, o + j * 4 + 1, none⟩ = some (.string nm1) /\ W.cell? ⟨b, o + j * 4 + 2, none⟩ = some (.slice na1 nl1 nc1) /\ W.cell? ⟨b, o + j * 4 + 3, none⟩ = some (.slice la1 ll1 lc1) /\ W.cell? ⟨b', o' + j * 4, none⟩ = some (.int .i64 k2) /\ W.cell? ⟨b', o' + j * 4 + 1, none⟩ = some (.string nm2) /\ W.cell? ⟨b', o' + j * 4 + 2, none⟩ = some (.slice na2 nl2 nc2) /\ W.cell? ⟨b', o' + j * 4 + 3, none⟩ = some (.slice la2 ll2 lc2)) (assumption) (first
    | (go_at_call 39; refine (HC.o _ (by first | exact Below.refl _ _ | exact below_drewN (Below.refl _ _) _ | exact (Below.refl _ _).drew)).mono ?_; rintro e w5 ⟨rfl, U5⟩; have t5 := HSK.o _ U5; have L8 := Za U5; clear U5))
   all_goals go_wp2_with fail
   all_goals exact ⟨⟨j + 1, by go_num, by omega, Zx Z8.o L8.o⟩, by simp [intOf]; omega⟩
  ·have Qt : ¬ (j : Int) < (ks.length : Int) := by omega
   go_wp2_with fail;go_ret;exact ⟨rfl, Z8.o⟩
theorem I9 : ∀ n, xI n
 | 0 => fun _ _ _ _ h => h.elim
 | n + 1 => fun va vb D w h h' => by
  obtain ⟨k, nm, na, nc, ka, kc, ns, ks, rfl, rfl, _, _, _, ⟨_, Y0⟩, ⟨_, Qh⟩, hns, Jb⟩ := h;obtain ⟨k', nm', na', nc', ka', kc', ns', ks', rfl, e, _, _, _, _, _, hns', hks'⟩ := h';obtain ⟨rfl, e2, rfl, rfl⟩ := Iy e
  obtain rfl : nm = nm' := by cases nm; cases nm'; simp at e2; rw [e2]
  have Wh : ns.length <= 140737488351232 := Y0;have V0 : ks.length <= 140737488351232 := Qh;have Wk : Below w.heap.size w ((w.alloc (Z5 k nm na ns.length nc ka ks.length kc)).alloc (Z5 k nm na' ns.length nc' ka' ks.length kc')) := Zx (Zq _ _) (Zq _ _);obtain ⟨W, hW⟩ := xE ((w.alloc (Z5 k nm na ns.length nc ka ks.length kc)).alloc (Z5 k nm na' ns.length nc' ka' ks.length kc'))
  have hxa : W.heap[w.heap.size]? = some (Z5 k nm na ns.length nc ka ks.length kc) := by rw [hW]; exact (xA (by simp)).trans (xL w _)
  have hxb : W.heap[w.heap.size + 1]? = some (Z5 k nm na' ns.length nc' ka' ks.length kc') := by rw [hW]; exact Ti w _ _
  rw [<- hW] at Wk;have V7 := Za (yL na na' nc nc' ns W (Ak hns Wk) (Ak hns' Wk) Wh)
  have Q6 : xQ (∀ wx, Below W.heap.size W wx -> Calls prog 40 #[.slice ka ks.length kc, .slice ka' ks.length kc'] wx fun e w' => e = .returned (.bool true) /\ Below wx.heap.size wx w') := fun wx Xd => zG n (I9 n) ka ka' kc kc' ks wx (Rl Jb (Zx Wk Xd)) (Rl hks' (Zx Wk Xd)) V0
  have J1 := Za hxa;have Lm := Za hxb
  have T0 : xQ (∀ w1, (∃ q, w1 = W.drewN q) -> xQ (Below W.heap.size W w1) /\ xQ (∀ wx, Below w1.heap.size w1 wx -> wx.cell? ⟨w.heap.size, 0, none⟩ = some (.int .i64 k) /\ wx.cell? ⟨w.heap.size, 1, none⟩ = some (.string nm) /\ wx.cell? ⟨w.heap.size, 3, none⟩ = some (.slice ka ks.length kc) /\ wx.cell? ⟨w.heap.size + 1, 0, none⟩ = some (.int .i64 k) /\ wx.cell? ⟨w.heap.size + 1, 1, none⟩ = some (.string nm) /\ wx.cell? ⟨w.heap.size + 1, 3, none⟩ = some (.slice ka' ks.length kc'))) := by
   rintro w1 ⟨q, rfl⟩;refine ⟨below_drewN (Below.refl _ _) _, fun wx Xd => ?_⟩;have hB := Zx (below_drewN (Below.refl W.heap.size W) q) Xd
   have hs : W.heap.size = w.heap.size + 2 := by rw [hW]; simp
   have ha : ∀ o, wx.cell? ⟨w.heap.size, o, none⟩ = W.cell? ⟨w.heap.size, o, none⟩ := fun o => hB.cell (p := ⟨w.heap.size, o, none⟩) (by show w.heap.size < W.heap.size; omega)
   have hb : ∀ o, wx.cell? ⟨w.heap.size + 1, o, none⟩ = W.cell? ⟨w.heap.size + 1, o, none⟩ := fun o => hB.cell (p := ⟨w.heap.size + 1, o, none⟩) (by show w.heap.size + 1 < W.heap.size; omega)
   rw [ha, ha, ha, hb, hb, hb];simp [World.cell?, hxa, hxb, Z5]
  have HB0 := Za Wk;subst hW
  have e3 : (nm.toList == nm.toList) = true := by simp
  clear hns hns' Jb hks' Wk hxa hxb e e2 Y0 Qh;go_enter func39, ntmps39;go_wp2_with fail;refine V7.o.mono ?_;rintro e w1 ⟨rfl, hq⟩;obtain ⟨Yl, Y7⟩ := T0.o _ hq;obtain ⟨a0, a1, a3, b0, b1, b3⟩ := Y7.o w1 (Below.refl _ _);clear hq;go_wp2_with fail;refine (Q6.o w1 Yl.o).mono ?_;rintro e w2 ⟨rfl, Z0⟩;obtain ⟨a0, a1, a3, b0, b1, b3⟩ := Y7.o w2 Z0;have Yx := Za Z0;clear Z0;go_wp2_with fail;go_ret
  exact ⟨rfl, Zx HB0.o (Zx Yl.o Yx.o)⟩
theorem yO {w : World} {lo n : Nat} {v : Value} {D : Ty} (h : Bc w lo n v D) : Dd w false n v D := by
 induction n generalizing v D with
 | zero => exact h.elim
 | succ n ih =>
  obtain ⟨k, nm, na, nc, ka, kc, ns, ks, h1, h2, h3, h4, h5, h6, h7, h8, h9⟩ := h;refine ⟨k, nm, na, nc, ka, kc, ns, ks, h1, h2, h3, h4, h5, h6, h7, h8.at, ?_⟩;rcases h9 with h9 | ⟨b, o, e, _, Yz, hc⟩
  ·exact .inl h9
  ·refine .inr ⟨b, o, e, Nr Yz, wE Yz, (fun e => by cases e), fun i hi => ?_⟩
   obtain ⟨c0, c1, c2, c3, e0, e1, e2, e3, ht⟩ := hc i hi;exact ⟨c0, c1, c2, c3, e0, e1, e2, e3, ih ht⟩
theorem Ik {w : World} {lo n : Nat} {ka : Option Addr} {ks : List Ty} (h : Ut w lo n ka ks) : A3 w false n ka ks := by
 rcases h with h9 | ⟨b, o, e, _, Yz, hc⟩
 ·exact .inl h9
 ·refine .inr ⟨b, o, e, Nr Yz, wE Yz, (fun e => by cases e), fun i hi => ?_⟩
  obtain ⟨c0, c1, c2, c3, e0, e1, e2, e3, ht⟩ := hc i hi;exact ⟨c0, c1, c2, c3, e0, e1, e2, e3, yO ht⟩
def mS (n : Nat) : Prop := ∀ (x y : NV) (D : Ty) (lo lo' : Nat) (w : World), Bx w lo n x D -> Bx w lo' n y D -> Calls prog 41 #[x.val, y.val] w fun e w' => e = .returned (.bool true) /\ Below w.heap.size w w'
theorem tI : ∀ n, mS n
 | 0 => fun _ _ _ _ _ _ h => h.elim
 | n + 1 => fun x y D lo lo' w h h' => by
  obtain ⟨tys, ns, ks, hD, ⟨hx1, hx2, hx3⟩, ⟨Wh, V0, hl3⟩, ht, hn, hk⟩ := h;obtain ⟨tys', ns', ks', hD', ⟨hy1, hy2, hy3⟩, _, ht', hn', Lt⟩ := h';obtain ⟨k, tx, N, li, co, ta, tl, tc, na, nl, nc, ka, kl, kc⟩ := x;obtain ⟨k', tx', N', li', co', ta', tl', tc', na', nl', nc', ka', kl', kc'⟩ := y;dsimp only at hD hD' hx1 hx2 hx3 hy1 hy2 hy3 ht hn hk ht' hn' Lt;obtain ⟨rfl, e2, rfl, rfl, rfl, rfl, rfl, rfl⟩ := Ix (hD.symm.trans hD')
  obtain rfl : tx = tx' := by cases tx; cases tx'; simp at e2; rw [e2]
  subst hx1 hx2 hx3 hy1 hy2 hy3;clear hD hD' e2;obtain ⟨W, hW⟩ := xE ((w.alloc (NV.obj ⟨k, tx, N, li, co, ta, tys.length, tc, na, ns.length, nc, ka, ks.length, kc⟩)).alloc (NV.obj ⟨k, tx, N, li, co, ta', tys.length, tc', na', ns.length, nc', ka', ks.length, kc'⟩))
  have Wk : Below w.heap.size w W := by rw [hW]; exact Zx (Zq _ _) (Zq _ _)
  have J1 : xQ (W.heap[w.heap.size]? = some (NV.obj ⟨k, tx, N, li, co, ta, tys.length, tc, na, ns.length, nc, ka, ks.length, kc⟩)) := by rw [hW]; exact (xA (by simp)).trans (xL w _)
  have Lm : xQ (W.heap[w.heap.size + 1]? = some (NV.obj ⟨k, tx, N, li, co, ta', tys.length, tc', na', ns.length, nc', ka', ks.length, kc'⟩)) := by rw [hW]; exact Ti w _ _
  have V7 := Za (yL na na' nc nc' ns W (Ak hn.at Wk) (Ak hn'.at Wk) (by omega))
  have Q6 : xQ (∀ wx, Below W.heap.size W wx -> Calls prog 40 #[.slice ta tys.length tc, .slice ta' tys.length tc'] wx fun e w' => e = .returned (.bool true) /\ Below wx.heap.size wx w') := fun wx Xd => zG n (I9 n) ta ta' tc tc' tys wx (Rl (Ik ht) (Zx Wk Xd)) (Rl (Ik ht') (Zx Wk Xd)) (by omega)
  have Po : xQ (∀ wx, Below W.heap.size W wx -> wx.heap[w.heap.size]? = some (NV.obj ⟨k, tx, N, li, co, ta, tys.length, tc, na, ns.length, nc, ka, ks.length, kc⟩) /\ wx.heap[w.heap.size + 1]? = some (NV.obj ⟨k, tx, N, li, co, ta', tys.length, tc', na', ns.length, nc', ka', ks.length, kc'⟩)) := fun wx Xd => ⟨(Xd.block _ (xB J1.o)).trans J1.o, (Xd.block _ (xB Lm.o)).trans Lm.o⟩
  have HKA := Za (tG hk Wk);have HKB := Za (tG Lt Wk);have HB0 := Za Wk;have IH := Za (tI n)
  have e3 : (tx.toList == tx.toList) = true := by simp
  have Jb : ks.length <= 100000 := hl3;clear ht hn hk ht' hn' Lt Wk Wh V0 hl3;obtain ⟨⟨x0, x1, x2, x3, x4, x5, x6, x7⟩, _, Hg⟩ := Zm J1.o;obtain ⟨⟨y0, y1, y2, y3, y4, y5, y6, y7⟩, _, Gr⟩ := Zm Lm.o;go_enter func41, ntmps41;go_wp2_with fail;rw [<- hW];clear hW;refine V7.o.mono ?_;rintro e w1 ⟨rfl, q, rfl⟩;have Zt : Below W.heap.size W (W.drewN q) := below_drewN (Below.refl _ _) q;have Yl := Za Zt
  clear Zt;go_wp2_with fail;refine (Q6.o _ Yl.o).mono ?_;rintro e w2 ⟨rfl, Z0⟩;have Yx := Za (Zx Yl.o Z0);clear Z0;obtain ⟨⟨x0, x1, x2, x3, x4, x5, x6, x7⟩, _, Hg⟩ := Zm (Po.o w2 Yx.o).1;obtain ⟨⟨y0, y1, y2, y3, y4, y5, y6, y7⟩, _, Gr⟩ := Zm (Po.o w2 Yx.o).2;go_wp2_with fail
  go_loopw [7] (fun i wx => ∃ j : Nat, i = .int .i64 j /\ j <= ks.length /\ xQ (Below W.heap.size W wx)) (fun i _ => ks.length - (intOf i).toNat)
  case atStart => exact ⟨0, rfl, xZ _, Yx⟩
  case round =>
   obtain ⟨j, rfl, hj, Z8⟩ := hrel;clear x0 x1 x2 x3 x4 x5 x6 x7 y0 y1 y2 y3 y4 y5 y6 y7;obtain ⟨⟨x0, x1, x2, x3, x4, x5, x6, x7⟩, _, Hg⟩ := Zm (Po.o wr Z8.o).1;obtain ⟨⟨y0, y1, y2, y3, y4, y5, y6, y7⟩, _, Gr⟩ := Zm (Po.o wr Z8.o).2;clear x0 x1 x2 x3 x4 x5 x6 y0 y1 y2 y3 y4 y5 y6;by_cases Zo : j < ks.length
   ·have Qt : (j : Int) < (ks.length : Int) := by omega
    obtain ⟨b, o, u, rfl, Zt, Bk, Vt⟩ := tF HKA.o Zo;obtain ⟨b', o', v, rfl, Z0, Ns, Hl⟩ := tF HKB.o Zo
    have HSK : xQ (∀ wx, Below wr.heap.size wr wx -> wx.cell? ⟨w.heap.size, 7, none⟩ = some (.slice (some ⟨b, o, none⟩) ks.length kc) /\ wx.cell? ⟨w.heap.size + 1, 7, none⟩ = some (.slice (some ⟨b', o', none⟩) ks.length kc') /\ wx.cell? ⟨b, o + j * 8, none⟩ = some (.int .i64 u.k) /\ wx.cell? ⟨b, o + j * 8 + 1, none⟩ = some (.string u.tx) /\ wx.cell? ⟨b, o + j * 8 + 2, none⟩ = some (.int .i64 u.N) /\ wx.cell? ⟨b, o + j * 8 + 3, none⟩ = some (.int .i64 u.li) /\ wx.cell? ⟨b, o + j * 8 + 4, none⟩ = some (.int .i64 u.co) /\ wx.cell? ⟨b, o + j * 8 + 5, none⟩ = some (.slice u.ta u.tl u.tc) /\ wx.cell? ⟨b, o + j * 8 + 6, none⟩ = some (.slice u.na u.nl u.nc) /\ wx.cell? ⟨b, o + j * 8 + 7, none⟩ = some (.slice u.ka u.kl u.kc) /\ wx.cell? ⟨b', o' + j * 8, none⟩ = some (.int .i64 v.k) /\ wx.cell? ⟨b', o' + j * 8 + 1, none⟩ = some (.string v.tx) /\ wx.cell? ⟨b', o' + j * 8 + 2, none⟩ = some (.int .i64 v.N) /\ wx.cell? ⟨b', o' + j * 8 + 3, none⟩ = some (.int .i64 v.li) /\ wx.cell? ⟨b', o' + j * 8 + 4, none⟩ = some (.int .i64 v.co) /\ wx.cell? ⟨b', o' + j * 8 + 5, none⟩ = some (.slice v.ta v.tl v.tc) /\ wx.cell? ⟨b', o' + j * 8 + 6, none⟩ = some (.slice v.na v.nl v.nc) /\ wx.cell? ⟨b', o' + j * 8 + 7, none⟩ = some (.slice v.ka v.kl v.kc)) := fun wx Xd => by
     have hB := Zx Z8.o Xd;have g1 := Bk.keep (hB.block b Zt);have g2 := Ns.keep (hB.block b' Z0);refine ⟨(Zm (Po.o wx hB).1).1.2.2.2.2.2.2.2, (Zm (Po.o wx hB).2).1.2.2.2.2.2.2.2, ?_⟩;obtain ⟨p0, p1, p2, p3, p4, p5, p6, p7⟩ := g1;exact ⟨p0, p1, p2, p3, p4, p5, p6, p7, g2⟩
    have HC : xQ (∀ wx, Below wr.heap.size wr wx -> Calls prog 41 #[u.val, v.val] wx fun e w' => e = .returned (.bool true) /\ Below wr.heap.size wr w') := fun wx Xd =>
     (IH.o _ _ ks[j] lo lo' wx (I6 Vt (Zx Z8.o Xd)) (I6 Hl (Zx Z8.o Xd))).mono fun e w' ⟨e1, e2⟩ => ⟨e1, Zx Xd e2⟩
    have Vx := HSK.o wr.drew (Below.refl _ _).drew;clear Bk Ns Vt Hl;go_wp2_with fail
    go_region_held (fun W => W.cell? ⟨w.heap.size, 7, none⟩ = some (.slice (some ⟨b, o, none⟩) ks.length kc) /\ W.cell? ⟨w.heap.size + 1, 7, none⟩ = some (.slice (some ⟨b', o', none⟩) ks.length kc') /\ W.cell? ⟨b, o + j * 8, none⟩ = some (.int .i64 u.k) /\ W.cell? ⟨b, o + j * 8 + 1, none⟩ = some (.string u.tx) /\ W.cell? ⟨b, o + j * 8 + 2, none⟩ = some (.int .i64 u.N) /\ W.cell? ⟨b, o + j * 8 + 3, none⟩ = some (.int .i64 u.li) /\ W.cell? ⟨b, o + j * 8 + 4, none⟩ = some (.int .i64 u.co) /\ W.cell? ⟨b, o + j * 8 + 5, none⟩ = some (.slice u.ta u.tl u.tc) /\ W.cell? ⟨b, o + j * 8 + 6, none⟩ = some (.slice u.na u.nl u.nc) /\ W.cell? ⟨b, o + j * 8 + 7, none⟩ = some (.slice u.ka u.kl u.kc) /\ W.cell? ⟨b', o' + j * 8, none⟩ = some (.int .i64 v.k) /\ W.cell? ⟨b', o' + j * 8 + 1, none⟩ = some (.string v.tx) /\ W.cell? ⟨b', o' + j * 8 + 2, none⟩ = some (.int .i64 v.N) /\ W.cell? ⟨b', o' + j * 8 + 3, none⟩ = some (.int .i64 v.li) /\ W.cell? ⟨b', o' + j * 8 + 4, none⟩ = some (.int .i64 v.co) /\ W.cell? ⟨b', o' + j * 8 + 5, none⟩ = some (.slice v.ta v.tl v.tc) /\ W.cell? ⟨b', o' + j * 8 + 6, none⟩ = some (.slice v.na v.nl v.nc) /\ W.cell? ⟨b', o' + j * 8 + 7, none⟩ = some (.slice v.ka v.kl v.kc)) (with_reducible assumption) (first
     | (go_at_call 41; refine (HC.o _ (by first | exact Below.refl _ _ | exact below_drewN (Below.refl _ _) _ | exact (Below.refl _ _).drew)).mono ?_; rintro e w5 ⟨rfl, U5⟩; have t5 := HSK.o _ U5; have L8 := Za U5; clear U5))
    all_goals go_wp2_with fail
    all_goals exact ⟨⟨j + 1, by go_num, by omega, Zx Z8.o L8.o⟩, by simp [intOf]; omega⟩
   ·have Qt : ¬ (j : Int) < (ks.length : Int) := by omega
    go_wp2_with fail;go_ret;exact ⟨rfl, Zx HB0.o Z8.o⟩
theorem jL {s s' : List UInt8} {ex ex' : Bool} {vs vs' : List (List UInt8 × Ty)} {pm pm' : List UInt8} {tys tys' : List Ty} {B B' : Ty} {l l' c c' : Nat} (h : Qu s ex vs pm tys B l c = Qu s' ex' vs' pm' tys' B' l' c') : s = s' /\ ex = ex' /\ vs = vs' /\ pm = pm' /\ tys = tys' /\ B = B' /\ l = l' /\ c = c' := by
 unfold Qu at h
 simp only [DataW.agg.injEq, List.cons.injEq, DataW.lit.injEq, Lit.int.injEq, Lit.string.injEq, Lit.bool.injEq, true_and, and_true] at h
 obtain ⟨h1, h2, h3, h4, h5, h6, h7, h8⟩ := h
 refine ⟨h1, h2, (List.map_inj_right fun x y e => ?_).1 h3, h4, h5, h6, by omega, by omega⟩
 simp only [DataW.agg.injEq, List.cons.injEq, DataW.lit.injEq, Lit.string.injEq, and_true] at e
 exact Prod.ext e.1 e.2
theorem jM {s s' : List UInt8} {ns ns' : List (List UInt8)} {l l' c c' : Nat} (h : Bo s ns l c = Bo s' ns' l' c') : s = s' /\ ns = ns' /\ l = l' /\ c = c' := by
 unfold Bo at h
 simp only [DataW.agg.injEq, List.cons.injEq, DataW.lit.injEq, Lit.int.injEq, Lit.string.injEq, true_and, and_true] at h
 obtain ⟨h1, h2, h3, h4⟩ := h
 refine ⟨h1, (List.map_inj_right fun x y e => ?_).1 h2, by omega, by omega⟩
 simp only [DataW.lit.injEq, Lit.string.injEq] at e
 exact e
theorem mH {w : World} {lo : Nat} {a : Option Addr} {vs : List (List UInt8 × Ty)} (h : Be lo w a vs) {i : Nat} (hi : i < vs.length) : ∃ (g : Nat) (k : Int) (nm : ByteArray) (na : Option Addr) (nl nc : Nat) (ka : Option Addr) (kl kc m : Nat), a = some ⟨g, 0, none⟩ /\ g < w.heap.size /\
  (w.cell? ⟨g, i * 5, none⟩ = some (.string ⟨vs[i].1.toArray⟩) /\ w.cell? ⟨g, i * 5 + 1, none⟩ = some (.int .i64 k) /\ w.cell? ⟨g, i * 5 + 2, none⟩ = some (.string nm) /\ w.cell? ⟨g, i * 5 + 3, none⟩ = some (.slice na nl nc) /\ w.cell? ⟨g, i * 5 + 4, none⟩ = some (.slice ka kl kc)) /\ Bc w lo m (.agg #[.int .i64 k, .string nm, .slice na nl nc, .slice ka kl kc]) vs[i].2 := by
 rcases h with rfl | ⟨g, e, _, hc, hr⟩
 ·cases hi
 ·obtain ⟨c, h1, h2, k, nm, na, nl, nc, ka, kl, kc, rfl, m, ht⟩ := hr i hi
  exact ⟨g, k, nm, na, nl, nc, ka, kl, kc, m, e, Nr hc, ⟨h2 0 (by omega), h2 1 (by omega), h2 2 (by omega), h2 3 (by omega), h2 4 (by omega)⟩, ht⟩
theorem bZ {lo lo' : Nat} {w : World} {c c' : List Value} {D : Ty} (h : N2 lo w c D) (h' : N2 lo' w c' D) :
  Calls prog 17 #[.agg c.toArray, .agg c'.toArray] w fun e w' => e = .returned (.bool true) /\ Below w.heap.size w w' := by
 obtain ⟨s, ex, vs, va, vc, pm, ta, tc, tys, x, B, li, co, m, rfl, rfl, hvl, Vd, hvs, hts, hx⟩ := h
 obtain ⟨s', ex', vs', va', vc', pm', ta', tc', tys', y, B', li', co', m', rfl, e, _, _, hvs', hts', hy⟩ := h'
 obtain ⟨rfl, rfl, rfl, rfl, rfl, rfl, rfl, rfl⟩ := jL e
 clear e
 obtain ⟨S1, P7⟩ : ∃ S1 : ByteArray, S1 = ⟨s.toArray⟩ := ⟨_, rfl⟩
 obtain ⟨S2, K7⟩ : ∃ S2 : ByteArray, S2 = ⟨pm.toArray⟩ := ⟨_, rfl⟩
 rw [<- P7, <- K7]
 have e1 : (S1.toList == S1.toList) = true := by simp
 have e2 : (S2.toList == S2.toList) = true := by simp
 have e3 : (ex == ex) = true := by simp
 clear P7 K7
 obtain ⟨W, hW⟩ := xE ((w.alloc (dO S1 ex (.slice va vs.length vc) S2 (.slice ta 2 tc) x li co)).alloc (dO S1 ex (.slice va' vs.length vc') S2 (.slice ta' 2 tc') y li co))
 have Wk : Below w.heap.size w W := by rw [hW]; exact Zx (Zq _ _) (Zq _ _)
 have J1 : xQ (W.heap[w.heap.size]? = some (dO S1 ex (.slice va vs.length vc) S2 (.slice ta 2 tc) x li co)) := by rw [hW]; exact (xA (by simp)).trans (xL w _)
 have Lm : xQ (W.heap[w.heap.size + 1]? = some (dO S1 ex (.slice va' vs.length vc') S2 (.slice ta' 2 tc') y li co)) := by rw [hW]; exact Ti w _ _
 have Po : xQ (∀ wx, Below W.heap.size W wx -> wx.heap[w.heap.size]? = some (dO S1 ex (.slice va vs.length vc) S2 (.slice ta 2 tc) x li co) /\ wx.heap[w.heap.size + 1]? = some (dO S1 ex (.slice va' vs.length vc') S2 (.slice ta' 2 tc') y li co)) := fun wx Xd => ⟨(Xd.block _ (xB J1.o)).trans J1.o, (Xd.block _ (xB Lm.o)).trans Lm.o⟩
 have HB0 := Za Wk
 have HVA := Za (Ql hvs Wk.size fun b _ hl => Wk.block b hl)
 have HVB := Za (Ql hvs' Wk.size fun b _ hl => Wk.block b hl)
 have Q6 : xQ (∀ wx, Below W.heap.size W wx -> Calls prog 40 #[.slice ta 2 tc, .slice ta' 2 tc'] wx fun e w' => e = .returned (.bool true) /\ Below wx.heap.size wx w') := fun wx Xd => by
  have := zG (max m m') (I9 (max m m')) ta ta' tc tc' tys wx (Rl (Ik (E1 hts (Nat.le_max_left _ _))) (Zx Wk Xd)) (Rl (Ik (E1 hts' (Nat.le_max_right _ _))) (Zx Wk Xd)) (by omega);rw [Vd] at this;exact this
 have Tt : xQ (∀ wx, Below W.heap.size W wx -> Calls prog 41 #[x.val, y.val] wx fun e w' => e = .returned (.bool true) /\ Below wx.heap.size wx w') := fun wx Xd => by
  obtain ⟨m1, hx⟩ := hx;obtain ⟨m2, hy⟩ := hy;exact tI (max m1 m2) x y _ _ _ _ (I6 (Ga hx (Nat.le_max_left _ _)) (Zx Wk Xd)) (I6 (Ga hy (Nat.le_max_right _ _)) (Zx Wk Xd))
 clear hvs hvs' hts hts' hx hy Wk
 obtain ⟨⟨x0, x1, x2, x3, x4, x5, x6, x7, x8, x9, x10, x11, x12, x13, x14⟩, _, Hg⟩ := U3 J1.o
 obtain ⟨⟨y0, y1, y2, y3, y4, y5, y6, y7, y8, y9, y10, y11, y12, y13, y14⟩, _, Gr⟩ := U3 Lm.o
 go_enter func17, ntmps17
 go_wp2_with fail
 rw [<- hW]
 clear hW
 go_loopw [5] (fun i wx => ∃ j : Nat, i = .int .i64 j /\ j <= vs.length /\ xQ (Below W.heap.size W wx)) (fun i _ => vs.length - (intOf i).toNat)
 case atStart => exact ⟨0, rfl, xZ _, Below.refl _ _⟩
 case round =>
  obtain ⟨j, rfl, hj, Z8⟩ := hrel;clear x0 x1 x2 x3 x4 x5 x6 x7 x8 x9 x10 x11 x12 x13 x14 y0 y1 y2 y3 y4 y5 y6 y7 y8 y9 y10 y11 y12 y13 y14 Hg Gr;obtain ⟨⟨x0, x1, x2, x3, x4, x5, x6, x7, x8, x9, x10, x11, x12, x13, x14⟩, _, Hg⟩ := U3 (Po.o wr Z8.o).1;obtain ⟨⟨y0, y1, y2, y3, y4, y5, y6, y7, y8, y9, y10, y11, y12, y13, y14⟩, _, Gr⟩ := U3 (Po.o wr Z8.o).2;by_cases Zo : j < vs.length
  ·have Qt : (j : Int) < (vs.length : Int) := by omega
   clear x0 x1 x3 x4 x5 x6 x7 x8 x9 x10 x11 x12 x13 x14 y0 y1 y3 y4 y5 y6 y7 y8 y9 y10 y11 y12 y13 y14;obtain ⟨g, k1, nm1, na1, nl1, nc1, ka1, kl1, kc1, m1, rfl, Vj, Bk, Vt⟩ := mH HVA.o Zo;obtain ⟨g', k2, nm2, na2, nl2, nc2, ka2, kl2, kc2, m2, rfl, Wu, Ns, Hl⟩ := mH HVB.o Zo
   obtain ⟨N1, hN1⟩ : ∃ N1 : ByteArray, N1 = ⟨vs[j].1.toArray⟩ := ⟨_, rfl⟩
   rw [<- hN1] at Bk Ns
   have e4 : (N1.toList == N1.toList) = true := by simp
   have HSK : xQ (∀ wx, Below wr.heap.size wr wx -> wx.cell? ⟨w.heap.size, 2, none⟩ = some (.slice (some ⟨g, 0, none⟩) vs.length vc) /\ wx.cell? ⟨w.heap.size + 1, 2, none⟩ = some (.slice (some ⟨g', 0, none⟩) vs.length vc') /\ wx.cell? ⟨g, j * 5, none⟩ = some (.string N1) /\ wx.cell? ⟨g, j * 5 + 1, none⟩ = some (.int .i64 k1) /\ wx.cell? ⟨g, j * 5 + 2, none⟩ = some (.string nm1) /\ wx.cell? ⟨g, j * 5 + 3, none⟩ = some (.slice na1 nl1 nc1) /\ wx.cell? ⟨g, j * 5 + 4, none⟩ = some (.slice ka1 kl1 kc1) /\ wx.cell? ⟨g', j * 5, none⟩ = some (.string N1) /\ wx.cell? ⟨g', j * 5 + 1, none⟩ = some (.int .i64 k2) /\ wx.cell? ⟨g', j * 5 + 2, none⟩ = some (.string nm2) /\ wx.cell? ⟨g', j * 5 + 3, none⟩ = some (.slice na2 nl2 nc2) /\ wx.cell? ⟨g', j * 5 + 4, none⟩ = some (.slice ka2 kl2 kc2)) := fun wx Xd => by
    have hB := Zx Z8.o Xd;obtain ⟨q0, q1, q2, q3, q4⟩ := Bk;obtain ⟨p0, p1, p2, p3, p4⟩ := Ns;exact ⟨(U3 (Po.o wx hB).1).1.2.2.1, (U3 (Po.o wx hB).2).1.2.2.1, (hB.cell (p := ⟨g, _, none⟩) Vj).trans q0, (hB.cell (p := ⟨g, _, none⟩) Vj).trans q1, (hB.cell (p := ⟨g, _, none⟩) Vj).trans q2, (hB.cell (p := ⟨g, _, none⟩) Vj).trans q3, (hB.cell (p := ⟨g, _, none⟩) Vj).trans q4, (hB.cell (p := ⟨g', _, none⟩) Wu).trans p0, (hB.cell (p := ⟨g', _, none⟩) Wu).trans p1, (hB.cell (p := ⟨g', _, none⟩) Wu).trans p2, (hB.cell (p := ⟨g', _, none⟩) Wu).trans p3, (hB.cell (p := ⟨g', _, none⟩) Wu).trans p4⟩
   have HC : xQ (∀ wx, Below wr.heap.size wr wx -> Calls prog 39 #[.agg #[.int .i64 k1, .string nm1, .slice na1 nl1 nc1, .slice ka1 kl1 kc1], .agg #[.int .i64 k2, .string nm2, .slice na2 nl2 nc2, .slice ka2 kl2 kc2]] wx fun e w' => e = .returned (.bool true) /\ Below wr.heap.size wr w') := fun wx Xd =>
    (I9 (max m1 m2) _ _ vs[j].2 wx (Cg (yO (Gg Vt (Nat.le_max_left _ _))) (Zx Z8.o Xd)) (Cg (yO (Gg Hl (Nat.le_max_right _ _))) (Zx Z8.o Xd))).mono fun e w' ⟨e1, e2⟩ => ⟨e1, Zx Xd e2⟩
   have Vx := HSK.o wr.drew (Below.refl _ _).drew;clear Bk Ns Vt Hl hN1;go_wp2_with fail
   go_region_held (fun W => W.cell? ⟨w.heap.size, 2, none⟩ = some (.slice (some ⟨g, 0, none⟩) vs.length vc) /\ W.cell? ⟨w.heap.size + 1, 2, none⟩ = some (.slice (some ⟨g', 0, none⟩) vs.length vc') /\ W.cell? ⟨g, j * 5, none⟩ = some (.string N1) /\ W.cell? ⟨g, j * 5 + 1, none⟩ = some (.int .i64 k1) /\ W.cell? ⟨g, j * 5 + 2, none⟩ = some (.string nm1) /\ W.cell? ⟨g, j * 5 + 3, none⟩ = some (.slice na1 nl1 nc1) /\ W.cell? ⟨g, j * 5 + 4, none⟩ = some (.slice ka1 kl1 kc1) /\ W.cell? ⟨g', j * 5, none⟩ = some (.string N1) /\ W.cell? ⟨g', j * 5 + 1, none⟩ = some (.int .i64 k2) /\ W.cell? ⟨g', j * 5 + 2, none⟩ = some (.string nm2) /\ W.cell? ⟨g', j * 5 + 3, none⟩ = some (.slice na2 nl2 nc2) /\ W.cell? ⟨g', j * 5 + 4, none⟩ = some (.slice ka2 kl2 kc2)) (assumption) (first
    | (go_at_call 39; refine (HC.o _ (by first | exact Below.refl _ _ | exact below_drewN (Below.refl _ _) _ | exact (Below.refl _ _).drew)).mono ?_; rintro e w5 ⟨rfl, U5⟩; have t5 := HSK.o _ U5; have L8 := Za U5; clear U5))
   all_goals go_wp2_with fail
   all_goals obtain ⟨a0, a1, q0, _, _, _, _, p0, _, _, _, _⟩ := t5
   all_goals go_quiet (fail)
   all_goals go_wp2_with fail
   all_goals exact ⟨⟨j + 1, by go_num, by omega, below_drewN (Zx Z8.o L8.o) _⟩, by simp [intOf]; omega⟩
  ·have Qt : ¬ (j : Int) < (vs.length : Int) := by omega
   go_wp2_with fail;refine (Q6.o _ Z8.o).mono ?_;rintro e w3 ⟨rfl, Q1⟩;have Vr := Za (Zx Z8.o Q1);clear Q1 x0 x1 x2 x3 x4 x5 x6 x7 x8 x9 x10 x11 x12 x13 x14 y0 y1 y2 y3 y4 y5 y6 y7 y8 y9 y10 y11 y12 y13 y14 Hg Gr;obtain ⟨⟨x0, x1, x2, x3, x4, x5, x6, x7, x8, x9, x10, x11, x12, x13, x14⟩, _, Hg⟩ := U3 (Po.o w3 Vr.o).1;obtain ⟨⟨y0, y1, y2, y3, y4, y5, y6, y7, y8, y9, y10, y11, y12, y13, y14⟩, _, Gr⟩ := U3 (Po.o w3 Vr.o).2
   go_wp2_with fail;refine (Tt.o _ Vr.o).mono ?_;rintro e w4 ⟨rfl, Ha⟩;have Mk := Za (Zx Vr.o Ha);clear Ha;go_wp2_with fail;go_ret;exact ⟨rfl, Zx HB0.o Mk.o⟩
theorem vO {w : World} {lo : Nat} {a : Option Addr} {xs : List Ty} (h : J3 N9 4 lo w a xs) {i : Nat} (hi : i < xs.length) : ∃ (g : Nat) (s : List UInt8) (l : List (List UInt8)) (na : Option Addr) (nc li co : Nat), a = some ⟨g, 0, none⟩ /\ g < w.heap.size /\
  (w.cell? ⟨g, i * 4, none⟩ = some (.string ⟨s.toArray⟩) /\ w.cell? ⟨g, i * 4 + 1, none⟩ = some (.slice na l.length nc) /\ w.cell? ⟨g, i * 4 + 2, none⟩ = some (.int .i64 li) /\ w.cell? ⟨g, i * 4 + 3, none⟩ = some (.int .i64 co)) /\ xs[i] = Bo s l li co /\ l.length <= 8193 /\ Db w na l := by
 rcases h with rfl | ⟨g, e, _, hc, hr⟩
 ·cases hi
 ·obtain ⟨c, h1, h2, s, l, na, nc, li, co, rfl, h3, h4, h5⟩ := hr i hi
  exact ⟨g, s, l, na, nc, li, co, e, Nr hc, ⟨h2 0 (by omega), h2 1 (by omega), h2 2 (by omega), h2 3 (by omega)⟩, h3, h4, h5.at⟩
theorem wI {w : World} {lo : Nat} {a : Option Addr} {xs : List Ty} (h : J3 N2 15 lo w a xs) {i : Nat} (hi : i < xs.length) : ∃ (g : Nat) (c0 c1 c2 c3 c4 c5 c6 c7 c8 c9 c10 c11 c12 c13 c14 : Value), a = some ⟨g, 0, none⟩ /\ g < w.heap.size /\ (w.cell? ⟨g, i * 15, none⟩ = some c0 /\ w.cell? ⟨g, i * 15 + 1, none⟩ = some c1 /\ w.cell? ⟨g, i * 15 + 2, none⟩ = some c2 /\ w.cell? ⟨g, i * 15 + 3, none⟩ = some c3 /\ w.cell? ⟨g, i * 15 + 4, none⟩ = some c4 /\ w.cell? ⟨g, i * 15 + 5, none⟩ = some c5 /\ w.cell? ⟨g, i * 15 + 6, none⟩ = some c6 /\ w.cell? ⟨g, i * 15 + 7, none⟩ = some c7 /\ w.cell? ⟨g, i * 15 + 8, none⟩ = some c8 /\ w.cell? ⟨g, i * 15 + 9, none⟩ = some c9 /\ w.cell? ⟨g, i * 15 + 10, none⟩ = some c10 /\ w.cell? ⟨g, i * 15 + 11, none⟩ = some c11 /\ w.cell? ⟨g, i * 15 + 12, none⟩ = some c12 /\ w.cell? ⟨g, i * 15 + 13, none⟩ = some c13 /\ w.cell? ⟨g, i * 15 + 14, none⟩ = some c14) /\ N2 lo w [c0, c1, c2, c3, c4, c5, c6, c7, c8, c9, c10, c11, c12, c13, c14] xs[i] := by
 rcases h with rfl | ⟨g, e, _, hc, hr⟩
 ·cases hi
 ·obtain ⟨c, h1, h2, h3⟩ := hr i hi
  have h4 := h3;obtain ⟨s, ex, vs, va, vc, pm, ta, tc, tys, x, B, li, co, m, rfl, _⟩ := h4;exact ⟨g, _, _, _, _, _, _, _, _, _, _, _, _, _, _, _, e, Nr hc, ⟨h2 0 (by omega), h2 1 (by omega), h2 2 (by omega), h2 3 (by omega), h2 4 (by omega), h2 5 (by omega), h2 6 (by omega), h2 7 (by omega), h2 8 (by omega), h2 9 (by omega), h2 10 (by omega), h2 11 (by omega), h2 12 (by omega), h2 13 (by omega), h2 14 (by omega)⟩, h3⟩
theorem jR {lo lo' : Nat} {w : World} {x y : MV} {D : List Ty × List Ty} (h : Vu lo w x D) (h' : Vu lo' w y D) :
  Calls prog 7 #[x.val, y.val] w fun e w' => e = .returned (.bool true) /\ Below w.heap.size w w' := by
 obtain ⟨ia, il, ic, da, dl, dc⟩ := x
 obtain ⟨ia', il', ic', da', dl', dc'⟩ := y
 obtain ⟨h1, h2, h3, h4, hi, hd⟩ := h
 obtain ⟨h1', h2', _, _, Qs, hd'⟩ := h'
 dsimp only at h1 h2 hi hd h1' h2' Qs hd'
 subst h1 h2 h1' h2'
 obtain ⟨is, ds⟩ := D
 dsimp only at h3 h4 hi hd Qs hd' ⊢
 obtain ⟨W, hW⟩ := xE ((w.alloc (MV.obj ⟨ia, is.length, ic, da, ds.length, dc⟩)).alloc (MV.obj ⟨ia', is.length, ic', da', ds.length, dc'⟩))
 have Wk : Below w.heap.size w W := by rw [hW]; exact Zx (Zq _ _) (Zq _ _)
 have J1 : xQ (W.heap[w.heap.size]? = some (MV.obj ⟨ia, is.length, ic, da, ds.length, dc⟩)) := by rw [hW]; exact (xA (by simp)).trans (xL w _)
 have Lm : xQ (W.heap[w.heap.size + 1]? = some (MV.obj ⟨ia', is.length, ic', da', ds.length, dc'⟩)) := by rw [hW]; exact Ti w _ _
 have Po : xQ (∀ wx, Below W.heap.size W wx -> (wx.cell? ⟨w.heap.size, 0, none⟩ = some (.slice ia is.length ic) /\ wx.cell? ⟨w.heap.size, 1, none⟩ = some (.slice da ds.length dc)) /\ wx.cell? ⟨w.heap.size + 1, 0, none⟩ = some (.slice ia' is.length ic') /\ wx.cell? ⟨w.heap.size + 1, 1, none⟩ = some (.slice da' ds.length dc')) := fun wx Xd => ⟨(Qd (x := ⟨ia, is.length, ic, da, ds.length, dc⟩) ((Xd.block _ (xB J1.o)).trans J1.o)).1, (Qd (x := ⟨ia', is.length, ic', da', ds.length, dc'⟩) ((Xd.block _ (xB Lm.o)).trans Lm.o)).1⟩
 have HB0 := Za Wk
 have HIA := Za (Rz Do hi Wk.size fun b _ hl => Wk.block b hl)
 have HIB := Za (Rz Do Qs Wk.size fun b _ hl => Wk.block b hl)
 have HDA := Za (Rz Gp hd Wk.size fun b _ hl => Wk.block b hl)
 have HDB := Za (Rz Gp hd' Wk.size fun b _ hl => Wk.block b hl)
 clear hi Qs hd hd' Wk
 obtain ⟨⟨x0, x1⟩, y0, y1⟩ := Po.o W (Below.refl _ _)
 have hlx := xB J1.o
 have hly := xB Lm.o
 go_enter func7, ntmps7
 go_wp2_with fail
 rw [<- hW]
 clear hW
 go_loopw [5] (fun i wx => ∃ j : Nat, i = .int .i64 j /\ j <= is.length /\ xQ (Below W.heap.size W wx)) (fun i _ => is.length - (intOf i).toNat)
 case atStart => exact ⟨0, rfl, xZ _, Below.refl _ _⟩
 case round =>
  obtain ⟨j, rfl, hj, Z8⟩ := hrel;clear x0 x1 y0 y1;obtain ⟨⟨x0, x1⟩, y0, y1⟩ := Po.o wr Z8.o;have hwr := Z8.o.size
  have hlx' : w.heap.size < wr.heap.size := by omega
  have hly' : w.heap.size + 1 < wr.heap.size := by omega
  by_cases Zo : j < is.length
  ·have Qt : (j : Int) < (is.length : Int) := by omega
   obtain ⟨g, s, l, na, nc, li, co, rfl, Vj, ⟨q0, q1, q2, q3⟩, e1, hl, hn⟩ := vO HIA.o Zo;obtain ⟨g', s', l', na', nc', li', co', rfl, Wu, ⟨p0, p1, p2, p3⟩, e2, _, hn'⟩ := vO HIB.o Zo;obtain ⟨rfl, rfl, rfl, rfl⟩ := jM (e1.symm.trans e2)
   obtain ⟨S1, P7⟩ : ∃ S1 : ByteArray, S1 = ⟨s.toArray⟩ := ⟨_, rfl⟩
   rw [<- P7] at q0 p0
   have e4 : (S1.toList == S1.toList) = true := by simp
   replace q0 := (Z8.o.cell (p := ⟨g, _, none⟩) Vj).trans q0;replace q1 := (Z8.o.cell (p := ⟨g, _, none⟩) Vj).trans q1;replace q2 := (Z8.o.cell (p := ⟨g, _, none⟩) Vj).trans q2;replace q3 := (Z8.o.cell (p := ⟨g, _, none⟩) Vj).trans q3;replace p0 := (Z8.o.cell (p := ⟨g', _, none⟩) Wu).trans p0;replace p1 := (Z8.o.cell (p := ⟨g', _, none⟩) Wu).trans p1;replace p2 := (Z8.o.cell (p := ⟨g', _, none⟩) Wu).trans p2
   replace p3 := (Z8.o.cell (p := ⟨g', _, none⟩) Wu).trans p3;replace Vj := xT Vj hwr;replace Wu := xT Wu hwr;have HN := Za hn;have HN' := Za hn';clear e1 e2 P7 hn hn';go_wp2_with fail;have U5 : Below wr.heap.size wr ((wr.alloc (.cells #[.string S1, .slice na l.length nc, .int .i64 li, .int .i64 co] 58)).alloc (.cells #[.string S1, .slice na' l.length nc', .int .i64 li, .int .i64 co] 58)) := Zx (Zq _ _) (Zq _ _)
   have HXC := Za ((Below.heap_alloc (wr.alloc (.cells #[.string S1, .slice na l.length nc, .int .i64 li, .int .i64 co] 58)) (.cells #[.string S1, .slice na' l.length nc', .int .i64 li, .int .i64 co] 58) _ (by rw [xS]; omega)).trans (xL wr _));have HXD := Za (Ti wr (.cells #[.string S1, .slice na l.length nc, .int .i64 li, .int .i64 co] 58) (.cells #[.string S1, .slice na' l.length nc', .int .i64 li, .int .i64 co] 58))
   have L8 := Za (Zx Z8.o U5);refine (yL na na' nc nc' l _ (Ak HN.o L8.o) (Ak HN'.o L8.o) (by omega)).mono ?_;rintro e w6 ⟨rfl, q, rfl⟩;clear U5 q0 q1 q2 q3 p0 p1 p2 p3;generalize (wr.alloc (.cells #[.string S1, .slice na l.length nc, .int .i64 li, .int .i64 co] 58)).alloc (.cells #[.string S1, .slice na' l.length nc', .int .i64 li, .int .i64 co] 58) = W5 at HXC HXD L8 ⊢;obtain ⟨⟨q0, q1, q2, q3⟩, _, hql⟩ := Z6 HXC.o
   obtain ⟨⟨p0, p1, p2, p3⟩, _, Xc⟩ := Z6 HXD.o;go_wp2_with fail;exact ⟨⟨j + 1, by go_num, by omega, below_drewN L8.o q⟩, by simp [intOf]; omega⟩
  ·have Qt : ¬ (j : Int) < (is.length : Int) := by omega
   go_wp2_with fail
   go_loopw [9] (fun i wx => ∃ j : Nat, i = .int .i64 j /\ j <= ds.length /\ xQ (Below W.heap.size W wx)) (fun i _ => ds.length - (intOf i).toNat)
   case atStart => exact ⟨0, rfl, xZ _, Z8⟩
   case round =>
    clear x0 x1 y0 y1 Z8 hwr hlx' hly' hj Zo Qt;obtain ⟨j, rfl, hj, Z8⟩ := hrel;obtain ⟨⟨x0, x1⟩, y0, y1⟩ := Po.o _ Z8.o;by_cases Zo : j < ds.length
    ·have Qt : (j : Int) < (ds.length : Int) := by omega
     obtain ⟨g, c0, c1, c2, c3, c4, c5, c6, c7, c8, c9, c10, c11, c12, c13, c14, rfl, Vj, Bk, Vt⟩ := wI HDA.o Zo;obtain ⟨g', d0, d1, d2, d3, d4, d5, d6, d7, d8, d9, d10, d11, d12, d13, d14, rfl, Wu, Ns, Hl⟩ := wI HDB.o Zo
     have HSK : xQ (∀ wx, Below wr.heap.size wr wx -> wx.cell? ⟨w.heap.size, 1, none⟩ = some (.slice (some ⟨g, 0, none⟩) ds.length dc) /\ wx.cell? ⟨w.heap.size + 1, 1, none⟩ = some (.slice (some ⟨g', 0, none⟩) ds.length dc') /\ wx.cell? ⟨g, j * 15, none⟩ = some c0 /\ wx.cell? ⟨g, j * 15 + 1, none⟩ = some c1 /\ wx.cell? ⟨g, j * 15 + 2, none⟩ = some c2 /\ wx.cell? ⟨g, j * 15 + 3, none⟩ = some c3 /\ wx.cell? ⟨g, j * 15 + 4, none⟩ = some c4 /\ wx.cell? ⟨g, j * 15 + 5, none⟩ = some c5 /\ wx.cell? ⟨g, j * 15 + 6, none⟩ = some c6 /\ wx.cell? ⟨g, j * 15 + 7, none⟩ = some c7 /\ wx.cell? ⟨g, j * 15 + 8, none⟩ = some c8 /\ wx.cell? ⟨g, j * 15 + 9, none⟩ = some c9 /\ wx.cell? ⟨g, j * 15 + 10, none⟩ = some c10 /\ wx.cell? ⟨g, j * 15 + 11, none⟩ = some c11 /\ wx.cell? ⟨g, j * 15 + 12, none⟩ = some c12 /\ wx.cell? ⟨g, j * 15 + 13, none⟩ = some c13 /\ wx.cell? ⟨g, j * 15 + 14, none⟩ = some c14 /\ wx.cell? ⟨g', j * 15, none⟩ = some d0 /\ wx.cell? ⟨g', j * 15 + 1, none⟩ = some d1 /\ wx.cell? ⟨g', j * 15 + 2, none⟩ = some d2 /\ wx.cell? ⟨g', j * 15 + 3, none⟩ = some d3 /\ wx.cell? ⟨g', j * 15 + 4, none⟩ = some d4 /\ wx.cell? ⟨g', j * 15 + 5, none⟩ = some d5 /\ wx.cell? ⟨g', j * 15 + 6, none⟩ = some d6 /\ wx.cell? ⟨g', j * 15 + 7, none⟩ = some d7 /\ wx.cell? ⟨g', j * 15 + 8, none⟩ = some d8 /\ wx.cell? ⟨g', j * 15 + 9, none⟩ = some d9 /\ wx.cell? ⟨g', j * 15 + 10, none⟩ = some d10 /\ wx.cell? ⟨g', j * 15 + 11, none⟩ = some d11 /\ wx.cell? ⟨g', j * 15 + 12, none⟩ = some d12 /\ wx.cell? ⟨g', j * 15 + 13, none⟩ = some d13 /\ wx.cell? ⟨g', j * 15 + 14, none⟩ = some d14) := fun wx Xd => by
      have hB := Zx Z8.o Xd;obtain ⟨⟨_, a1⟩, _, b1⟩ := Po.o wx hB;obtain ⟨q0, q1, q2, q3, q4, q5, q6, q7, q8, q9, q10, q11, q12, q13, q14⟩ := Bk;obtain ⟨p0, p1, p2, p3, p4, p5, p6, p7, p8, p9, p10, p11, p12, p13, p14⟩ := Ns;exact ⟨a1, b1, (hB.cell (p := ⟨g, _, none⟩) Vj).trans q0, (hB.cell (p := ⟨g, _, none⟩) Vj).trans q1, (hB.cell (p := ⟨g, _, none⟩) Vj).trans q2, (hB.cell (p := ⟨g, _, none⟩) Vj).trans q3, (hB.cell (p := ⟨g, _, none⟩) Vj).trans q4, (hB.cell (p := ⟨g, _, none⟩) Vj).trans q5, (hB.cell (p := ⟨g, _, none⟩) Vj).trans q6, (hB.cell (p := ⟨g, _, none⟩) Vj).trans q7, (hB.cell (p := ⟨g, _, none⟩) Vj).trans q8, (hB.cell (p := ⟨g, _, none⟩) Vj).trans q9, (hB.cell (p := ⟨g, _, none⟩) Vj).trans q10, (hB.cell (p := ⟨g, _, none⟩) Vj).trans q11, (hB.cell (p := ⟨g, _, none⟩) Vj).trans q12, (hB.cell (p := ⟨g, _, none⟩) Vj).trans q13, (hB.cell (p := ⟨g, _, none⟩) Vj).trans q14, (hB.cell (p := ⟨g', _, none⟩) Wu).trans p0, (hB.cell (p := ⟨g', _, none⟩) Wu).trans p1, (hB.cell (p := ⟨g', _, none⟩) Wu).trans p2, (hB.cell (p := ⟨g', _, none⟩) Wu).trans p3, (hB.cell (p := ⟨g', _, none⟩) Wu).trans p4, (hB.cell (p := ⟨g', _, none⟩) Wu).trans p5, (hB.cell (p := ⟨g', _, none⟩) Wu).trans p6, (hB.cell (p := ⟨g', _, none⟩) Wu).trans p7, (hB.cell (p := ⟨g', _, none⟩) Wu).trans p8, (hB.cell (p := ⟨g', _, none⟩) Wu).trans p9, (hB.cell (p := ⟨g', _, none⟩) Wu).trans p10, (hB.cell (p := ⟨g', _, none⟩) Wu).trans p11, (hB.cell (p := ⟨g', _, none⟩) Wu).trans p12, (hB.cell (p := ⟨g', _, none⟩) Wu).trans p13, (hB.cell (p := ⟨g', _, none⟩) Wu).trans p14⟩
     have HC : xQ (∀ wx, Below wr.heap.size wr wx -> Calls prog 17 #[.agg #[c0, c1, c2, c3, c4, c5, c6, c7, c8, c9, c10, c11, c12, c13, c14], .agg #[d0, d1, d2, d3, d4, d5, d6, d7, d8, d9, d10, d11, d12, d13, d14]] wx fun e w' => e = .returned (.bool true) /\ Below wr.heap.size wr w') := fun wx Xd => by
      have hB := Zx Z8.o Xd
      exact (bZ (Gp.keep Vt hB.size fun b _ hl => hB.block b hl) (Gp.keep Hl hB.size fun b _ hl => hB.block b hl)).mono fun e w' ⟨e1, e2⟩ => ⟨e1, Zx Xd e2⟩
     have Vx := HSK.o wr.drew (Below.refl _ _).drew;clear Bk Ns Vt Hl;go_wp2_with fail
     go_region_held (fun W => W.cell? ⟨w.heap.size, 1, none⟩ = some (.slice (some ⟨g, 0, none⟩) ds.length dc) /\ W.cell? ⟨w.heap.size + 1, 1, none⟩ = some (.slice (some ⟨g', 0, none⟩) ds.length dc') /\ W.cell? ⟨g, j * 15, none⟩ = some c0 /\ W.cell? ⟨g, j * 15 + 1, none⟩ = some c1 /\ W.cell? ⟨g, j * 15 + 2, none⟩ = some c2 /\ W.cell? ⟨g, j * 15 + 3, none⟩ = some c3 /\ W.cell? ⟨g, j * 15 + 4, none⟩ = some c4 /\ W.cell? ⟨g, j * 15 + 5, none⟩ = some c5 /\ W.cell? ⟨g, j * 15 + 6, none⟩ = some c6 /\ W.cell? ⟨g, j * 15 + 7, none⟩ = some c7 /\ W.cell? ⟨g, j * 15 + 8, none⟩ = some c8 /\ W.cell? ⟨g, j * 15 + 9, none⟩ = some c9 /\ W.cell? ⟨g, j * 15 + 10, none⟩ = some c10 /\ W.cell? ⟨g, j * 15 + 11, none⟩ = some c11 /\ W.cell? ⟨g, j * 15 + 12, none⟩ = some c12 /\ W.cell? ⟨g, j * 15 + 13, none⟩ = some c13 /\ W.cell? ⟨g, j * 15 + 14, none⟩ = some c14 /\ W.cell? ⟨g', j * 15, none⟩ = some d0 /\ W.cell? ⟨g', j * 15 + 1, none⟩ = some d1 /\ W.cell? ⟨g', j * 15 + 2, none⟩ = some d2 /\ W.cell? ⟨g', j * 15 + 3, none⟩ = some d3 /\ W.cell? ⟨g', j * 15 + 4, none⟩ = some d4 /\ W.cell? ⟨g', j * 15 + 5, none⟩ = some d5 /\ W.cell? ⟨g', j * 15 + 6, none⟩ = some d6 /\ W.cell? ⟨g', j * 15 + 7, none⟩ = some d7 /\ W.cell? ⟨g', j * 15 + 8, none⟩ = some d8 /\ W.cell? ⟨g', j * 15 + 9, none⟩ = some d9 /\ W.cell? ⟨g', j * 15 + 10, none⟩ = some d10 /\ W.cell? ⟨g', j * 15 + 11, none⟩ = some d11 /\ W.cell? ⟨g', j * 15 + 12, none⟩ = some d12 /\ W.cell? ⟨g', j * 15 + 13, none⟩ = some d13 /\ W.cell? ⟨g', j * 15 + 14, none⟩ = some d14) (assumption) (first
      | (go_at_call 17; refine (HC.o _ (by first | exact Below.refl _ _ | exact below_drewN (Below.refl _ _) _ | exact (Below.refl _ _).drew)).mono ?_; rintro e w5 ⟨rfl, U5⟩; have t5 := HSK.o _ U5; have L8 := Za U5; clear U5))
     all_goals go_wp2_with fail
     all_goals exact ⟨⟨j + 1, by go_num, by omega, Zx Z8.o L8.o⟩, by simp [intOf]; omega⟩
    ·have Qt : ¬ (j : Int) < (ds.length : Int) := by omega
     go_wp2_with fail;go_ret;exact ⟨rfl, Zx HB0.o Z8.o⟩
end Go.Proofs.YtfoejkhfdiodhaaGreatDoor
