/- Part. -/
import Derived.Test.YtbnjllkkhhkkaaaGreatDoorPart21
set_option maxRecDepth 100000
set_option maxHeartbeats 4000000
namespace Go.Proofs.YtbnjllkkhhkkaaaGreatDoor
open Go.Proofs.Tryz
open Go.RowKit
attribute [local go_sem ↓] Go.wp_at_zero Go.wp_at_succ
theorem RX.setB {pb tb cap d b : Nat} {ts : List Tok} {w0 w : World} {S : Z3} {bx : List (Nat × Obj)} {cs : Array Value} {t : TypeId} (h : RX pb tb cap ts w0 w d S ((b, .cells cs t) :: bx)) (hbx : ∀ p ∈ bx, p.1 ≠ b) (o : Nat) (u : Value) : RX pb tb cap ts w0 (w.setCell ⟨b, o, none⟩ u) d S ((b, .cells (cs.setIfInBounds o u) t) :: bx) := by
 have hb := (h.has _ (xM)).2
 have hp := h.hp
 refine ⟨h.st.own hp hb o _, h.at_.other (xT hp hb) o _, hp, fun p hpx => ?_⟩
 rcases List.mem_cons.1 hpx with rfl | hpx
 ·exact ⟨Z9 (h.box (xM)), hb⟩
 ·exact ⟨(xH (hbx p hpx)).trans (h.box (xW _ hpx)), (h.has p (xW _ hpx)).2⟩
theorem kids1 {lo g : Nat} {w : World} {k : Int} {nm : ByteArray} {na : Option Addr} {nl nc : Nat} {ka : Option Addr} {kl kc : Nat} {D : Ty} (h : Zt lo w (.agg #[.int .i64 k, .string nm, .slice na nl nc, .slice ka kl kc]) D) (hg : w.heap[g]? = some (Zq k nm na nl nc ka kl kc)) (hl : lo ≤ g) : ∃ m, Xw w lo m (some ⟨g, 0, none⟩) [D] := by
 obtain ⟨m, h⟩ := h
 refine ⟨m, .inr ⟨g, 0, rfl, hl, ⟨_, _, hg⟩, fun i hi => ?_⟩⟩
 match i, hi with
 | 0, _ => exact ⟨_, _, _, _, by rw [cell_of_row _ _ _ _ _ _ hg]; rfl, by rw [cell_of_row _ _ _ _ _ _ hg]; rfl, by rw [cell_of_row _ _ _ _ _ _ hg]; rfl, by rw [cell_of_row _ _ _ _ _ _ hg]; rfl, h⟩
def Xh : List (List UInt8) := [[60], [60, 61], [61, 61]]
def Pe (ts : List Tok) (K sub : Nat → Pr Ty) (x : Ty) (a : Nat) : Pr Ty := match Xh.find? (Zc ts a) with
 | some s => (sub (a + 1)).go fun y b => .inl (Zi 14 s 0 (Zx ts a) (Zz ts a) [] [] [x, y], b)
 | none =>
  if Zc ts a [97, 115] then (K (a + 1)).go fun t b => .inl (Zi 13 [] 0 (Zx ts a) (Zz ts a) [t] [] [x], b)
  else if Zc ts a [105, 115] then match Xj.findIdx? (Zc ts (a + 1)) with
   | some i => .inl (Zi 12 [] i (Zx ts a) (Zz ts a) [] [] [x], a + 2)
   | none => Ys ts 7 (a + 1)
  else .inl (x, a)
theorem Ox {ts : List Tok} {K sub : Nat → Pr Ty} {x : Ty} {b i : Nat} (hi : i < Xh.length) (h1 : ∀ j (_ : j < Xh.length), j < i → Zc ts b Xh[j] = false) (h2 : Zc ts b Xh[i] = true) : Pe ts K sub x b = (sub (b + 1)).go fun y c => .inl (Zi 14 Xh[i] 0 (Zx ts b) (Zz ts b) [] [] [x, y], c) := by
 have : Xh.find? (Zc ts b) = some Xh[i] := by
  rw [List.find?_eq_some_iff_getElem]
  refine ⟨h2, i, hi, rfl, fun j hj => ?_⟩
  rw [h1 j (by omega) hj]
  rfl
 unfold Pe
 rw [this]
theorem Jj {ts : List Tok} {b : Nat} (h : ∀ j (_ : j < Xh.length), Zc ts b Xh[j] = false) : Xh.find? (Zc ts b) = none := by
 rw [List.find?_eq_none]
 intro t ht
 obtain ⟨j, hj, rfl⟩ := List.mem_iff_getElem.1 ht
 rw [h j hj]
 simp
theorem rcmp_c (pb tb cap d : Nat) (ts : List Tok) (ok : Z0 ts) (K sub : Nat → Pr Ty)
  (hK : ∀ S w, Zp w pb tb cap ts d S → Calls prog 31 #[.pointer (some ⟨pb, 0, none⟩)] w (Vn pb tb cap ts d w (Zf K S)))
  (hP : ∀ S w, Zp w pb tb cap ts d S → Calls prog 120 #[.pointer (some ⟨pb, 0, none⟩), .int .i64 3] w (Y4 pb tb cap ts d w (Zf sub S)))
  (S : Z3) (w : World) (h : Zp w pb tb cap ts d S) :
  Calls prog 178 #[.pointer (some ⟨pb, 0, none⟩)] w (Y4 pb tb cap ts d w (Zf (Tm ts K sub) S)) := by
 have HK := Za hK
 have HP := Za hP
 have OK := Za ok
 have X0 := Za (U4 h Ze.obj)
 obtain ⟨R, hR⟩ := xE (Zf (Tm ts K sub) S)
 obtain ⟨R1, hR1⟩ := xE (Zf sub S)
 have HR : xQ (R = R1.go (Pe ts K sub)) := by
  rw [hR, hR1]
  cases S <;> rfl
 have HC1 := Za (HP.o S _ X0.o.at_)
 rw [← hR1] at HC1
 rw [← hR]
 clear hR hR1 hK hP ok h
 go_enter func178, ntmps178
 go_wp2_with fail
 refine HC1.o.mono ?_
 rintro e w1 ⟨hst, hat, x0, rfl, hv⟩
 have X1 := Za ((X0.o.step hst hat).alloc x0.obj)
 rw [xS] at hv
 have HV := Za hv
 have hs1 := hst.size
 rw [xS] at hs1
 clear hst hat hv X0 HC1
 go_wp2_with fail
 have HF1 : xQ (∀ c, c < w1.heap.size → (w1.alloc x0.obj).heap[c]? = w1.heap[c]?) := fun c hc => xA hc
 have HS1 : xQ (w1.heap.size < (w1.alloc x0.obj).heap.size) := by show _ < _; rw [xS]; omega
 obtain ⟨nb, hnb⟩ := xE w1.heap.size
 rw [← hnb] at X1 hs1 HF1 HS1 ⊢
 have HNB := Za hnb
 clear hnb
 generalize w1.alloc (.cells #[.int .i64 x0.k, .string x0.tx, .int .i64 x0.N, .int .i64 x0.li, .int .i64 x0.co, .slice x0.ta x0.tl x0.tc, .slice x0.na x0.nl x0.nc, .slice x0.ka x0.kl x0.kc] 27) = W1 at X1 HF1 HS1 ⊢
 refine (Mo pb tb cap d ts (Zd R1) 14 _ X1.o.at_).mono ?_
 rintro e w2 ⟨li, co, rfl, hlc, hst, hat⟩
 have hp := X1.o.hp
 have X2 := Za (((X1.o.step hst hat).alloc (Zu 14 li co).obj).alloc (Yt Xh))
 rw [xS] at X2
 have HLC := Za hlc
 have hs2 := hst.size
 have HF2 : xQ (∀ c, w.heap.size + 1 ≤ c → c < nb → ((w2.alloc (Zu 14 li co).obj).alloc (Yt Xh)).heap[c]? = w1.heap[c]?) := fun c h1 h2 => (xA (by rw [xS]; have := HS1.o; omega)).trans ((xA (by have := HS1.o; omega)).trans ((hst.keep c (by omega) (by have := HS1.o; omega)).trans (HF1.o c h2)))
 clear hst hat hlc X1 HF1
 go_wp2_with fail
 obtain ⟨mb, hmb⟩ := xE w2.heap.size
 rw [← hmb] at X2 hs2 ⊢
 clear hmb
 obtain ⟨W2, hW2⟩ := xE ((w2.alloc (.cells #[.int .i64 14, .string ⟨#[]⟩, .int .i64 0, .int .i64 li, .int .i64 co, .slice none 0 0, .slice none 0 0, .slice none 0 0] 27)).alloc (.cells #[.string ⟨#[60]⟩, .string ⟨#[60, 61]⟩, .string ⟨#[61, 61]⟩] 9))
 rw [← hW2]
 have X2' : xQ (RX pb tb cap ts w W2 d (Zd R1) [(mb + 1, Yt Xh), (mb, (Zu 14 li co).obj), (nb, x0.obj), (w.heap.size, Ze.obj)]) := by rw [hW2]; exact X2.o
 have HF2' : xQ (∀ c, w.heap.size + 1 ≤ c → c < nb → W2.heap[c]? = w1.heap[c]?) := by rw [hW2]; exact HF2.o
 clear hW2 X2 HF2
 have hnm : nb < mb := by have := HS1.o; omega
 go_loopw [6] (fun v wr => ∃ i : Nat, v = .int .i64 i ∧ i ≤ 3 ∧ xQ (RX pb tb cap ts w wr d (Zd R1) [(mb + 1, Yt Xh), (mb, (Zu 14 li co).obj), (nb, x0.obj), (w.heap.size, Ze.obj)]) ∧ xQ (∀ j (_ : j < Xh.length), j < i → Yd ts (Zd R1) Xh[j] = false) ∧ xQ (∀ c, w.heap.size + 1 ≤ c → c < nb → wr.heap[c]? = w1.heap[c]?)) (fun v _ => 3 - (intOf v).toNat)
 case atStart => exact ⟨0, rfl, by omega, X2', (fun _ _ h => absurd h (Nat.not_lt_zero _)), HF2'⟩
 case round =>
  clear X2' HF2'
  obtain ⟨i, rfl, hi, X, HN, HF⟩ := hrel
  by_cases hlt : i < 3
  ·have hil : (i : Int) < 3 := by omega
   have V9 : i < Xh.length := hlt
   have c1 := Lo (X.o.box (p := (mb + 1, Yt Xh)) (by simp)) V9
   obtain ⟨s, hsL⟩ := xE (Xh[i])
   rw [← hsL] at c1
   have HSL := Za hsL
   have hlm := xB (X.o.box (p := (mb + 1, Yt Xh)) (by simp))
   clear hsL
   go_wp2_with fail
   refine (Y5 pb tb cap d ts (Zd R1) s _ X.o.at_ OK.o).mono ?_
   rintro e w3 ⟨rfl, hst, hat⟩
   have X3 := Za (X.o.step hst hat)
   have HF3 : xQ (∀ c, w.heap.size + 1 ≤ c → c < nb → w3.heap[c]? = w1.heap[c]?) := fun c h1 h2 => (hst.keep c (by omega) (by omega)).trans (HF.o c h1 h2)
   clear hst hat X HF c1
   cases hs : Yd ts (Zd R1) s with
   | false =>
    rw [hs, if_neg (by simp)] at X3
    have HN2 : xQ (∀ j (_ : j < Xh.length), j < i + 1 → Yd ts (Zd R1) Xh[j] = false) := fun j h1 h2 => by
     by_cases e : j = i
     ·subst e; rw [← HSL.o]; exact hs
     ·exact HN.o j h1 (by omega)
    clear hs HN
    go_wp2_with fail
    exact ⟨⟨i + 1, by go_num, by omega, X3, HN2, HF3⟩, by simp [intOf]; omega⟩
   | true =>
    rw [hs, if_pos rfl] at X3
    obtain ⟨x, b, hR1⟩ : ∃ x b, R1 = .inl (x, b) := by
     cases R1 with
     | inr p => cases hs
     | inl q => exact ⟨q.1, q.2, rfl⟩
    have HRt : xQ (R = (sub (b + 1)).go fun y c => .inl (Zi 14 s 0 (Zx ts b) (Zz ts b) [] [] [x, y], c)) := by
     rw [HR.o, hR1]
     have hn : ∀ j (_ : j < Xh.length), j < i → Zc ts b Xh[j] = false := fun j h1 h2 => by
      have := HN.o j h1 h2
      rw [hR1] at this
      exact this
     have hse : Zc ts b Xh[i] = true := by
      rw [hR1] at hs
      rw [← HSL.o]
      exact hs
     rw [HSL.o]
     exact Ox V9 hn hse
    obtain ⟨hl, hc⟩ := HLC.o b (by rw [hR1]; rfl)
    have HLc := Za (And.intro hl hc)
    have HVx := Za (HV.o x b hR1)
    have HC := Za (HP.o _ _ X3.o.at_)
    have e4 : Zf sub (Wy (Zd R1)) = sub (b + 1) := by rw [hR1]; rfl
    rw [e4] at HC
    clear hs hl hc e4 HLC HN hR1 HR HV
    go_wp2_with fail
    refine HC.o.mono ?_
    rintro e w4 ⟨hst, hat, z, rfl, hv⟩
    have X4 := Za (X3.o.step hst hat)
    have HF4 : xQ (∀ c, w.heap.size + 1 ≤ c → c < nb → w4.heap[c]? = w1.heap[c]?) := fun c h1 h2 => (hst.keep c (by omega) (by have := xB (X3.o.box (p := (mb, (Zu 14 li co).obj)) (by simp)); omega)).trans (HF3.o c h1 h2)
    have HZ4 : xQ (Yq (mb + 2) w4 z (sub (b + 1))) := hv.lower (xB (X3.o.box (p := (mb + 1, Yt Xh)) (by simp)))
    clear hst hat hv HC X3 HF3
    obtain ⟨⟨n0, n1, n2, n3, n4, n5, n6, n7⟩, _, hnl4⟩ := Zh (X4.o.box (p := (nb, x0.obj)) (by simp))
    obtain ⟨⟨m0, m1, m2, m3, m4, m5, m6, m7⟩, ⟨g0, g1, g2, g3, g4, g5, g6, g7⟩, hml4⟩ := Zh (X4.o.box (p := (mb, (Zu 14 li co).obj)) (by simp))
    obtain ⟨⟨r0, r1, r2, r3, r4, r5, r6, r7⟩, ⟨f0, f1, f2, f3, f4, f5, f6, f7⟩, hr4⟩ := Zh (X4.o.box (p := (w.heap.size, Ze.obj)) (by simp))
    have c2 := Lo (X4.o.box (p := (mb + 1, Yt Xh)) (by simp)) V9
    rw [← HSL.o] at c2
    have hlg := xB (X4.o.box (p := (mb + 1, Yt Xh)) (by simp))
    have hne1 : ¬ mb = nb := by omega
    have hne2 : ¬ nb = mb := by omega
    have hne3 : ¬ mb + 1 = mb := by omega
    have hne5 : ¬ mb = w.heap.size := by omega
    have hne6 : ¬ nb = w.heap.size := by omega
    have hne7 : ¬ w.heap.size = mb := by omega
    go_wp2_with fail
    obtain ⟨Wf, hWf⟩ := xE ((((((((((((w4.setCell ⟨mb, 1, none⟩ (.string ⟨s.toArray⟩)).setCell ⟨mb, 7, none⟩ (.slice (some ⟨w4.heap.size + 1, 0, none⟩) 2 2)).setCell ⟨w.heap.size, 0, none⟩ (.int .i64 14)).setCell ⟨w.heap.size, 1, none⟩ (.string ⟨s.toArray⟩)).setCell ⟨w.heap.size, 2, none⟩ (.int .i64 0)).setCell ⟨w.heap.size, 3, none⟩ (.int .i64 li)).setCell ⟨w.heap.size, 4, none⟩ (.int .i64 co)).setCell ⟨w.heap.size, 5, none⟩ (.slice none 0 0)).setCell ⟨w.heap.size, 6, none⟩ (.slice none 0 0)).setCell ⟨w.heap.size, 7, none⟩ (.slice (some ⟨w4.heap.size + 1, 0, none⟩) 2 2)).alloc (.cells #[.int .i64 z.k, .string z.tx, .int .i64 z.N, .int .i64 z.li, .int .i64 z.co, .slice z.ta z.tl z.tc, .slice z.na z.nl z.nc, .slice z.ka z.kl z.kc] 27)).alloc (.cells #[.int .i64 x0.k, .string x0.tx, .int .i64 x0.N, .int .i64 x0.li, .int .i64 x0.co, .slice x0.ta x0.tl x0.tc, .slice x0.na x0.nl x0.nc, .slice x0.ka x0.kl x0.kc, .int .i64 z.k, .string z.tx, .int .i64 z.N, .int .i64 z.li, .int .i64 z.co, .slice z.ta z.tl z.tc, .slice z.na z.nl z.nc, .slice z.ka z.kl z.kc] 27))
    rw [← hWf]
    have hsz0 : (put8 ((w4.setCell ⟨mb, 1, none⟩ (.string ⟨s.toArray⟩)).setCell ⟨mb, 7, none⟩ (.slice (some ⟨w4.heap.size + 1, 0, none⟩) 2 2)) w.heap.size ⟨14, ⟨s.toArray⟩, 0, li, co, none, 0, 0, none, 0, 0, some ⟨w4.heap.size + 1, 0, none⟩, 2, 2⟩).heap.size = w4.heap.size := by rw [Wr, Zw, Zw]
    have HXF : xQ (RX pb tb cap ts w Wf d (Zd (sub (b + 1))) [(w.heap.size, NV.obj ⟨14, ⟨s.toArray⟩, 0, li, co, none, 0, 0, none, 0, 0, some ⟨w4.heap.size + 1, 0, none⟩, 2, 2⟩)]) := by
     have h1 := (X4.o.perm (bx' := [(w.heap.size, Ze.obj)]) (by simp))
     have h2 := ((h1.far (c := mb) (by omega) (by simp; omega) 1 (.string ⟨s.toArray⟩)).far (c := mb) (by omega) (by simp; omega) 7 (.slice (some ⟨w4.heap.size + 1, 0, none⟩) 2 2))
     rw [hWf]
     exact (((h2.put8 (by simp) ⟨14, ⟨s.toArray⟩, 0, li, co, none, 0, 0, none, 0, 0, some ⟨w4.heap.size + 1, 0, none⟩, 2, 2⟩).alloc z.obj).drop.alloc (Ve x0 z)).drop
    have zhp : ∀ c, c ≠ w.heap.size → c ≠ mb → c < w4.heap.size → Wf.heap[c]? = w4.heap[c]? := fun c h1 h2 h3 => by
     rw [hWf]
     exact (xA (by rw [xS, hsz0]; omega)).trans ((xA (by rw [hsz0]; exact h3)).trans ((Xq (x := ⟨14, ⟨s.toArray⟩, 0, li, co, none, 0, 0, none, 0, 0, some ⟨w4.heap.size + 1, 0, none⟩, 2, 2⟩) h1).trans ((xH h2).trans (xH h2))))
    have hrow : Wf.heap[w4.heap.size + 1]? = some (Ve x0 z) := by
     have := Wn (put8 ((w4.setCell ⟨mb, 1, none⟩ (.string ⟨s.toArray⟩)).setCell ⟨mb, 7, none⟩ (.slice (some ⟨w4.heap.size + 1, 0, none⟩) 2 2)) w.heap.size ⟨14, ⟨s.toArray⟩, 0, li, co, none, 0, 0, none, 0, 0, some ⟨w4.heap.size + 1, 0, none⟩, 2, 2⟩) z.obj (Ve x0 z)
     rw [hsz0] at this
     rw [hWf]
     exact this
    have hsF : w4.heap.size + 2 = Wf.heap.size := by rw [hWf, xS, xS]; simp only [Zw]
    clear hWf
    refine bodyPost_ret (results_cell_row rfl _ _ w.heap.size 27 _ (0, 0) _ rfl (HXF.o.box (p := (w.heap.size, NV.obj ⟨14, ⟨s.toArray⟩, 0, li, co, none, 0, 0, none, 0, 0, some ⟨w4.heap.size + 1, 0, none⟩, 2, 2⟩)) (by simp)) underlying27 rfl (by kernel_rfl)) rfl ⟨HXF.o.st, ?_, ⟨14, ⟨s.toArray⟩, 0, li, co, none, 0, 0, none, 0, 0, some ⟨w4.heap.size + 1, 0, none⟩, 2, 2⟩, rfl, fun D c e => ?_⟩
    ·have := HXF.o.at_
     rw [HRt.o]
     cases hsb : sub (b + 1) with
     | inr q => rw [hsb] at this; exact this
     | inl q => rw [hsb] at this; exact this
    ·rw [HRt.o] at e
     cases hsb : sub (b + 1) with
     | inr q => rw [hsb] at e; cases e
     | inl q =>
      obtain ⟨D2, b2⟩ := q
      rw [hsb] at e
      injection e with e
      injection e with e _
      rw [← e]
      have hx : Zv (w.heap.size + 1) Wf x0 x := HVx.o.keep (by have := HNB.o; omega) fun c h6 h7 => (zhp c (by omega) (by have := HNB.o; omega) (by have := HNB.o; omega)).trans (HF4.o c h6 (by have := HNB.o; omega))
      have hz : Zv (w.heap.size + 1) Wf z D2 := ((HZ4.o D2 b2 hsb).keep (by omega) fun c h6 h7 => zhp c (by omega) (by omega) h7).lower (by omega)
      have := To (kb := w4.heap.size + 1) hx hz hrow (by omega) ⟨14, ⟨s.toArray⟩, 0, li, co, none, 0, 0, none, 0, 0, some ⟨w4.heap.size + 1, 0, none⟩, 2, 2⟩ [] [] ⟨rfl, rfl⟩ ⟨rfl, xZ _, 0, .inl rfl⟩ ⟨rfl, xZ _, .inl rfl⟩
      rw [← HLc.o.1, ← HLc.o.2]
      exact this.lower (Nat.le_succ _)
  ·have hil : ¬ (i : Int) < 3 := by omega
   have HNn : xQ (∀ j (_ : j < Xh.length), Yd ts (Zd R1) Xh[j] = false) := fun j h1 => HN.o j h1 (by have : Xh.length = 3 := rfl; omega)
   obtain ⟨⟨n0, n1, n2, n3, n4, n5, n6, n7⟩, _, hnl4⟩ := Zh (X.o.box (p := (nb, x0.obj)) (by simp))
   obtain ⟨⟨m0, m1, m2, m3, m4, m5, m6, m7⟩, ⟨g0, g1, g2, g3, g4, g5, g6, g7⟩, hml4⟩ := Zh (X.o.box (p := (mb, (Zu 14 li co).obj)) (by simp))
   have hne2 : ¬ nb = mb := by omega
   clear HN
   have hlw := X.o.st.size
   have hkbl : nb < wr.heap.size := hnl4
   go_wp2_with fail
   obtain ⟨W5, hW5⟩ := xE ((wr.setCell ⟨mb, 7, none⟩ (.slice (some ⟨wr.heap.size, 0, none⟩) 1 1)).alloc (.cells #[.int .i64 x0.k, .string x0.tx, .int .i64 x0.N, .int .i64 x0.li, .int .i64 x0.co, .slice x0.ta x0.tl x0.tc, .slice x0.na x0.nl x0.nc, .slice x0.ka x0.kl x0.kc] 27))
   rw [← hW5]
   obtain ⟨kb, hkb⟩ := xE wr.heap.size
   have X5 : xQ (RX pb tb cap ts w W5 d (Zd R1) [(mb, NV.obj ⟨14, ⟨#[]⟩, 0, li, co, none, 0, 0, none, 0, 0, some ⟨kb, 0, none⟩, 1, 1⟩), (nb, x0.obj), (w.heap.size, Ze.obj), (kb, x0.obj)]) := by
    have h1 := (X.o.perm (bx' := [(mb, (Zu 14 li co).obj), (nb, x0.obj), (w.heap.size, Ze.obj)]) (by simp)).setB (by simp; omega) 7 (.slice (some ⟨wr.heap.size, 0, none⟩) 1 1)
    have h2 := h1.alloc x0.obj
    rw [Zw] at h2
    rw [hW5, hkb]
    exact h2.perm (by simp)
   have HF5 : xQ (∀ c, w.heap.size + 1 ≤ c → c < nb → W5.heap[c]? = w1.heap[c]?) := fun c h1 h2 => by
    rw [hW5]
    exact (xA (by rw [Zw]; omega)).trans ((xH (by show c ≠ mb; omega)).trans (HF.o c h1 h2))
   rw [← hkb]
   have hmk : mb < kb := by omega
   have hnk : nb < kb := by omega
   clear hW5 hkb X HF n0 n1 n2 n3 n4 n5 n6 n7 m0 m1 m2 m3 m4 m5 m6 m7 g0 g1 g2 g3 g4 g5 g6 g7 hnl4 hml4 hlw hkbl
   refine (Y5 pb tb cap d ts (Zd R1) [97, 115] _ X5.o.at_ OK.o).mono ?_
   rintro e w6 ⟨rfl, hst, hat⟩
   have X6 := Za (X5.o.step hst hat)
   have HF6 : xQ (∀ c, w.heap.size + 1 ≤ c → c < nb → w6.heap[c]? = w1.heap[c]?) := fun c h1 h2 => (hst.keep c (by omega) (by have := xB (X5.o.box (p := (nb, x0.obj)) (by simp)); omega)).trans (HF5.o c h1 h2)
   clear hst hat X5 HF5
   cases hs : Yd ts (Zd R1) [97, 115] with
   | true =>
    rw [hs, if_pos rfl] at X6
    obtain ⟨x, b, hR1⟩ : ∃ x b, R1 = .inl (x, b) := by
     cases R1 with
     | inr p => cases hs
     | inl q => exact ⟨q.1, q.2, rfl⟩
    have HRt : xQ (R = (K (b + 1)).go fun t c => .inl (Zi 13 [] 0 (Zx ts b) (Zz ts b) [t] [] [x], c)) := by
     rw [HR.o, hR1]
     rw [hR1] at hs
     show Pe ts K sub x b = _
     unfold Pe
     rw [Jj fun j h1 => by have := HNn.o j h1; rw [hR1] at this; exact this]
     exact if_pos hs
    obtain ⟨hl, hc⟩ := HLC.o b (by rw [hR1]; rfl)
    have HLc := Za (And.intro hl hc)
    have HVx := Za (HV.o x b hR1)
    have e4 : Zf K (Wy (Zd R1)) = K (b + 1) := by rw [hR1]; rfl
    have HKc : xQ (∀ w, Zp w pb tb cap ts d (Wy (Zd R1)) → Calls prog 31 #[.pointer (some ⟨pb, 0, none⟩)] w (Vn pb tb cap ts d w (K (b + 1)))) := fun w h => by rw [← e4]; exact HK.o _ w h
    clear hs hl hc e4 HLC HNn hR1 HR HV
    obtain ⟨⟨m0, m1, m2, m3, m4, m5, m6, m7⟩, ⟨g0, g1, g2, g3, g4, g5, g6, g7⟩, hml6⟩ := Zh (X6.o.box (p := (mb, NV.obj ⟨14, ⟨#[]⟩, 0, li, co, none, 0, 0, none, 0, 0, some ⟨kb, 0, none⟩, 1, 1⟩)) (by simp))
    have X7 : xQ (RX pb tb cap ts w (w6.setCell ⟨mb, 0, none⟩ (.int .i64 13)) d (Wy (Zd R1)) [(mb, NV.obj ⟨13, ⟨#[]⟩, 0, li, co, none, 0, 0, none, 0, 0, some ⟨kb, 0, none⟩, 1, 1⟩), (nb, x0.obj), (w.heap.size, Ze.obj), (kb, x0.obj)]) := X6.o.setB (by simp; omega) 0 (.int .i64 13)
    go_wp2_with fail
    refine (HKc.o _ X7.o.at_).mono ?_
    rintro e w8 ⟨hst, hat, k1, nm1, na1, nl1, nc1, ka1, kl1, kc1, rfl, hv⟩
    have X8 := Za (X7.o.step hst hat)
    have h68 := hst.size
    rw [Zw] at h68
    have HF8 : xQ (∀ c, w.heap.size + 1 ≤ c → c < nb → w8.heap[c]? = w1.heap[c]?) := fun c h1 h2 => (hst.keep c (by omega) (by rw [Zw]; omega)).trans ((xH (by show c ≠ mb; omega)).trans (HF6.o c h1 h2))
    have HV8 : xQ (Ud (kb + 1) w8 (.agg #[.int .i64 k1, .string nm1, .slice na1 nl1 nc1, .slice ka1 kl1 kc1]) (K (b + 1))) := hv.lower (by have := xB (X7.o.box (p := (kb, x0.obj)) (by simp)); exact this)
    clear hst hat hv X6 X7 HF6 m0 m1 m2 m3 m4 m5 m6 m7 g0 g1 g2 g3 g4 g5 g6 g7
    obtain ⟨⟨m0, m1, m2, m3, m4, m5, m6, m7⟩, ⟨g0, g1, g2, g3, g4, g5, g6, g7⟩, hml8⟩ := Zh (X8.o.box (p := (mb, NV.obj ⟨13, ⟨#[]⟩, 0, li, co, none, 0, 0, none, 0, 0, some ⟨kb, 0, none⟩, 1, 1⟩)) (by simp))
    obtain ⟨⟨r0, r1, r2, r3, r4, r5, r6, r7⟩, ⟨f0, f1, f2, f3, f4, f5, f6, f7⟩, hr8⟩ := Zh (X8.o.box (p := (w.heap.size, Ze.obj)) (by simp))
    have hne5 : ¬ mb = w.heap.size := by omega
    have hne7 : ¬ w.heap.size = mb := by omega
    go_wp2_with fail
    obtain ⟨Wf, hWf⟩ := xE (((((((((((w8.setCell ⟨mb, 5, none⟩ (.slice (some ⟨w8.heap.size + 1, 0, none⟩) 1 1)).setCell ⟨w.heap.size, 0, none⟩ (.int .i64 13)).setCell ⟨w.heap.size, 1, none⟩ (.string ⟨#[]⟩)).setCell ⟨w.heap.size, 2, none⟩ (.int .i64 0)).setCell ⟨w.heap.size, 3, none⟩ (.int .i64 li)).setCell ⟨w.heap.size, 4, none⟩ (.int .i64 co)).setCell ⟨w.heap.size, 5, none⟩ (.slice (some ⟨w8.heap.size + 1, 0, none⟩) 1 1)).setCell ⟨w.heap.size, 6, none⟩ (.slice none 0 0)).setCell ⟨w.heap.size, 7, none⟩ (.slice (some ⟨kb, 0, none⟩) 1 1)).alloc (.cells #[.int .i64 k1, .string nm1, .slice na1 nl1 nc1, .slice ka1 kl1 kc1] 36)).alloc (.cells #[.int .i64 k1, .string nm1, .slice na1 nl1 nc1, .slice ka1 kl1 kc1] 36))
    rw [← hWf]
    have hsz0 : (put8 (w8.setCell ⟨mb, 5, none⟩ (.slice (some ⟨w8.heap.size + 1, 0, none⟩) 1 1)) w.heap.size ⟨13, ⟨#[]⟩, 0, li, co, some ⟨w8.heap.size + 1, 0, none⟩, 1, 1, none, 0, 0, some ⟨kb, 0, none⟩, 1, 1⟩).heap.size = w8.heap.size := by rw [Wr, Zw]
    have HXF : xQ (RX pb tb cap ts w Wf d (Zd (K (b + 1))) [(w.heap.size, NV.obj ⟨13, ⟨#[]⟩, 0, li, co, some ⟨w8.heap.size + 1, 0, none⟩, 1, 1, none, 0, 0, some ⟨kb, 0, none⟩, 1, 1⟩), (kb, x0.obj)]) := by
     have h1 := (X8.o.perm (bx' := [(w.heap.size, Ze.obj), (kb, x0.obj)]) (by simp))
     have h2 := (h1.far (c := mb) (by omega) (by simp; omega) 5 (.slice (some ⟨w8.heap.size + 1, 0, none⟩) 1 1))
     rw [hWf]
     exact (((h2.put8 (by simp; omega) ⟨13, ⟨#[]⟩, 0, li, co, some ⟨w8.heap.size + 1, 0, none⟩, 1, 1, none, 0, 0, some ⟨kb, 0, none⟩, 1, 1⟩).alloc (Zq k1 nm1 na1 nl1 nc1 ka1 kl1 kc1)).drop.alloc (Zq k1 nm1 na1 nl1 nc1 ka1 kl1 kc1)).drop
    have zhp : ∀ c, c ≠ w.heap.size → c ≠ mb → c < w8.heap.size → Wf.heap[c]? = w8.heap[c]? := fun c h1 h2 h3 => by
     rw [hWf]
     exact (xA (by rw [xS, hsz0]; omega)).trans ((xA (by rw [hsz0]; exact h3)).trans ((Xq (x := ⟨13, ⟨#[]⟩, 0, li, co, some ⟨w8.heap.size + 1, 0, none⟩, 1, 1, none, 0, 0, some ⟨kb, 0, none⟩, 1, 1⟩) h1).trans (xH h2)))
    have hrow : Wf.heap[w8.heap.size + 1]? = some (Zq k1 nm1 na1 nl1 nc1 ka1 kl1 kc1) := by
     have := Wn (put8 (w8.setCell ⟨mb, 5, none⟩ (.slice (some ⟨w8.heap.size + 1, 0, none⟩) 1 1)) w.heap.size ⟨13, ⟨#[]⟩, 0, li, co, some ⟨w8.heap.size + 1, 0, none⟩, 1, 1, none, 0, 0, some ⟨kb, 0, none⟩, 1, 1⟩) (Zq k1 nm1 na1 nl1 nc1 ka1 kl1 kc1) (Zq k1 nm1 na1 nl1 nc1 ka1 kl1 kc1)
     rw [hsz0] at this
     rw [hWf]
     exact this
    have hsF : w8.heap.size + 2 = Wf.heap.size := by rw [hWf, xS, xS]; simp only [Zw]
    clear hWf
    refine bodyPost_ret (results_cell_row rfl _ _ w.heap.size 27 _ (0, 0) _ rfl (HXF.o.box (p := (w.heap.size, NV.obj ⟨13, ⟨#[]⟩, 0, li, co, some ⟨w8.heap.size + 1, 0, none⟩, 1, 1, none, 0, 0, some ⟨kb, 0, none⟩, 1, 1⟩)) (by simp)) underlying27 rfl (by kernel_rfl)) rfl ⟨HXF.o.st, ?_, ⟨13, ⟨#[]⟩, 0, li, co, some ⟨w8.heap.size + 1, 0, none⟩, 1, 1, none, 0, 0, some ⟨kb, 0, none⟩, 1, 1⟩, rfl, fun D c e => ?_⟩
    ·have := HXF.o.at_
     rw [HRt.o]
     cases hsb : K (b + 1) with
     | inr q => rw [hsb] at this; exact this
     | inl q => rw [hsb] at this; exact this
    ·rw [HRt.o] at e
     cases hsb : K (b + 1) with
     | inr q => rw [hsb] at e; cases e
     | inl q =>
      obtain ⟨t, b2⟩ := q
      rw [hsb] at e
      injection e with e
      injection e with e _
      rw [← e]
      have hx : Zv (w.heap.size + 1) Wf x0 x := HVx.o.keep (by have := HNB.o; omega) fun c h6 h7 => (zhp c (by omega) (by have := HNB.o; omega) (by have := HNB.o; omega)).trans (HF8.o c h6 (by have := HNB.o; omega))
      have ht : Zt (w.heap.size + 1) Wf (.agg #[.int .i64 k1, .string nm1, .slice na1 nl1 nc1, .slice ka1 kl1 kc1]) t := ((HV8.o t b2 hsb).keep (by omega) fun c h6 h7 => zhp c (by omega) (by omega) h7).lower (by omega)
      have := V2 (kb := kb) hx (HXF.o.box (p := (kb, x0.obj)) (by simp)) (by omega) ⟨13, ⟨#[]⟩, 0, li, co, some ⟨w8.heap.size + 1, 0, none⟩, 1, 1, none, 0, 0, some ⟨kb, 0, none⟩, 1, 1⟩ [t] [] ⟨rfl, rfl⟩ ⟨rfl, by simp, kids1 ht hrow (by omega)⟩ ⟨rfl, xZ _, .inl rfl⟩
      rw [← HLc.o.1, ← HLc.o.2]
      exact this.lower (Nat.le_succ _)
   | false =>
    rw [hs, if_neg (by simp)] at X6
    have HAs := Za hs
    clear hs
    go_wp2_with fail
    refine (Y5 pb tb cap d ts (Zd R1) [105, 115] _ X6.o.at_ OK.o).mono ?_
    rintro e w7 ⟨rfl, hst, hat⟩
    have X7 := Za (X6.o.step hst hat)
    have HF7 : xQ (∀ c, w.heap.size + 1 ≤ c → c < nb → w7.heap[c]? = w1.heap[c]?) := fun c h1 h2 => (hst.keep c (by omega) (by have := xB (X6.o.box (p := (nb, x0.obj)) (by simp)); omega)).trans (HF6.o c h1 h2)
    clear hst hat X6 HF6
    cases hs : Yd ts (Zd R1) [105, 115] with
    | false =>
     rw [hs, if_neg (by simp)] at X7
     have HRt : xQ (R = R1) := by
      rw [HR.o]
      cases hR1 : R1 with
      | inr p => rfl
      | inl q =>
       obtain ⟨x, b⟩ := q
       show Pe ts K sub x b = _
       have h1 := HAs.o
       rw [hR1] at hs h1
       unfold Pe
       rw [Jj fun j h1 => by have := HNn.o j h1; rw [hR1] at this; exact this]
       have h2 : Zc ts b [97, 115] = false := h1
       have h3 : Zc ts b [105, 115] = false := hs
       simp [h2, h3]
     clear hs HAs
     obtain ⟨⟨n0, n1, n2, n3, n4, n5, n6, n7⟩, _, hnl7⟩ := Zh (X7.o.box (p := (nb, x0.obj)) (by simp))
     obtain ⟨⟨r0, r1, r2, r3, r4, r5, r6, r7⟩, ⟨f0, f1, f2, f3, f4, f5, f6, f7⟩, hr7⟩ := Zh (X7.o.box (p := (w.heap.size, Ze.obj)) (by simp))
     have hne6 : ¬ nb = w.heap.size := by omega
     go_wp2_with fail
     have XF := RX.put8 (X7.o.perm (bx' := [(w.heap.size, Ze.obj)]) (by simp)) (by simp) x0
     rw [HRt.o]
     refine bodyPost_ret (results_cell_row rfl _ _ w.heap.size 27 _ (0, 0) _ rfl (XF.box (p := (w.heap.size, x0.obj)) (by simp)) underlying27 rfl (by kernel_rfl)) rfl ⟨XF.st, XF.at_, x0, rfl, fun D c e => ?_⟩
     refine Zv.lower (Zv.put8 ((HV.o D c e).keep (by have := HNB.o; omega) fun c h6 h7 => HF7.o c h6 (by have := HNB.o; omega)) (xU _) x0) (Nat.le_succ _)
    | true =>
     rw [hs, if_pos rfl] at X7
     obtain ⟨x, b, hR1⟩ : ∃ x b, R1 = .inl (x, b) := by
      cases R1 with
      | inr p => cases hs
      | inl q => exact ⟨q.1, q.2, rfl⟩
     have HRt : xQ (R = match Xj.findIdx? (Zc ts (b + 1)) with
       | some i => .inl (Zi 12 [] i (Zx ts b) (Zz ts b) [] [] [x], b + 2)
       | none => Ys ts 7 (b + 1)) := by
      rw [HR.o, hR1]
      have h1 := HAs.o
      rw [hR1] at hs h1
      show Pe ts K sub x b = _
      unfold Pe
      rw [Jj fun j h1 => by have := HNn.o j h1; rw [hR1] at this; exact this]
      have h2 : Zc ts b [97, 115] = false := h1
      have h3 : Zc ts b [105, 115] = true := hs
      simp only [h2, h3]
      rfl
     obtain ⟨hl, hc⟩ := HLC.o b (by rw [hR1]; rfl)
     have HLc := Za (And.intro hl hc)
     have HVx := Za (HV.o x b hR1)
     have e4 : Wy (Zd R1) = .inl (b + 1) := by rw [hR1]; rfl
     rw [e4] at X7
     clear hs hl hc e4 HLC HNn hR1 HR HV HAs
     obtain ⟨⟨m0, m1, m2, m3, m4, m5, m6, m7⟩, ⟨g0, g1, g2, g3, g4, g5, g6, g7⟩, hml7⟩ := Zh (X7.o.box (p := (mb, NV.obj ⟨14, ⟨#[]⟩, 0, li, co, none, 0, 0, none, 0, 0, some ⟨kb, 0, none⟩, 1, 1⟩)) (by simp))
     have hk7 := xB (X7.o.box (p := (kb, x0.obj)) (by simp))
     have hn7 := xB (X7.o.box (p := (nb, x0.obj)) (by simp))
     go_wp2_with fail
     obtain ⟨W8, hW8⟩ := xE ((w7.setCell ⟨mb, 0, none⟩ (.int .i64 12)).alloc (.cells #[.string ⟨#[110, 117, 108, 108]⟩, .string ⟨#[98, 111, 111, 108]⟩, .string ⟨#[105, 110, 116]⟩, .string ⟨#[115, 116, 114]⟩, .string ⟨#[114, 101, 99, 111, 114, 100]⟩, .string ⟨#[102, 117, 110, 99, 116, 105, 111, 110]⟩] 9))
     rw [← hW8]
     obtain ⟨gb, hgb⟩ := xE w7.heap.size
     rw [← hgb]
     have X8 : xQ (RX pb tb cap ts w W8 d (.inl (b + 1)) [(mb, NV.obj ⟨12, ⟨#[]⟩, 0, li, co, none, 0, 0, none, 0, 0, some ⟨kb, 0, none⟩, 1, 1⟩), (w.heap.size, Ze.obj), (kb, x0.obj), (gb, Yt Xj)]) := by
      have h1 := (X7.o.perm (bx' := [(mb, NV.obj ⟨14, ⟨#[]⟩, 0, li, co, none, 0, 0, none, 0, 0, some ⟨kb, 0, none⟩, 1, 1⟩), (w.heap.size, Ze.obj), (kb, x0.obj)]) (by simp)).setB (by simp; omega) 0 (.int .i64 12)
      have h2 := h1.alloc (Yt Xj)
      rw [Zw] at h2
      rw [hW8, hgb]
      exact h2.perm (by simp)
     have HF8 : xQ (∀ c, w.heap.size + 1 ≤ c → c < nb → W8.heap[c]? = w1.heap[c]?) := fun c h1 h2 => by
      rw [hW8]
      exact (xA (by rw [Zw]; omega)).trans ((xH (by show c ≠ mb; omega)).trans (HF7.o c h1 h2))
     have hgk : kb < gb := by omega
     clear hW8 hgb X7 HF7 m0 m1 m2 m3 m4 m5 m6 m7 g0 g1 g2 g3 g4 g5 g6 g7 hml7
     obtain ⟨wq, hwq⟩ := xE wr
     subst hwq
     go_loopw [10] (fun v wr => ∃ i : Nat, v = .int .i64 i ∧ i ≤ 6 ∧ xQ (RX pb tb cap ts w wr d (.inl (b + 1)) [(mb, NV.obj ⟨12, ⟨#[]⟩, 0, li, co, none, 0, 0, none, 0, 0, some ⟨kb, 0, none⟩, 1, 1⟩), (w.heap.size, Ze.obj), (kb, x0.obj), (gb, Yt Xj)]) ∧ xQ (∀ j (_ : j < Xj.length), j < i → Zc ts (b + 1) Xj[j] = false) ∧ xQ (∀ c, w.heap.size + 1 ≤ c → c < nb → wr.heap[c]? = w1.heap[c]?)) (fun v _ => 6 - (intOf v).toNat)
     case atStart => exact ⟨0, rfl, by omega, X8, (fun _ _ h => absurd h (Nat.not_lt_zero _)), HF8⟩
     case round =>
      clear X8 HF8
      obtain ⟨i2, rfl, hi2, X, HN, HF⟩ := hrel
      have hnw : nb < wr.heap.size := by have := xB (X.o.box (p := (kb, x0.obj)) (by simp)); omega
      by_cases hlt : i2 < 6
      ·have hil2 : (i2 : Int) < 6 := by omega
       have V9 : i2 < Xj.length := hlt
       have c1 := Lo (X.o.box (p := (gb, Yt Xj)) (by simp)) V9
       obtain ⟨s, hsL⟩ := xE (Xj[i2])
       rw [← hsL] at c1
       have HSL := Za hsL
       have hlm := xB (X.o.box (p := (gb, Yt Xj)) (by simp))
       clear hsL
       go_wp2_with fail
       refine (Y5 pb tb cap d ts (.inl (b + 1)) s _ X.o.at_ OK.o).mono ?_
       rintro e w9 ⟨rfl, hst, hat⟩
       have X9 := Za (X.o.step hst hat)
       have HF9 : xQ (∀ c, w.heap.size + 1 ≤ c → c < nb → w9.heap[c]? = w1.heap[c]?) := fun c h1 h2 => (hst.keep c (by omega) (by omega)).trans (HF.o c h1 h2)
       have hs9 := hst.size
       clear hst hat X HF c1
       cases hs : Yd ts (.inl (b + 1)) s with
       | false =>
        rw [hs, if_neg (by simp)] at X9
        have HN2 : xQ (∀ j (_ : j < Xj.length), j < i2 + 1 → Zc ts (b + 1) Xj[j] = false) := fun j h1 h2 => by
         by_cases e : j = i2
         ·subst e; rw [← HSL.o]; exact hs
         ·exact HN.o j h1 (by omega)
        clear hs HN
        go_wp2_with fail
        exact ⟨⟨i2 + 1, by go_num, by omega, X9, HN2, HF9⟩, by simp [intOf]; omega⟩
       | true =>
        rw [hs, if_pos rfl] at X9
        have HRi : xQ (R = .inl (Zi 12 [] i2 (Zx ts b) (Zz ts b) [] [] [x], b + 2)) := by
         rw [HRt.o]
         have : Xj.findIdx? (Zc ts (b + 1)) = some i2 := by
          rw [List.findIdx?_eq_some_iff_getElem]
          refine ⟨V9, by rw [← HSL.o]; exact hs, fun j hj => ?_⟩
          rw [HN.o j (by omega) hj]
          simp
         rw [this]
         exact rfl
        clear hs HN HRt
        obtain ⟨⟨m0, m1, m2, m3, m4, m5, m6, m7⟩, ⟨g0, g1, g2, g3, g4, g5, g6, g7⟩, hml9⟩ := Zh (X9.o.box (p := (mb, NV.obj ⟨12, ⟨#[]⟩, 0, li, co, none, 0, 0, none, 0, 0, some ⟨kb, 0, none⟩, 1, 1⟩)) (by simp))
        obtain ⟨⟨r0, r1, r2, r3, r4, r5, r6, r7⟩, ⟨f0, f1, f2, f3, f4, f5, f6, f7⟩, hr9⟩ := Zh (X9.o.box (p := (w.heap.size, Ze.obj)) (by simp))
        have hne5 : ¬ mb = w.heap.size := by omega
        have hne7 : ¬ w.heap.size = mb := by omega
        go_wp2_with fail
        obtain ⟨Wf, hWf⟩ := xE (((((((((w9.setCell ⟨mb, 2, none⟩ (.int .i64 i2)).setCell ⟨w.heap.size, 0, none⟩ (.int .i64 12)).setCell ⟨w.heap.size, 1, none⟩ (.string ⟨#[]⟩)).setCell ⟨w.heap.size, 2, none⟩ (.int .i64 i2)).setCell ⟨w.heap.size, 3, none⟩ (.int .i64 li)).setCell ⟨w.heap.size, 4, none⟩ (.int .i64 co)).setCell ⟨w.heap.size, 5, none⟩ (.slice none 0 0)).setCell ⟨w.heap.size, 6, none⟩ (.slice none 0 0)).setCell ⟨w.heap.size, 7, none⟩ (.slice (some ⟨kb, 0, none⟩) 1 1))
        rw [← hWf]
        have HXF : xQ (RX pb tb cap ts w Wf d (Wy (.inl (b + 1))) [(w.heap.size, NV.obj ⟨12, ⟨#[]⟩, (i2 : Int), li, co, none, 0, 0, none, 0, 0, some ⟨kb, 0, none⟩, 1, 1⟩), (kb, x0.obj)]) := by
         have h1 := (X9.o.perm (bx' := [(w.heap.size, Ze.obj), (kb, x0.obj)]) (by simp))
         have h2 := (h1.far (c := mb) (by omega) (by simp; omega) 2 (.int .i64 i2))
         rw [hWf]
         exact h2.put8 (by simp; omega) ⟨12, ⟨#[]⟩, (i2 : Int), li, co, none, 0, 0, none, 0, 0, some ⟨kb, 0, none⟩, 1, 1⟩
        have zhp : ∀ c, c ≠ w.heap.size → c ≠ mb → Wf.heap[c]? = w9.heap[c]? := fun c h1 h2 => by
         rw [hWf]
         exact (Xq (x := ⟨12, ⟨#[]⟩, (i2 : Int), li, co, none, 0, 0, none, 0, 0, some ⟨kb, 0, none⟩, 1, 1⟩) h1).trans (xH h2)
        have hsF : w9.heap.size = Wf.heap.size := by rw [hWf]; simp only [Zw]
        clear hWf
        refine bodyPost_ret (results_cell_row rfl _ _ w.heap.size 27 _ (0, 0) _ rfl (HXF.o.box (p := (w.heap.size, NV.obj ⟨12, ⟨#[]⟩, (i2 : Int), li, co, none, 0, 0, none, 0, 0, some ⟨kb, 0, none⟩, 1, 1⟩)) (by simp)) underlying27 rfl (by kernel_rfl)) rfl ⟨HXF.o.st, ?_, ⟨12, ⟨#[]⟩, (i2 : Int), li, co, none, 0, 0, none, 0, 0, some ⟨kb, 0, none⟩, 1, 1⟩, rfl, fun D c e => ?_⟩
        ·rw [HRi.o]
         exact HXF.o.at_
        ·rw [HRi.o] at e
         injection e with e
         injection e with e _
         have hx : Zv (w.heap.size + 1) Wf x0 x := HVx.o.keep (by have := HNB.o; omega) fun c h6 h7 => (zhp c (by omega) (by have := HNB.o; omega)).trans (HF9.o c h6 (by have := HNB.o; omega))
         have := (V2 (kb := kb) hx (HXF.o.box (p := (kb, x0.obj)) (by simp)) (by omega) ⟨12, ⟨#[]⟩, (i2 : Int), li, co, none, 0, 0, none, 0, 0, some ⟨kb, 0, none⟩, 1, 1⟩ [] [] ⟨rfl, rfl⟩ ⟨rfl, xZ _, 0, .inl rfl⟩ ⟨rfl, xZ _, .inl rfl⟩).lower (Nat.le_succ _)
         rw [← e, ← HLc.o.1, ← HLc.o.2]
         exact this
      ·have hil2 : ¬ (i2 : Int) < 6 := by omega
       have HRi : xQ (R = Ys ts 7 (b + 1)) := by
        rw [HRt.o]
        have : Xj.findIdx? (Zc ts (b + 1)) = none := by
         rw [List.findIdx?_eq_none_iff]
         intro t ht
         obtain ⟨j, hj, rfl⟩ := List.mem_iff_getElem.1 ht
         exact HN.o j hj (by have : Xj.length = 6 := rfl; omega)
        rw [this]
        exact rfl
       clear HN HRt
       go_wp2_with fail
       refine (Nz pb tb cap d ts (.inl (b + 1)) 7 (by decide) _ X.o.at_).mono ?_
       rintro e w9 ⟨rfl, hst, hat⟩
       have X9 := Za (X.o.step hst hat)
       clear hst hat X HF
       obtain ⟨⟨m0, m1, m2, m3, m4, m5, m6, m7⟩, ⟨g0, g1, g2, g3, g4, g5, g6, g7⟩, hml9⟩ := Zh (X9.o.box (p := (mb, NV.obj ⟨12, ⟨#[]⟩, 0, li, co, none, 0, 0, none, 0, 0, some ⟨kb, 0, none⟩, 1, 1⟩)) (by simp))
       obtain ⟨⟨r0, r1, r2, r3, r4, r5, r6, r7⟩, ⟨f0, f1, f2, f3, f4, f5, f6, f7⟩, hr9⟩ := Zh (X9.o.box (p := (w.heap.size, Ze.obj)) (by simp))
       have hne5 : ¬ mb = w.heap.size := by omega
       go_wp2_with fail
       have XF := RX.put8 (X9.o.perm (bx' := [(w.heap.size, Ze.obj)]) (by simp)) (by simp) ⟨12, ⟨#[]⟩, 0, li, co, none, 0, 0, none, 0, 0, some ⟨kb, 0, none⟩, 1, 1⟩
       refine bodyPost_ret (results_cell_row rfl _ _ w.heap.size 27 _ (0, 0) _ rfl (XF.box (p := (w.heap.size, NV.obj ⟨12, ⟨#[]⟩, 0, li, co, none, 0, 0, none, 0, 0, some ⟨kb, 0, none⟩, 1, 1⟩)) (by simp)) underlying27 rfl (by kernel_rfl)) rfl ⟨XF.st, ?_, ⟨12, ⟨#[]⟩, 0, li, co, none, 0, 0, none, 0, 0, some ⟨kb, 0, none⟩, 1, 1⟩, rfl, fun D c e => ?_⟩
       ·rw [HRi.o]
        exact XF.at_
       ·rw [HRi.o] at e
        cases e
def HeadP (lo : Nat) (w' : World) (R : Pr (List UInt8 × List Ty)) (e : Ending) : Prop :=
 ∃ (nm : List UInt8) (v : Value) (cs : List (List Value)) (acc : List (Option Ty)), e = .returned (.tuple #[.string ⟨nm.toArray⟩, v]) ∧ Z8 Wi lo 36 4 none w' v cs acc ∧ 1 ≤ acc.length ∧ acc.length ≤ 2 ∧ ∀ h b, R = .inl (h, b) → nm = h.1 ∧ acc = h.2.map some
theorem zbr (ts : List Tok) (K : Nat → Pr Ty) (S : Z3) : ∃ (R1 : Pr Unit) (R2 : Pr (List UInt8)) (R3 : Pr (List Ty)) (R4 : Pr Unit) (R5 : Pr (List Ty)),
  R1 = Zf (fun a => Zb ts a [40]) S ∧ R2 = Zf (Zm ts) (Zd R1) ∧ R3 = Zf (Yx ts K) (Zd R2) ∧ R4 = Zf (fun a => Zb ts a [41]) (Zd R3) ∧ R5 = Zf (Yx ts K) (Zd R4) ∧
  Zd (Zf (U6 ts K) S) = Zd R5 ∧ ∀ h b, Zf (U6 ts K) S = .inl (h, b) → ∃ b2 x b3 y, R2 = .inl (h.1, b2) ∧ R3 = .inl (x, b3) ∧ R5 = .inl (y, b) ∧ h.2 = (if x.isEmpty then [Z6 0 [] [] []] else x) ++ y := by
 refine ⟨_, _, _, _, _, rfl, rfl, rfl, rfl, rfl, ?_⟩
 cases S with
 | inr p => exact ⟨rfl, fun h b e => by cases e⟩
 | inl a =>
  show Zd (U6 ts K a) = Zd (Zf (Yx ts K) (Zd (Zf _ (Zd (Zf _ (Zd (Zf (Zm ts) (Zd (Zb ts a [40])))))))) ) ∧ ∀ h b, U6 ts K a = .inl (h, b) → _
  unfold U6
  show _ ∧ ∀ h b, _ → ∃ b2 x b3 y, Zf (Zm ts) (Zd (Zb ts a [40])) = _ ∧ Zf (Yx ts K) (Zd (Zf (Zm ts) (Zd (Zb ts a [40])))) = _ ∧ Zf (Yx ts K) (Zd (Zf (fun a => Zb ts a [41]) (Zd (Zf (Yx ts K) (Zd (Zf (Zm ts) (Zd (Zb ts a [40])))))))) = _ ∧ _
  cases h1 : Zb ts a [40] with
  | inr p => exact ⟨rfl, fun h b e => by cases e⟩
  | inl q1 =>
   obtain ⟨u1, b1⟩ := q1
   show Zd ((Zm ts b1).go _) = Zd (Zf _ (Zd (Zf _ (Zd (Zf _ (Zd (Zm ts b1)))))))  ∧ ∀ h b, (Zm ts b1).go _ = .inl (h, b) → ∃ b2 x b3 y, Zm ts b1 = _ ∧ Zf (Yx ts K) (Zd (Zm ts b1)) = _ ∧ Zf (Yx ts K) (Zd (Zf (fun a => Zb ts a [41]) (Zd (Zf (Yx ts K) (Zd (Zm ts b1)))))) = _ ∧ _
   cases h2 : Zm ts b1 with
   | inr p => exact ⟨rfl, fun h b e => by cases e⟩
   | inl q2 =>
    obtain ⟨s, b2⟩ := q2
    show Zd ((Yx ts K b2).go _) = Zd (Zf _ (Zd (Zf _ (Zd (Yx ts K b2)))))  ∧ ∀ h b, (Yx ts K b2).go _ = .inl (h, b) → ∃ b2' x b3 y, (.inl (s, b2) : Pr (List UInt8)) = _ ∧ Yx ts K b2 = _ ∧ Zf (Yx ts K) (Zd (Zf (fun a => Zb ts a [41]) (Zd (Yx ts K b2)))) = _ ∧ _
    cases h3 : Yx ts K b2 with
    | inr p => exact ⟨rfl, fun h b e => by cases e⟩
    | inl q3 =>
     obtain ⟨x, b3⟩ := q3
     show Zd ((Zb ts b3 [41]).go _) = Zd (Zf _ (Zd (Zb ts b3 [41])))  ∧ ∀ h b, (Zb ts b3 [41]).go _ = .inl (h, b) → ∃ b2' x' b3' y, (.inl (s, b2) : Pr (List UInt8)) = _ ∧ (.inl (x, b3) : Pr (List Ty)) = _ ∧ Zf (Yx ts K) (Zd (Zb ts b3 [41])) = _ ∧ _
     cases h4 : Zb ts b3 [41] with
     | inr p => exact ⟨rfl, fun h b e => by cases e⟩
     | inl q4 =>
      obtain ⟨u4, b4⟩ := q4
      show Zd ((Yx ts K b4).go _) = Zd (Yx ts K b4)  ∧ ∀ h b, (Yx ts K b4).go _ = .inl (h, b) → ∃ b2' x' b3' y, (.inl (s, b2) : Pr (List UInt8)) = _ ∧ (.inl (x, b3) : Pr (List Ty)) = _ ∧ Yx ts K b4 = _ ∧ _
      cases h5 : Yx ts K b4 with
      | inr p => exact ⟨rfl, fun h b e => by cases e⟩
      | inl q5 =>
       obtain ⟨y, b5⟩ := q5
       refine ⟨rfl, fun h b e => ?_⟩
       have e1 : (Sum.inl ((s, (if x.isEmpty then [Z6 0 [] [] []] else x) ++ y), b5) : Pr (List UInt8 × List Ty)) = .inl (h, b) := e
       injection e1 with e1
       injection e1 with e1 e2
       subst e1 e2
       exact ⟨b2, x, b3, y, rfl, rfl, rfl, rfl⟩
theorem zfd (w : World) : Wi w.heap.size w [.int .i64 0, .string ⟨#[]⟩, .slice none 0 0, .slice none 0 0] (some (Z6 0 [] [] [])) :=
 ⟨⟨0, ⟨#[]⟩, none, 0, 0, none, 0, 0, rfl⟩, fun t e => by
  injection e with e
  rw [← e]
  exact Hs (m := 0) (ks := []) (by decide) (.inl rfl) (by simp) (by simp)⟩
theorem Sj {α : Type} {rep : Nat → World → List Value → α → Prop} {B et k g cap : Nat} {o : Option Nat} {w : World} {c : List Value} {x : α} (h : Z8 rep B et k o w (.slice (some ⟨g, 0, none⟩) 1 cap) [c] [x]) {j : Nat} {u : Value} (hj : c[j]? = some u) : w.cell? ((⟨g, 0, none⟩ : Addr).add j) = some u := by
 have hc := h.each c (by simp)
 have hl : j < c.length := by
  rw [List.getElem?_eq_some_iff] at hj
  exact hj.1
 have := h.ow.cellAt j (by simp; omega)
 have e : (⟨g, 0, none⟩ : Addr).add j = ⟨g, j, none⟩ := by unfold Addr.add; split <;> simp_all
 rw [e, this]
 simpa using hj
theorem Z8.lowerB {α : Type} {rep : Nat → World → List Value → α → Prop} {B B' et k : Nat} {o : Option Nat} {w : World} {v : Value} {cs : List (List Value)} {xs : List α} (h : Z8 rep B et k o w v cs xs) (hl : B' ≤ B) : Z8 rep B' et k o w v cs xs := by
 refine ⟨h.len, h.each, ?_, h.apart, fun q hq => ⟨Nat.le_trans hl (h.olt q hq).1, (h.olt q hq).2⟩, fun i h1 h2 => ?_⟩
 ·obtain ⟨o1, o2⟩ := h.ow
  refine ⟨o1, ?_⟩
  rcases o2 with o2 | ⟨g, cap, cur, e, hg, r⟩
  ·exact .inl o2
  ·exact .inr ⟨g, cap, cur, e, Nat.le_trans hl hg, r⟩
 ·obtain ⟨wi, lo, m1, m2, m3, m4, m5⟩ := h.made i h1 h2
  exact ⟨wi, lo, m1, Nat.le_trans hl m2, m3, m4, m5⟩
theorem Zp.grown {w w4 : World} {pb tb cap d : Nat} {ts : List Tok} {S : Z3} {g : Option Nat} (h : Zp w pb tb cap ts d S) (hg : w.grownBy w4 g) (hr : ∀ k, g = some k → pb < k) : Zp w4 pb tb cap ts d S := by
 obtain ⟨a, ha⟩ := h
 exact ⟨a, (hg.block _ ha.ltp (fun e => by have := hr _ e.symm; omega)).trans ha.blk, ha.lt, ha.live, ha.bad, ha.tlt, Wj ha.toks (hg.block _ (Nat.lt_trans ha.tlt ha.ltp) (fun e => by have := hr _ e.symm; have := ha.tlt; omega))⟩
theorem zba (pb tb cap d : Nat) (ts : List Tok) (ok : Z0 ts) (K : Nat → Pr Ty)
  (hK : ∀ S w, Zp w pb tb cap ts d S → Calls prog 31 #[.pointer (some ⟨pb, 0, none⟩)] w (Vn pb tb cap ts d w (Zf K S)))
  (S : Z3) (w : World) (h : Zp w pb tb cap ts d S) :
  Calls prog 119 #[.pointer (some ⟨pb, 0, none⟩)] w fun e w' => Zj pb w w' ∧ Zp w' pb tb cap ts d (Zd (Zf (U6 ts K) S)) ∧ HeadP w.heap.size w' (Zf (U6 ts K) S) e := by
 obtain ⟨R1, R2, R3, R4, R5, h1, h2, h3, h4, h5, hst, hval⟩ := zbr ts K S
 rw [hst]
 have HV := Za hval
 have HK := Za hK
 have OK := Za ok
 have HC1 := Za (Xx pb tb cap d ts S [40] w h ok)
 rw [← h1] at HC1
 have HC2 := Za (fun wx hx => Qm pb tb cap d ts (Zd R1) wx hx ok)
 rw [← h2] at HC2
 have HC3 := Za (fun wx hx => Hm pb tb cap d ts ok K hK (Zd R2) wx hx)
 rw [← h3] at HC3
 have HC4 := Za (fun wx hx => Xx pb tb cap d ts (Zd R3) [41] wx hx ok)
 rw [← h4] at HC4
 have HC5 := Za (fun wx hx => Hm pb tb cap d ts ok K hK (Zd R4) wx hx)
 rw [← h5] at HC5
 have hpl := h.ltp
 obtain ⟨i0, hi, hz0, hz1, hz2⟩ := info_parts Nh
 clear h1 h2 h3 h4 h5 hst hval h hK ok
 go_enter func119, ntmps119
 go_wp2_with fail
 refine HC1.o.mono ?_
 rintro e w1 ⟨rfl, hst, hat⟩
 have X1 := Za (And.intro hst hat)
 clear hst hat
 go_wp2_with fail
 refine (HC2.o _ X1.o.2).mono ?_
 rintro e w2 ⟨rfl, hst, hat⟩
 have X2 := Za (And.intro (X1.o.1.trans hst) hat)
 clear hst hat
 go_wp2_with fail
 refine (HC3.o _ X2.o.2).mono ?_
 rintro e w3 ⟨hst, hat, hn⟩
 have X3 := Za (And.intro (X2.o.1.trans hst) hat)
 have h23 := X2.o.1.size
 clear hst hat
 rcases hn with ⟨rfl, hn⟩ | ⟨g, k1, nm1, na1, nl1, nc1, ka1, kl1, kc1, x1, rfl, hg, hn⟩
 ·have HN := Za hn
  clear hn
  go_wp2_with fail
  refine (HC4.o _ X3.o.2).mono ?_
  rintro e w4 ⟨rfl, hst, hat⟩
  have X4 := Za (And.intro (X3.o.1.trans hst) hat)
  clear hst hat
  go_wp2_with fail
  refine (HC5.o _ X4.o.2).mono ?_
  rintro e w5 ⟨hst, hat, hm⟩
  have X5 := Za (And.intro (X4.o.1.trans hst) hat)
  have h45 := hst.size
  have h04 := X4.o.1.size
  clear hst hat
  have RW5 := Za (Mp (B := w.heap.size) (et := 36) (k := 4) (rep := Wi) (wx := w5) (lo := w5.heap.size) (c := [.int .i64 0, .string ⟨#[]⟩, .slice none 0 0, .slice none 0 0]) (x := some (Z6 0 [] [] [])) (zfd w5) (by omega) (by omega) rfl)
  rcases hm with ⟨rfl, hm⟩ | ⟨g2, k2, nm2, na2, nl2, nc2, ka2, kl2, kc2, x2, rfl, hg2, hm⟩
  ·have HM := Za hm
   clear hm
   go_wp2_with fail
   go_ret2
   refine ⟨X5.o.1.alloc hpl _, X5.o.2.alloc _, Y1 R2, _, _, _, rfl, RW5.o, by simp, by simp, fun h b e => ?_⟩
   obtain ⟨b2, x, b3, y, e2, e3, e5, e6⟩ := HV.o h b e
   obtain rfl := HN.o _ _ e3
   obtain rfl := HM.o _ _ e5
   rw [e6, e2]
   exact ⟨rfl, rfl⟩
  ·have HM := Za hm
   have RB := Za (hg2.stay ((Zj.refl pb w5).alloc (by have := X5.o.1.size; omega) (Zq 0 ⟨#[]⟩ none 0 0 none 0 0)) (by omega))
   have HCN : xQ (∀ j u, ([.int .i64 k2, .string nm2, .slice na2 nl2 nc2, .slice ka2 kl2 kc2] : List Value)[j]? = some u → (w5.alloc (Zq 0 ⟨#[]⟩ none 0 0 none 0 0)).cell? ((⟨g2, 0, none⟩ : Addr).add j) = some u) := fun j u h => Sj RB.o h
   have HMd : xQ (Xg Wi w.heap.size (fun q => (Value.slice (some ⟨w5.heap.size, 0, none⟩) 1 1).ownBlock = some q ∨ (none : Option Nat) = some q) (w5.alloc (Zq 0 ⟨#[]⟩ none 0 0 none 0 0)) [.int .i64 k2, .string nm2, .slice na2 nl2 nc2, .slice ka2 kl2 kc2] x2) := by
    obtain ⟨wi, lo, m1, m2, m3, m4, _⟩ := hg2.made 0 (by simp) (by simp)
    refine ⟨wi, lo, m1, by omega, by rw [xS]; omega, fun b hb hl => (xA (by omega)).trans (m4 b hb hl), fun q hq => ?_⟩
    rcases hq with hq | hq
    ·simp [Value.ownBlock] at hq
     exact .inr (by omega)
    ·cases hq
   clear hm hg2
   go_wp2_with (at_builtin; refine wpList_append_own_at _ rfl (.tmp 23) (.tmp 24) 23 rfl (w.heap.size) 36 i0 _ 4 72 underlying23 hi hz0 hz1 hz2 rfl (by decide) _ _ _ rfl RW5.o.ow ⟨_, 0, none⟩ 1 1 [.int .i64 k2, .string nm2, .slice na2 nl2 nc2, .slice ka2 kl2 kc2] rfl rfl HCN.o (by simp [Value.oneCell']) (by unfold maxLen; simp) (by simp) (by simp; omega) ?_)
   intro v' w6 zho zhn _ hloc
   have HR6 := Za (RW5.o.put zho zhn (hloc.imp_right fun e => ⟨_, e, by simp⟩) (Zj.refl pb _) hpl rfl HMd.o)
   have HST : xQ (Zj pb w w6) := (X5.o.1.alloc hpl _).grown zhn hpl fun k hk => by simp [Value.ownBlock] at hk; have := X5.o.1.size; omega
   have HAT : xQ (Zp w6 pb tb cap ts d (Zd R5)) := (X5.o.2.alloc _).grown zhn fun k hk => by simp [Value.ownBlock] at hk; have := X5.o.1.size; omega
   clear zho zhn hloc
   go_wp2_with fail
   go_ret2
   refine ⟨HST.o, HAT.o, Y1 R2, _, _, _, rfl, HR6.o, by simp, by simp, fun h b e => ?_⟩
   obtain ⟨b2, x, b3, y, e2, e3, e5, e6⟩ := HV.o h b e
   obtain rfl := HN.o _ _ e3
   obtain ⟨t, rfl, rfl⟩ := HM.o _ _ e5
   rw [e6, e2]
   exact ⟨rfl, rfl⟩
 ·have HN := Za hn
  have RA3 := Za hg
  have hg3 : g < w3.heap.size ∧ w2.heap.size ≤ g := by
   have := hg.own g rfl
   exact ⟨this.2, this.1⟩
  clear hn hg
  go_wp2_with fail
  refine (HC4.o _ X3.o.2).mono ?_
  rintro e w4 ⟨rfl, hst, hat⟩
  have X4 := Za (And.intro (X3.o.1.trans hst) hat)
  have RA4 := Za (RA3.o.stay hst (by omega))
  have h34 := hst.size
  clear hst hat RA3
  go_wp2_with fail
  refine (HC5.o _ X4.o.2).mono ?_
  rintro e w5 ⟨hst, hat, hm⟩
  have X5 := Za (And.intro (X4.o.1.trans hst) hat)
  have h45 := hst.size
  have h04 := X4.o.1.size
  have RW5 : xQ (Z8 Wi w.heap.size 36 4 none w5 (.slice (some ⟨g, 0, none⟩) 1 1) [[.int .i64 k1, .string nm1, .slice na1 nl1 nc1, .slice ka1 kl1 kc1]] [x1]) := (RA4.o.stay hst (by omega)).lowerB (by omega)
  clear hst hat RA4
  rcases hm with ⟨rfl, hm⟩ | ⟨g2, k2, nm2, na2, nl2, nc2, ka2, kl2, kc2, x2, rfl, hg2, hm⟩
  ·have HM := Za hm
   clear hm
   go_wp2_with fail
   go_ret2
   refine ⟨X5.o.1, X5.o.2, Y1 R2, _, _, _, rfl, RW5.o, by simp, by simp, fun h b e => ?_⟩
   obtain ⟨b2, x, b3, y, e2, e3, e5, e6⟩ := HV.o h b e
   obtain ⟨t, rfl, rfl⟩ := HN.o _ _ e3
   obtain rfl := HM.o _ _ e5
   rw [e6, e2]
   exact ⟨rfl, rfl⟩
  ·have HM := Za hm
   have HCN : xQ (∀ j u, ([.int .i64 k2, .string nm2, .slice na2 nl2 nc2, .slice ka2 kl2 kc2] : List Value)[j]? = some u → w5.cell? ((⟨g2, 0, none⟩ : Addr).add j) = some u) := fun j u h => Sj hg2 h
   have HMd : xQ (Xg Wi w.heap.size (fun q => (Value.slice (some ⟨g, 0, none⟩) 1 1).ownBlock = some q ∨ (none : Option Nat) = some q) w5 [.int .i64 k2, .string nm2, .slice na2 nl2 nc2, .slice ka2 kl2 kc2] x2) := by
    obtain ⟨wi, lo, m1, m2, m3, m4, _⟩ := hg2.made 0 (by simp) (by simp)
    refine ⟨wi, lo, m1, by omega, m3, m4, fun q hq => ?_⟩
    rcases hq with hq | hq
    ·simp [Value.ownBlock] at hq
     exact .inl (by omega)
    ·cases hq
   clear hm hg2
   go_wp2_with (at_builtin; refine wpList_append_own_at _ rfl (.tmp 23) (.tmp 24) 23 rfl (w.heap.size) 36 i0 _ 4 72 underlying23 hi hz0 hz1 hz2 rfl (by decide) _ _ _ rfl RW5.o.ow ⟨_, 0, none⟩ 1 1 [.int .i64 k2, .string nm2, .slice na2 nl2 nc2, .slice ka2 kl2 kc2] rfl rfl HCN.o (by simp [Value.oneCell']) (by unfold maxLen; simp) (by simp) (by omega) ?_)
   intro v' w6 zho zhn _ hloc
   have HR6 := Za (RW5.o.put zho zhn (hloc.imp_right fun e => ⟨_, e, xR⟩) (Zj.refl pb _) hpl rfl HMd.o)
   have HST : xQ (Zj pb w w6) := X5.o.1.grown zhn hpl fun k hk => by simp [Value.ownBlock] at hk; omega
   have HAT : xQ (Zp w6 pb tb cap ts d (Zd R5)) := X5.o.2.grown zhn fun k hk => by simp [Value.ownBlock] at hk; omega
   clear zho zhn hloc
   go_wp2_with fail
   go_ret2
   refine ⟨HST.o, HAT.o, Y1 R2, _, _, _, rfl, HR6.o, by simp, by simp, fun h b e => ?_⟩
   obtain ⟨b2, x, b3, y, e2, e3, e5, e6⟩ := HV.o h b e
   obtain ⟨t, rfl, rfl⟩ := HN.o _ _ e3
   obtain ⟨t, rfl, rfl⟩ := HM.o _ _ e5
   rw [e6, e2]
   exact ⟨rfl, rfl⟩
end Go.Proofs.YtbnjllkkhhkkaaaGreatDoor
