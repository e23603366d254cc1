/- Part. -/
import Derived.Test.YtbnjllkkhhkkaaaGreatDoorPart25
set_option maxRecDepth 100000
set_option maxHeartbeats 4000000
namespace Go.Proofs.YtbnjllkkhhkkaaaGreatDoor
open Go.Proofs.Tryz
open Go.RowKit
attribute [local go_sem ↓] Go.wp_at_zero Go.wp_at_succ
def unT (ts : List Tok) (U P : Nat → Pr Ty) (a : Nat) : Pr Ty :=
 if Zc ts a [45] then (U (a + 1)).go fun x b => .inl (Zi 16 [] 0 (Zx ts a) (Zz ts a) [] [] [x], b)
 else if Zc ts a [110, 111, 116] then (U (a + 1)).go fun x b => .inl (Zi 15 [] 0 (Zx ts a) (Zz ts a) [] [] [x], b)
 else P a
theorem zgo (pb tb cap d : Nat) (ts : List Tok) (ok : Z0 ts) (U P : Nat → Pr Ty) (hd : d ≤ 1000)
  (hU : d < 100 → ∀ S w, Zp w pb tb cap ts (d + 1) S → Calls prog 177 #[.pointer (some ⟨pb, 0, none⟩)] w (Y4 pb tb cap ts (d + 1) w (Zf U S)))
  (hP : d < 100 → ∀ S w, Zp w pb tb cap ts (d + 1) S → Calls prog 197 #[.pointer (some ⟨pb, 0, none⟩)] w (Y4 pb tb cap ts (d + 1) w (Zf P S)))
  (S : Z3) (w : World) (h : Zp w pb tb cap ts d S) :
  Calls prog 177 #[.pointer (some ⟨pb, 0, none⟩)] w (Y4 pb tb cap ts d w (Zf (fun a => if 100 ≤ d then Ys ts 6 a else unT ts U P a) S)) := by
 obtain ⟨R, hR⟩ : ∃ R : Pr Ty, R = Zf (fun a => if 100 ≤ d then Ys ts 6 a else unT ts U P a) S := ⟨_, rfl⟩
 rw [← hR]
 have HR := Za hR
 have HU := Za hU
 have HP := Za hP
 have OK := Za ok
 have X0 := Za (U4 h Ze.obj)
 have HEn := Za (fun wx hx => J5 pb tb cap d ts S hd wx hx)
 clear h hU hP ok hR
 cases hen : U3 d S with
 | false =>
  have HS : xQ (Zd R = Vg ts d S ∧ ∀ x b, R ≠ .inl (x, b)) := by
   show _ ∧ _
   rw [HR.o]
   cases S with
   | inr p =>
    refine ⟨?_, fun x b e => by cases e⟩
    show Sum.inr p = Vg ts d (.inr p)
    unfold Vg
    split <;> rfl
   | inl a =>
    have h100 : 100 ≤ d := by simp [U3] at hen; exact hen
    refine ⟨?_, fun x b e => ?_⟩
    ·show Zd (if 100 ≤ d then _ else _) = Vg ts d (.inl a)
     unfold Vg
     rw [if_pos h100, if_pos h100]
     rfl
    ·have : (if 100 ≤ d then (Ys ts 6 a : Pr Ty) else _) = .inl (x, b) := e
     rw [if_pos h100] at this
     cases this
  rw [hen] at HEn
  clear hen
  go_enter func177, ntmps177
  go_wp2_with fail
  refine (HEn.o _ X0.o.at_).mono ?_
  rintro e w1 ⟨rfl, hst, hat⟩
  have X1 := Za (X0.o.step hst hat)
  clear hst hat
  obtain ⟨⟨r0, r1, r2, r3, r4, r5, r6, r7⟩, ⟨f0, f1, f2, f3, f4, f5, f6, f7⟩, hr1⟩ := Zh (X1.o.box (p := (w.heap.size, Ze.obj)) (by simp))
  go_wp2_with fail
  have XF := RX.put8 X1.o (by simp) Ze
  refine bodyPost_ret (results_cell_row rfl _ _ w.heap.size 27 _ (0, 0) _ rfl (XF.box (p := (w.heap.size, Ze.obj)) (by simp)) underlying27 rfl (by kernel_rfl)) rfl ⟨XF.st, ?_, Ze, rfl, fun x b e => absurd e (HS.o.2 x b)⟩
  rw [HS.o.1]
  exact XF.at_
 | true =>
  obtain ⟨a, rfl⟩ : ∃ a, S = .inl a := by cases S with
   | inl a => exact ⟨a, rfl⟩
   | inr p => cases hen
  have h100 : ¬ 100 ≤ d := by simp [U3] at hen; omega
  replace HU := Za (HU.o (by omega))
  replace HP := Za (HP.o (by omega))
  have HRl : xQ (R = unT ts U P a) := by rw [HR.o]; exact if_neg h100
  have e1 : Vg ts d (.inl a) = .inl a := if_neg h100
  rw [hen, e1] at HEn
  clear hen e1 HR
  go_enter func177, ntmps177
  go_wp2_with fail
  refine (HEn.o _ X0.o.at_).mono ?_
  rintro e w1 ⟨rfl, hst, hat⟩
  have X1 := Za (X0.o.step hst hat)
  clear hst hat X0
  go_wp2_with fail
  refine (Mo pb tb cap (d + 1) ts (.inl a) 16 _ X1.o.at_).mono ?_
  rintro e w2 ⟨li, co, rfl, hlc, hst, hat⟩
  have X2 := Za ((X1.o.step hst hat).alloc (Zu 16 li co).obj)
  have hp := X1.o.hp
  have hs2 := hst.size
  have hw1 := xB (X1.o.box (p := (w.heap.size, Ze.obj)) (by simp))
  obtain ⟨hl, hc⟩ := hlc a rfl
  have HLc := Za (And.intro hl hc)
  clear hst hat hlc X1 hl hc
  go_wp2_with fail
  obtain ⟨mb, hmb⟩ := xE w2.heap.size
  rw [← hmb] at X2 hs2 ⊢
  clear hmb
  generalize w2.alloc (.cells #[.int .i64 16, .string ⟨#[]⟩, .int .i64 0, .int .i64 li, .int .i64 co, .slice none 0 0, .slice none 0 0, .slice none 0 0] 27) = W2 at X2 ⊢
  have hwm : w.heap.size < mb := by omega
  refine (Y5 pb tb cap (d + 1) ts (.inl a) [45] W2 X2.o.at_ OK.o).mono ?_
  rintro e w3 ⟨rfl, hst, hat⟩
  have X3 := Za (X2.o.step hst hat)
  clear hst hat X2
  cases hs : Yd ts (.inl a) [45] with
  | true =>
    rw [hs, if_pos rfl] at X3
    have HRt : xQ (R = (U (a + 1)).go fun x b => .inl (Zi 16 [] 0 (Zx ts a) (Zz ts a) [] [] [x], b)) := by
     rw [HRl.o]
     exact if_pos hs
    have HC := Za (HU.o _ _ X3.o.at_)
    clear hs HRl
    go_wp2_with fail
    refine HC.o.mono ?_
    clear HC
    rintro e w4 ⟨hst, hat, z, rfl, hv⟩
    have X4 := Za (X3.o.step hst hat)
    have HZ4 : xQ (Yq (mb + 1) w4 z (U (a + 1))) := hv.lower (xB (X3.o.box (p := (mb, (Zu 16 li co).obj)) (by simp)))
    clear hst hat hv X3
    obtain ⟨⟨m0, m1, m2, m3, m4, m5, m6, m7⟩, ⟨g0, g1, g2, g3, g4, g5, g6, g7⟩, hml4⟩ := Zh (X4.o.box (p := (mb, (Zu 16 li co).obj)) (by simp))
    obtain ⟨⟨r0, r1, r2, r3, r4, r5, r6, r7⟩, ⟨f0, f1, f2, f3, f4, f5, f6, f7⟩, hr4⟩ := Zh (X4.o.box (p := (w.heap.size, Ze.obj)) (by simp))
    obtain ⟨hd1, hd2⟩ := X4.o.at_.deep
    have hpl := X4.o.at_.ltp
    have hne1 : ¬ mb = w.heap.size := by omega
    have hne2 : ¬ pb = mb := by omega
    have hne3 : ¬ pb = w.heap.size := by omega
    have hne4 : ¬ mb = pb := by omega
    have hne5 : ¬ w.heap.size = pb := by omega
    have hne6 : ¬ w.heap.size = mb := by omega
    have hdk : ((d + 1 : Nat) : Int) - 1 = (d : Int) := Lg d
    go_wp2_with fail
    obtain ⟨Wf, hWf⟩ := xE ((((((((((((w4.setCell ⟨mb, 7, none⟩ (.slice (some ⟨w4.heap.size + 1, 0, none⟩) 1 1)).setCell ⟨pb, 2, none⟩ (.int .i64 d)).setCell ⟨w.heap.size, 0, none⟩ (.int .i64 16)).setCell ⟨w.heap.size, 1, none⟩ (.string ⟨#[]⟩)).setCell ⟨w.heap.size, 2, none⟩ (.int .i64 0)).setCell ⟨w.heap.size, 3, none⟩ (.int .i64 li)).setCell ⟨w.heap.size, 4, none⟩ (.int .i64 co)).setCell ⟨w.heap.size, 5, none⟩ (.slice none 0 0)).setCell ⟨w.heap.size, 6, none⟩ (.slice none 0 0)).setCell ⟨w.heap.size, 7, none⟩ (.slice (some ⟨w4.heap.size + 1, 0, none⟩) 1 1)).alloc (.cells #[.int .i64 z.k, .string z.tx, .int .i64 z.N, .int .i64 z.li, .int .i64 z.co, .slice z.ta z.tl z.tc, .slice z.na z.nl z.nc, .slice z.ka z.kl z.kc] 27)).alloc (.cells #[.int .i64 z.k, .string z.tx, .int .i64 z.N, .int .i64 z.li, .int .i64 z.co, .slice z.ta z.tl z.tc, .slice z.na z.nl z.nc, .slice z.ka z.kl z.kc] 27))
    rw [← hWf]
    have hsz0 : (put8 ((w4.setCell ⟨mb, 7, none⟩ (.slice (some ⟨w4.heap.size + 1, 0, none⟩) 1 1)).setCell ⟨pb, 2, none⟩ (.int .i64 d)) w.heap.size ⟨16, ⟨#[]⟩, 0, li, co, none, 0, 0, none, 0, 0, some ⟨w4.heap.size + 1, 0, none⟩, 1, 1⟩).heap.size = w4.heap.size := by rw [Wr, Zw, Zw]
    have HXF : xQ (RX pb tb cap ts w Wf d (Zd (U (a + 1))) [(w.heap.size, NV.obj ⟨16, ⟨#[]⟩, 0, li, co, none, 0, 0, none, 0, 0, some ⟨w4.heap.size + 1, 0, none⟩, 1, 1⟩)]) := by
     have h1 := (X4.o.perm (bx' := [(w.heap.size, Ze.obj)]) (by simp))
     have h2 := (h1.far (c := mb) (by omega) (by simp; omega) 7 (.slice (some ⟨w4.heap.size + 1, 0, none⟩) 1 1)).deep d
     rw [hWf]
     exact (((h2.put8 (by simp) ⟨16, ⟨#[]⟩, 0, li, co, none, 0, 0, none, 0, 0, some ⟨w4.heap.size + 1, 0, none⟩, 1, 1⟩).alloc z.obj).drop.alloc z.obj).drop
    have zhp : ∀ c, c ≠ w.heap.size → c ≠ mb → c ≠ pb → c < w4.heap.size → Wf.heap[c]? = w4.heap[c]? := fun c h1 h2 h4 h3 => by
     rw [hWf]
     exact (xA (by rw [xS, hsz0]; omega)).trans ((xA (by rw [hsz0]; exact h3)).trans ((Xq (x := ⟨16, ⟨#[]⟩, 0, li, co, none, 0, 0, none, 0, 0, some ⟨w4.heap.size + 1, 0, none⟩, 1, 1⟩) h1).trans ((xH h4).trans (xH h2))))
    have hrow : Wf.heap[w4.heap.size + 1]? = some z.obj := by
     have := Wn (put8 ((w4.setCell ⟨mb, 7, none⟩ (.slice (some ⟨w4.heap.size + 1, 0, none⟩) 1 1)).setCell ⟨pb, 2, none⟩ (.int .i64 d)) w.heap.size ⟨16, ⟨#[]⟩, 0, li, co, none, 0, 0, none, 0, 0, some ⟨w4.heap.size + 1, 0, none⟩, 1, 1⟩) z.obj z.obj
     rw [hsz0] at this
     rw [hWf]
     exact this
    have hsF : w4.heap.size + 2 = Wf.heap.size := by rw [hWf, xS, xS]; simp only [Zw]
    clear hWf
    refine bodyPost_ret (results_cell_row rfl _ _ w.heap.size 27 _ (0, 0) _ rfl (HXF.o.box (p := (w.heap.size, NV.obj ⟨16, ⟨#[]⟩, 0, li, co, none, 0, 0, none, 0, 0, some ⟨w4.heap.size + 1, 0, none⟩, 1, 1⟩)) (by simp)) underlying27 rfl (by kernel_rfl)) rfl ⟨HXF.o.st, ?_, ⟨16, ⟨#[]⟩, 0, li, co, none, 0, 0, none, 0, 0, some ⟨w4.heap.size + 1, 0, none⟩, 1, 1⟩, rfl, fun D c e => ?_⟩
    ·have := HXF.o.at_
     rw [HRt.o]
     cases hsb : U (a + 1) with
     | inr q => rw [hsb] at this; exact this
     | inl q => rw [hsb] at this; exact this
    ·rw [HRt.o] at e
     cases hsb : U (a + 1) with
     | inr q => rw [hsb] at e; cases e
     | inl q =>
      obtain ⟨D2, b2⟩ := q
      rw [hsb] at e
      injection e with e
      injection e with e _
      have hz : Zv (w.heap.size + 1) Wf z D2 := ((HZ4.o D2 b2 hsb).keep (by omega) fun c h6 h7 => zhp c (by omega) (by omega) (by omega) h7).lower (by omega)
      have := (V2 (kb := w4.heap.size + 1) hz hrow (by omega) ⟨16, ⟨#[]⟩, 0, li, co, none, 0, 0, none, 0, 0, some ⟨w4.heap.size + 1, 0, none⟩, 1, 1⟩ [] [] ⟨rfl, rfl⟩ ⟨rfl, xZ _, 0, .inl rfl⟩ ⟨rfl, xZ _, .inl rfl⟩).lower (Nat.le_succ _)
      rw [← e, ← HLc.o.1, ← HLc.o.2]
      exact this
  | false =>
   rw [hs, if_neg (by simp)] at X3
   have HRl2 : xQ (R = if Zc ts a [110, 111, 116] then (U (a + 1)).go fun x b => .inl (Zi 15 [] 0 (Zx ts a) (Zz ts a) [] [] [x], b) else P a) := by
    rw [HRl.o]
    exact if_neg (by rw [show Zc ts a [45] = false from hs]; simp)
   clear hs HRl
   go_wp2_with fail
   refine (Y5 pb tb cap (d + 1) ts (.inl a) [110, 111, 116] w3 X3.o.at_ OK.o).mono ?_
   rintro e w5 ⟨rfl, hst, hat⟩
   have X5 := Za (X3.o.step hst hat)
   clear hst hat X3
   cases hs : Yd ts (.inl a) [110, 111, 116] with
   | true =>
    rw [hs, if_pos rfl] at X5
    have HRt : xQ (R = (U (a + 1)).go fun x b => .inl (Zi 15 [] 0 (Zx ts a) (Zz ts a) [] [] [x], b)) := by
     rw [HRl2.o]
     exact if_pos hs
    obtain ⟨⟨m0, m1, m2, m3, m4, m5, m6, m7⟩, ⟨g0, g1, g2, g3, g4, g5, g6, g7⟩, hml4⟩ := Zh (X5.o.box (p := (mb, (Zu 16 li co).obj)) (by simp))
    have X3 : xQ (RX pb tb cap ts w (w5.setCell ⟨mb, 0, none⟩ (.int .i64 15)) (d + 1) (Wy (.inl a)) [(mb, (Zu 15 li co).obj), (w.heap.size, Ze.obj)]) := X5.o.setB (by simp; omega) 0 (.int .i64 15)
    have HC := Za (HU.o _ _ X3.o.at_)
    clear hs HRl2 X5
    go_wp2_with fail
    refine HC.o.mono ?_
    clear HC m0 m1 m2 m3 m4 m5 m6 m7 g0 g1 g2 g3 g4 g5 g6 g7 hml4
    rintro e w4 ⟨hst, hat, z, rfl, hv⟩
    have X4 := Za (X3.o.step hst hat)
    have HZ4 : xQ (Yq (mb + 1) w4 z (U (a + 1))) := hv.lower (xB (X3.o.box (p := (mb, (Zu 15 li co).obj)) (by simp)))
    clear hst hat hv X3
    obtain ⟨⟨m0, m1, m2, m3, m4, m5, m6, m7⟩, ⟨g0, g1, g2, g3, g4, g5, g6, g7⟩, hml4⟩ := Zh (X4.o.box (p := (mb, (Zu 15 li co).obj)) (by simp))
    obtain ⟨⟨r0, r1, r2, r3, r4, r5, r6, r7⟩, ⟨f0, f1, f2, f3, f4, f5, f6, f7⟩, hr4⟩ := Zh (X4.o.box (p := (w.heap.size, Ze.obj)) (by simp))
    obtain ⟨hd1, hd2⟩ := X4.o.at_.deep
    have hpl := X4.o.at_.ltp
    have hne1 : ¬ mb = w.heap.size := by omega
    have hne2 : ¬ pb = mb := by omega
    have hne3 : ¬ pb = w.heap.size := by omega
    have hne4 : ¬ mb = pb := by omega
    have hne5 : ¬ w.heap.size = pb := by omega
    have hne6 : ¬ w.heap.size = mb := by omega
    have hdk : ((d + 1 : Nat) : Int) - 1 = (d : Int) := Lg d
    go_wp2_with fail
    obtain ⟨Wf, hWf⟩ := xE ((((((((((((w4.setCell ⟨mb, 7, none⟩ (.slice (some ⟨w4.heap.size + 1, 0, none⟩) 1 1)).setCell ⟨pb, 2, none⟩ (.int .i64 d)).setCell ⟨w.heap.size, 0, none⟩ (.int .i64 15)).setCell ⟨w.heap.size, 1, none⟩ (.string ⟨#[]⟩)).setCell ⟨w.heap.size, 2, none⟩ (.int .i64 0)).setCell ⟨w.heap.size, 3, none⟩ (.int .i64 li)).setCell ⟨w.heap.size, 4, none⟩ (.int .i64 co)).setCell ⟨w.heap.size, 5, none⟩ (.slice none 0 0)).setCell ⟨w.heap.size, 6, none⟩ (.slice none 0 0)).setCell ⟨w.heap.size, 7, none⟩ (.slice (some ⟨w4.heap.size + 1, 0, none⟩) 1 1)).alloc (.cells #[.int .i64 z.k, .string z.tx, .int .i64 z.N, .int .i64 z.li, .int .i64 z.co, .slice z.ta z.tl z.tc, .slice z.na z.nl z.nc, .slice z.ka z.kl z.kc] 27)).alloc (.cells #[.int .i64 z.k, .string z.tx, .int .i64 z.N, .int .i64 z.li, .int .i64 z.co, .slice z.ta z.tl z.tc, .slice z.na z.nl z.nc, .slice z.ka z.kl z.kc] 27))
    rw [← hWf]
    have hsz0 : (put8 ((w4.setCell ⟨mb, 7, none⟩ (.slice (some ⟨w4.heap.size + 1, 0, none⟩) 1 1)).setCell ⟨pb, 2, none⟩ (.int .i64 d)) w.heap.size ⟨15, ⟨#[]⟩, 0, li, co, none, 0, 0, none, 0, 0, some ⟨w4.heap.size + 1, 0, none⟩, 1, 1⟩).heap.size = w4.heap.size := by rw [Wr, Zw, Zw]
    have HXF : xQ (RX pb tb cap ts w Wf d (Zd (U (a + 1))) [(w.heap.size, NV.obj ⟨15, ⟨#[]⟩, 0, li, co, none, 0, 0, none, 0, 0, some ⟨w4.heap.size + 1, 0, none⟩, 1, 1⟩)]) := by
     have h1 := (X4.o.perm (bx' := [(w.heap.size, Ze.obj)]) (by simp))
     have h2 := (h1.far (c := mb) (by omega) (by simp; omega) 7 (.slice (some ⟨w4.heap.size + 1, 0, none⟩) 1 1)).deep d
     rw [hWf]
     exact (((h2.put8 (by simp) ⟨15, ⟨#[]⟩, 0, li, co, none, 0, 0, none, 0, 0, some ⟨w4.heap.size + 1, 0, none⟩, 1, 1⟩).alloc z.obj).drop.alloc z.obj).drop
    have zhp : ∀ c, c ≠ w.heap.size → c ≠ mb → c ≠ pb → c < w4.heap.size → Wf.heap[c]? = w4.heap[c]? := fun c h1 h2 h4 h3 => by
     rw [hWf]
     exact (xA (by rw [xS, hsz0]; omega)).trans ((xA (by rw [hsz0]; exact h3)).trans ((Xq (x := ⟨15, ⟨#[]⟩, 0, li, co, none, 0, 0, none, 0, 0, some ⟨w4.heap.size + 1, 0, none⟩, 1, 1⟩) h1).trans ((xH h4).trans (xH h2))))
    have hrow : Wf.heap[w4.heap.size + 1]? = some z.obj := by
     have := Wn (put8 ((w4.setCell ⟨mb, 7, none⟩ (.slice (some ⟨w4.heap.size + 1, 0, none⟩) 1 1)).setCell ⟨pb, 2, none⟩ (.int .i64 d)) w.heap.size ⟨15, ⟨#[]⟩, 0, li, co, none, 0, 0, none, 0, 0, some ⟨w4.heap.size + 1, 0, none⟩, 1, 1⟩) z.obj z.obj
     rw [hsz0] at this
     rw [hWf]
     exact this
    have hsF : w4.heap.size + 2 = Wf.heap.size := by rw [hWf, xS, xS]; simp only [Zw]
    clear hWf
    refine bodyPost_ret (results_cell_row rfl _ _ w.heap.size 27 _ (0, 0) _ rfl (HXF.o.box (p := (w.heap.size, NV.obj ⟨15, ⟨#[]⟩, 0, li, co, none, 0, 0, none, 0, 0, some ⟨w4.heap.size + 1, 0, none⟩, 1, 1⟩)) (by simp)) underlying27 rfl (by kernel_rfl)) rfl ⟨HXF.o.st, ?_, ⟨15, ⟨#[]⟩, 0, li, co, none, 0, 0, none, 0, 0, some ⟨w4.heap.size + 1, 0, none⟩, 1, 1⟩, rfl, fun D c e => ?_⟩
    ·have := HXF.o.at_
     rw [HRt.o]
     cases hsb : U (a + 1) with
     | inr q => rw [hsb] at this; exact this
     | inl q => rw [hsb] at this; exact this
    ·rw [HRt.o] at e
     cases hsb : U (a + 1) with
     | inr q => rw [hsb] at e; cases e
     | inl q =>
      obtain ⟨D2, b2⟩ := q
      rw [hsb] at e
      injection e with e
      injection e with e _
      have hz : Zv (w.heap.size + 1) Wf z D2 := ((HZ4.o D2 b2 hsb).keep (by omega) fun c h6 h7 => zhp c (by omega) (by omega) (by omega) h7).lower (by omega)
      have := (V2 (kb := w4.heap.size + 1) hz hrow (by omega) ⟨15, ⟨#[]⟩, 0, li, co, none, 0, 0, none, 0, 0, some ⟨w4.heap.size + 1, 0, none⟩, 1, 1⟩ [] [] ⟨rfl, rfl⟩ ⟨rfl, xZ _, 0, .inl rfl⟩ ⟨rfl, xZ _, .inl rfl⟩).lower (Nat.le_succ _)
      rw [← e, ← HLc.o.1, ← HLc.o.2]
      exact this
   | false =>
    rw [hs, if_neg (by simp)] at X5
    have HRt : xQ (R = P a) := by
     rw [HRl2.o]
     exact if_neg (by rw [show Zc ts a [110, 111, 116] = false from hs]; simp)
    clear hs HRl2
    go_wp2_with fail
    refine (HP.o _ _ X5.o.at_).mono ?_
    rintro e w6 ⟨hst, hat, z, rfl, hv⟩
    have e0 : Zf P (.inl a) = R := HRt.o.symm
    rw [e0] at hat hv
    have X6 := Za (X5.o.step hst hat)
    have HZ6 : xQ (Yq (mb + 1) w6 z R) := hv.lower (xB (X5.o.box (p := (mb, (Zu 16 li co).obj)) (by simp)))
    clear hst hat hv X5 e0
    obtain ⟨⟨m0, m1, m2, m3, m4, m5, m6, m7⟩, ⟨g0, g1, g2, g3, g4, g5, g6, g7⟩, hml4⟩ := Zh (X6.o.box (p := (mb, (Zu 16 li co).obj)) (by simp))
    obtain ⟨⟨r0, r1, r2, r3, r4, r5, r6, r7⟩, ⟨f0, f1, f2, f3, f4, f5, f6, f7⟩, hr4⟩ := Zh (X6.o.box (p := (w.heap.size, Ze.obj)) (by simp))
    obtain ⟨hd1, hd2⟩ := X6.o.at_.deep
    have hpl := X6.o.at_.ltp
    have hne1 : ¬ mb = w.heap.size := by omega
    have hne2 : ¬ pb = mb := by omega
    have hne3 : ¬ pb = w.heap.size := by omega
    have hne4 : ¬ mb = pb := by omega
    have hne5 : ¬ w.heap.size = pb := by omega
    have hne6 : ¬ w.heap.size = mb := by omega
    have hdk : ((d + 1 : Nat) : Int) - 1 = (d : Int) := Lg d
    go_wp2_with fail
    obtain ⟨Wf, hWf⟩ := xE (((((((((((((((((w6.setCell ⟨mb, 0, none⟩ (.int .i64 z.k)).setCell ⟨mb, 1, none⟩ (.string z.tx)).setCell ⟨mb, 2, none⟩ (.int .i64 z.N)).setCell ⟨mb, 3, none⟩ (.int .i64 z.li)).setCell ⟨mb, 4, none⟩ (.int .i64 z.co)).setCell ⟨mb, 5, none⟩ (.slice z.ta z.tl z.tc)).setCell ⟨mb, 6, none⟩ (.slice z.na z.nl z.nc)).setCell ⟨mb, 7, none⟩ (.slice z.ka z.kl z.kc)).setCell ⟨pb, 2, none⟩ (.int .i64 d)).setCell ⟨w.heap.size, 0, none⟩ (.int .i64 z.k)).setCell ⟨w.heap.size, 1, none⟩ (.string z.tx)).setCell ⟨w.heap.size, 2, none⟩ (.int .i64 z.N)).setCell ⟨w.heap.size, 3, none⟩ (.int .i64 z.li)).setCell ⟨w.heap.size, 4, none⟩ (.int .i64 z.co)).setCell ⟨w.heap.size, 5, none⟩ (.slice z.ta z.tl z.tc)).setCell ⟨w.heap.size, 6, none⟩ (.slice z.na z.nl z.nc)).setCell ⟨w.heap.size, 7, none⟩ (.slice z.ka z.kl z.kc))
    rw [← hWf]
    have HXF : xQ (RX pb tb cap ts w Wf d (Zd R) [(w.heap.size, z.obj)]) := by
     have h1 := (RX.put8 (X6.o.perm (bx' := [(mb, (Zu 16 li co).obj), (w.heap.size, Ze.obj)]) (by simp)) (by simp; omega) z).deep d
     rw [hWf]
     exact (h1.perm (bx' := [(w.heap.size, Ze.obj)]) (by simp)).put8 (by simp) z
    have zhp : ∀ c, c ≠ w.heap.size → c ≠ mb → c ≠ pb → Wf.heap[c]? = w6.heap[c]? := fun c h1 h2 h4 => by
     rw [hWf]
     exact (Xq (x := z) h1).trans ((xH h4).trans (Xq (x := z) h2))
    have hsF : w6.heap.size = Wf.heap.size := by rw [hWf]; simp only [Zw]
    clear hWf
    refine bodyPost_ret (results_cell_row rfl _ _ w.heap.size 27 _ (0, 0) _ rfl (HXF.o.box (p := (w.heap.size, z.obj)) (by simp)) underlying27 rfl (by kernel_rfl)) rfl ⟨HXF.o.st, HXF.o.at_, z, rfl, fun D c e => ?_⟩
    exact ((HZ6.o D c e).keep (by omega) fun c h6 h7 => zhp c (by omega) (by omega) (by omega)).lower (by omega)
def Qw (ts : List Tok) (E : Nat → Pr Ty) (R : Pr Ty) (lo nb : Nat) (S : Z3) (wr : World) (y : NV) (gk : Nat) : Prop :=
 (∃ b m x, S = .inl b ∧ R = Xe ts E (m + 1) x b ∧ ts.length ≤ b + m + 1 ∧ Yi lo nb wr y x ∧ ts.length - b ≤ gk) ∨ ∃ e, S = .inr e ∧ R = .inr e
section
variable {ts : List Tok} {E : Nat → Pr Ty} {R : Pr Ty} {lo nb gk : Nat} {S : Z3} {wr : World} {y : NV}
theorem Qw.done (h : Qw ts E R lo nb S wr y gk) (h1 : Yd ts S [40] = false) (h2 : Yd ts S [46] = false) : Zd R = S ∧ ∀ D b, R = .inl (D, b) → Yi lo nb wr y D := by
 rcases h with ⟨b, m, x, rfl, hr, _, hx, _⟩ | ⟨e, rfl, hr⟩
 ·have : R = .inl (x, b) := by
   have g1 : Zc ts b [40] = false := h1
   have g2 : Zc ts b [46] = false := h2
   rw [hr, Xe]
   simp [g1, g2]
  rw [this]
  refine ⟨rfl, fun D c e => ?_⟩
  injection e with e
  injection e with e _
  rw [← e]
  exact hx
 ·rw [hr]
  exact ⟨rfl, fun D b e => by cases e⟩
theorem Qw.call (h : Qw ts E R lo nb S wr y gk) (hs : Yd ts S [40] = true) (hu : ∀ a x b, E a = .inl (x, b) → a ≤ b) : ∃ b x, S = .inl b ∧ Yi lo nb wr y x ∧ ts.length - b ≤ gk ∧
  ((∃ D2 b2 b3, E (b + 1) = .inl (D2, b2) ∧ Zd (Zf (fun a => Zb ts a [41]) (Zd (E (b + 1)))) = .inl b3 ∧ b + 1 < b3 ∧ (b3 < ts.length → ∃ m, R = Xe ts E (m + 1) (Zi 7 [] 0 (Zx ts b) (Zz ts b) [] [] [x, D2]) b3 ∧ ts.length ≤ b3 + m + 1)) ∨ ∃ e, Zd (Zf (fun a => Zb ts a [41]) (Zd (E (b + 1)))) = .inr e ∧ R = .inr e) := by
 rcases h with ⟨b, m, x, rfl, hr, h3, hx, h5⟩ | ⟨e, rfl, hr⟩
 ·have g1 : Zc ts b [40] = true := hs
  rw [Xe, if_pos g1] at hr
  refine ⟨b, x, rfl, hx, h5, ?_⟩
  cases hk : E (b + 1) with
  | inr e => exact .inr ⟨e, rfl, by rw [hr, hk]; rfl⟩
  | inl q =>
   obtain ⟨D2, b2⟩ := q
   have hb2 := hu _ _ _ hk
   rw [hk] at hr
   have hr2 : R = (Zb ts b2 [41]).go fun _ b => Xe ts E m (Zi 7 [] 0 (Zx ts _) (Zz ts _) [] [] [x, D2]) b := hr
   show (∃ D2' b2' b3, _ ∧ Zd (Zb ts b2 [41]) = .inl b3 ∧ _) ∨ ∃ e, Zd (Zb ts b2 [41]) = .inr e ∧ _
   cases hw : Zb ts b2 [41] with
   | inr e => exact .inr ⟨e, rfl, by rw [hr2, hw]; rfl⟩
   | inl q =>
    obtain ⟨u, b3⟩ := q
    have hb3 := Bm hw
    refine .inl ⟨D2, b2, b3, rfl, rfl, by omega, fun hl => ?_⟩
    obtain ⟨m, rfl⟩ : ∃ q, m = q + 1 := ⟨m - 1, by omega⟩
    exact ⟨m, by rw [hr2, hw]; rfl, by omega⟩
 ·cases hs
theorem Qw.sel (h : Qw ts E R lo nb S wr y gk) (h1 : Yd ts S [40] = false) (hs : Yd ts S [46] = true) : ∃ b x, S = .inl b ∧ Yi lo nb wr y x ∧ ts.length - b ≤ gk ∧
  ((∃ s b3, Zm ts (b + 1) = .inl (s, b3) ∧ b + 1 < b3 ∧ (b3 < ts.length → ∃ m, R = Xe ts E (m + 1) (Zi 9 s 0 (Zx ts b) (Zz ts b) [] [] [x]) b3 ∧ ts.length ≤ b3 + m + 1)) ∨ ∃ e, Zm ts (b + 1) = .inr e ∧ R = .inr e) := by
 rcases h with ⟨b, m, x, rfl, hr, h3, hx, h5⟩ | ⟨e, rfl, hr⟩
 ·have g1 : Zc ts b [40] = false := h1
  have g2 : Zc ts b [46] = true := hs
  rw [Xe] at hr
  simp only [g1, g2] at hr
  refine ⟨b, x, rfl, hx, h5, ?_⟩
  have hr2 : R = (Zm ts (b + 1)).go fun s c => Xe ts E m (Zi 9 s 0 (Zx ts b) (Zz ts b) [] [] [x]) c := hr
  cases hw : Zm ts (b + 1) with
  | inr e => exact .inr ⟨e, rfl, by rw [hr2, hw]; rfl⟩
  | inl q =>
   obtain ⟨s, b3⟩ := q
   have hb3 := Pb hw
   refine .inl ⟨s, b3, rfl, by omega, fun hl => ?_⟩
   obtain ⟨m, rfl⟩ : ∃ q, m = q + 1 := ⟨m - 1, by omega⟩
   exact ⟨m, by rw [hr2, hw]; rfl, by omega⟩
 ·cases hs
end
theorem zfn (pb tb cap d : Nat) (ts : List Tok) (ok : Z0 ts) (A E : Nat → Pr Ty) (hu : ∀ a x b, E a = .inl (x, b) → a ≤ b) (f : Nat) (hf : ts.length ≤ f + 1)
  (hA : ∀ S w, Zp w pb tb cap ts d S → Calls prog 207 #[.pointer (some ⟨pb, 0, none⟩)] w (Y4 pb tb cap ts d w (Zf A S)))
  (hE : ∀ S w, Zp w pb tb cap ts d S → Calls prog 25 #[.pointer (some ⟨pb, 0, none⟩)] w (Y4 pb tb cap ts d w (Zf E S)))
  (S : Z3) (w : World) (h : Zp w pb tb cap ts d S) :
  Calls prog 197 #[.pointer (some ⟨pb, 0, none⟩)] w (Y4 pb tb cap ts d w (Zf (fun a => (A a).go fun x b => Xe ts E (f + 1) x b) S)) := by
 have HA := Za hA
 have HE := Za hE
 have HU := Za hu
 have OK := Za ok
 have X0 := Za (U4 h Ze.obj)
 obtain ⟨R, hR⟩ := xE (Zf (fun a => (A a).go fun x b => Xe ts E (f + 1) x b) S)
 obtain ⟨R1, hR1⟩ := xE (Zf A S)
 have HRr : xQ (R = R1.go fun x b => Xe ts E (f + 1) x b) := by
  rw [hR, hR1]
  cases S <;> rfl
 have HC1 := Za (HA.o S _ X0.o.at_)
 rw [← hR1] at HC1
 rw [← hR]
 clear hR hR1 hA hE hu ok h
 go_enter func197, ntmps197
 go_wp2_with fail
 refine HC1.o.mono ?_
 rintro e w1 ⟨hst, hat, x0, rfl, hv⟩
 have X1 := Za ((X0.o.step hst hat).alloc x0.obj)
 rw [xS] at hv
 have hs1 := hst.size
 rw [xS] at hs1
 obtain ⟨nb, hnb⟩ := xE w1.heap.size
 have HI0 : xQ (Qw ts E R (w.heap.size + 1) nb (Zd R1) (w1.alloc x0.obj) x0 ts.length) := by
  have e2 := HRr.o
  cases hs : R1 with
  | inr p => exact .inr ⟨p, rfl, by rw [e2, hs]; rfl⟩
  | inl q =>
   obtain ⟨D, b⟩ := q
   refine .inl ⟨b, f, D, rfl, by rw [e2, hs]; rfl, by omega, ?_, by omega⟩
   rw [hnb]
   exact L6 (hv D b hs) _
 rw [← hnb] at X1 hs1
 clear hst hat hv HRr X0 HC1
 go_wp2_with fail
 rw [← hnb]
 clear hnb
 go_loopg [4] (ts.length) (fun gk _ wr => ∃ (S : Z3) (y : NV), xQ (RX pb tb cap ts w wr d S [(nb, y.obj), (w.heap.size, Ze.obj)]) ∧ xQ (Qw ts E R (w.heap.size + 1) nb S wr y gk))
 case atStart => exact ⟨_, x0, X1, HI0⟩
 case round =>
  clear X1 HI0
  obtain ⟨S', y, X, HI⟩ := hrel
  go_wp2_with fail
  refine (Mo pb tb cap d ts S' 7 _ X.o.at_).mono ?_
  rintro e w2 ⟨li, co, rfl, hlc, hst, hat⟩
  have X2 := Za ((X.o.step hst hat).alloc (Zu 7 li co).obj)
  have hnl := xB (X.o.box (p := (nb, y.obj)) (by simp))
  have hp := X.o.hp
  have hs2 := hst.size
  have HF2 : xQ (∀ b, w.heap.size + 1 ≤ b → b < wr.heap.size → (w2.alloc (Zu 7 li co).obj).heap[b]? = wr.heap[b]?) := fun b h1 h2 => (xA (xT h2 hst.size)).trans (hst.keep b (by omega) h2)
  have HbT : xQ (∀ b, S' = .inl b → b < ts.length) := fun b e => by
   obtain ⟨a, ha⟩ := hat
   have := ha.live b e
   have := ha.lt
   omega
  have HLC := Za hlc
  have HS2 : xQ (w2.heap.size < (w2.alloc (Zu 7 li co).obj).heap.size) := by show _ < _; rw [xS]; omega
  clear hst hat hlc X
  go_wp2_with fail
  obtain ⟨mb, hmb⟩ := xE w2.heap.size
  rw [← hmb] at X2 hs2 HS2 ⊢
  clear hmb
  generalize w2.alloc (.cells #[.int .i64 7, .string ⟨#[]⟩, .int .i64 0, .int .i64 li, .int .i64 co, .slice none 0 0, .slice none 0 0, .slice none 0 0] 27) = W2 at X2 HF2 HS2 ⊢
  have hnm : nb < mb := by omega
  refine (Y5 pb tb cap d ts S' [40] W2 X2.o.at_ OK.o).mono ?_
  rintro e w3 ⟨rfl, hst, hat⟩
  have X3 := Za (X2.o.step hst hat)
  have HF3 : xQ (∀ b, w.heap.size + 1 ≤ b → b < wr.heap.size → w3.heap[b]? = wr.heap[b]?) := fun b h1 h2 => (hst.keep b (by omega) (by have := HS2.o; omega)).trans (HF2.o b h1 h2)
  have HS3 : xQ (mb < w3.heap.size) := xT HS2.o hst.size
  clear hst hat X2 HF2
  cases hs : Yd ts S' [40] with
  | true =>
   rw [hs, if_pos rfl] at X3
   obtain ⟨b, x, hSb, hx, hgk, hor⟩ := HI.o.call hs HU.o
   have HX := Za hx
   have HOr := Za hor
   obtain ⟨hl, hc⟩ := HLC.o b hSb
   have HLc := Za (And.intro hl hc)
   have HGK := Za hgk
   have hbT := HbT.o b hSb
   have HC := Za (HE.o _ _ X3.o.at_)
   have e4 : Zf E (Wy S') = E (b + 1) := by rw [hSb]; rfl
   rw [e4] at HC
   clear hs hx hor hl hc hSb hgk e4 HLC HI
   go_wp2_with fail
   refine HC.o.mono ?_
   rintro e w4 ⟨hst, hat, z, rfl, hv⟩
   have X4 := Za ((X3.o.step hst hat).alloc z.obj)
   have HF4 : xQ (∀ b, w.heap.size + 1 ≤ b → b < wr.heap.size → (w4.alloc z.obj).heap[b]? = wr.heap[b]?) := fun b h1 h2 => (xA (by have := HS3.o; have := hst.size; omega)).trans ((hst.keep b (by omega) (by have := HS3.o; omega)).trans (HF3.o b h1 h2))
   have HZ4 : xQ (Yq (mb + 1) (w4.alloc z.obj) z (E (b + 1))) := (hv.lower HS3.o).below (Zl _ _)
   have hs4 := hst.size
   have HS4 : xQ (w4.heap.size < (w4.alloc z.obj).heap.size) := by show _ < _; rw [xS]; omega
   clear hst hat hv HC X3 HF3
   go_wp2_with fail
   obtain ⟨bb, hbb⟩ := xE w4.heap.size
   rw [← hbb] at X4 hs4 HS4 ⊢
   clear hbb
   generalize w4.alloc (.cells #[.int .i64 z.k, .string z.tx, .int .i64 z.N, .int .i64 z.li, .int .i64 z.co, .slice z.ta z.tl z.tc, .slice z.na z.nl z.nc, .slice z.ka z.kl z.kc] 27) = W4 at X4 HF4 HZ4 HS4 ⊢
   have hmbb : mb < bb := by have := HS3.o; omega
   refine (Xx pb tb cap d ts (Zd (E (b + 1))) [41] W4 X4.o.at_ OK.o).mono ?_
   rintro e w5 ⟨rfl, hst, hat⟩
   obtain ⟨S5, hS5⟩ := xE (Zd (Zf (fun a => Zb ts a [41]) (Zd (E (b + 1)))))
   rw [← hS5] at hat HOr
   have X5 := Za (X4.o.step hst hat)
   have HF5 : xQ (∀ b, w.heap.size + 1 ≤ b → b < wr.heap.size → w5.heap[b]? = wr.heap[b]?) := fun b h1 h2 => (hst.keep b (by omega) (by have := HS4.o; omega)).trans (HF4.o b h1 h2)
   have HZ5 := Za (HZ4.o.stay hst (by omega))
   have HLv : xQ (∀ c, S5 = .inl c → c < ts.length) := fun c e => by
    obtain ⟨a, ha⟩ := hat
    have := ha.live c e
    have := ha.lt
    omega
   have hs5 := hst.size
   have HS5 : xQ (bb < w5.heap.size) := xT HS4.o hst.size
   clear hst hat X4 HF4 HZ4 hS5
   obtain ⟨⟨n0, n1, n2, n3, n4, n5, n6, n7⟩, ⟨f0, f1, f2, f3, f4, f5, f6, f7⟩, hnl5⟩ := Zh (X5.o.box (p := (nb, y.obj)) (by simp))
   obtain ⟨⟨m0, m1, m2, m3, m4, m5, m6, m7⟩, ⟨g0, g1, g2, g3, g4, g5, g6, g7⟩, hml5⟩ := Zh (X5.o.box (p := (mb, (Zu 7 li co).obj)) (by simp))
   obtain ⟨⟨z0, z1, z2, z3, z4, z5, z6, z7⟩, _, hbl5⟩ := Zh (X5.o.box (p := (bb, z.obj)) (by simp))
   have hne1 : ¬ mb = nb := by omega
   have hne2 : ¬ nb = mb := by omega
   have hne3 : ¬ bb = mb := by omega
   have hne4 : ¬ bb = nb := by omega
   go_wp2_with fail
   obtain ⟨Wf, hWf⟩ := xE ((((((((((w5.setCell ⟨mb, 7, none⟩ (.slice (some ⟨w5.heap.size, 0, none⟩) 2 2)).setCell ⟨nb, 0, none⟩ (.int .i64 7)).setCell ⟨nb, 1, none⟩ (.string ⟨#[]⟩)).setCell ⟨nb, 2, none⟩ (.int .i64 0)).setCell ⟨nb, 3, none⟩ (.int .i64 li)).setCell ⟨nb, 4, none⟩ (.int .i64 co)).setCell ⟨nb, 5, none⟩ (.slice none 0 0)).setCell ⟨nb, 6, none⟩ (.slice none 0 0)).setCell ⟨nb, 7, none⟩ (.slice (some ⟨w5.heap.size, 0, none⟩) 2 2)).alloc (.cells #[.int .i64 y.k, .string y.tx, .int .i64 y.N, .int .i64 y.li, .int .i64 y.co, .slice y.ta y.tl y.tc, .slice y.na y.nl y.nc, .slice y.ka y.kl y.kc, .int .i64 z.k, .string z.tx, .int .i64 z.N, .int .i64 z.li, .int .i64 z.co, .slice z.ta z.tl z.tc, .slice z.na z.nl z.nc, .slice z.ka z.kl z.kc] 27))
   rw [← hWf]
   have hsz0 : (put8 (w5.setCell ⟨mb, 7, none⟩ (.slice (some ⟨w5.heap.size, 0, none⟩) 2 2)) nb ⟨7, ⟨#[]⟩, 0, li, co, none, 0, 0, none, 0, 0, some ⟨w5.heap.size, 0, none⟩, 2, 2⟩).heap.size = w5.heap.size := by rw [Wr, Zw]
   have HXF : xQ (RX pb tb cap ts w Wf d S5 [(nb, NV.obj ⟨7, ⟨#[]⟩, 0, li, co, none, 0, 0, none, 0, 0, some ⟨w5.heap.size, 0, none⟩, 2, 2⟩), (w.heap.size, Ze.obj)]) := by
    have h1 := (X5.o.perm (bx' := [(nb, y.obj), (w.heap.size, Ze.obj)]) (by simp))
    have h2 := h1.far (c := mb) (by omega) (by simp; omega) 7 (.slice (some ⟨w5.heap.size, 0, none⟩) 2 2)
    rw [hWf]
    exact ((h2.put8 (by simp; omega) ⟨7, ⟨#[]⟩, 0, li, co, none, 0, 0, none, 0, 0, some ⟨w5.heap.size, 0, none⟩, 2, 2⟩).alloc (Ve y z)).drop
   have zhp : ∀ c, c ≠ nb → c ≠ mb → c < w5.heap.size → Wf.heap[c]? = w5.heap[c]? := fun c h1 h2 h3 => by
    rw [hWf]
    exact (xA (by rw [hsz0]; exact h3)).trans ((Xq (x := ⟨7, ⟨#[]⟩, 0, li, co, none, 0, 0, none, 0, 0, some ⟨w5.heap.size, 0, none⟩, 2, 2⟩) h1).trans (xH h2))
   have hrow : Wf.heap[w5.heap.size]? = some (Ve y z) := by
    have := xL (put8 (w5.setCell ⟨mb, 7, none⟩ (.slice (some ⟨w5.heap.size, 0, none⟩) 2 2)) nb ⟨7, ⟨#[]⟩, 0, li, co, none, 0, 0, none, 0, 0, some ⟨w5.heap.size, 0, none⟩, 2, 2⟩) (Ve y z)
    rw [hsz0] at this
    rw [hWf]
    exact this
   have hsF : w5.heap.size + 1 = Wf.heap.size := by rw [hWf, xS]; simp only [Zw]
   have HLF : xQ (∃ g', g' < gk ∧ Qw ts E R (w.heap.size + 1) nb S5 Wf ⟨7, ⟨#[]⟩, 0, li, co, none, 0, 0, none, 0, 0, some ⟨w5.heap.size, 0, none⟩, 2, 2⟩ g') := by
    have hgk := HGK.o
    have h55 := HS5.o
    rcases HOr.o with ⟨D2, b2, b3, h1, h2, h3, h4⟩ | ⟨er, h1, h2⟩
    ·have hb3 := HLv.o b3 h2
     obtain ⟨m, h5, h6⟩ := h4 hb3
     refine ⟨ts.length - b3, by omega, .inl ⟨b3, m, _, h2, h5, by omega, fun o => ?_, xR⟩⟩
     have hy : Yi (w.heap.size + 1) nb Wf y x := HX.o.keep hnl (by omega) fun c h6 h7 h8 => (zhp c h8 (by omega) (by omega)).trans (HF5.o c h6 h7)
     have hz : Yi (w.heap.size + 1) nb Wf z D2 := Lu (lo' := mb + 1) ((HZ5.o D2 b2 h1).keep (by omega) fun c h6 h7 => zhp c (by omega) (by omega) h7) (by omega) (by omega)
     have := To (kb := w5.heap.size) (hy o) (hz o) ((Qd o (by omega)).trans hrow) (by omega) ⟨7, ⟨#[]⟩, 0, li, co, none, 0, 0, none, 0, 0, some ⟨w5.heap.size, 0, none⟩, 2, 2⟩ [] [] ⟨rfl, rfl⟩ ⟨rfl, xZ _, 0, .inl rfl⟩ ⟨rfl, xZ _, .inl rfl⟩
     rw [← HLc.o.1, ← HLc.o.2]
     exact this
    ·exact ⟨0, by omega, .inr ⟨er, h1, h2⟩⟩
   clear hWf hrow zhp hsF hsz0
   obtain ⟨g', hg', hL⟩ := HLF.o
   go_roundg g'
   case measure => exact hg'
   case rel => exact ⟨_, _, HXF, hL⟩
  | false =>
   rw [hs, if_neg (by simp)] at X3
   have HS40 := Za hs
   clear hs
   go_wp2_with fail
   refine (Y5 pb tb cap d ts S' [46] w3 X3.o.at_ OK.o).mono ?_
   rintro e w4 ⟨rfl, hst, hat⟩
   have X4 := Za (X3.o.step hst hat)
   have HF4 : xQ (∀ b, w.heap.size + 1 ≤ b → b < wr.heap.size → w4.heap[b]? = wr.heap[b]?) := fun b h1 h2 => (hst.keep b (by omega) (by have := HS3.o; omega)).trans (HF3.o b h1 h2)
   have HS4 : xQ (mb < w4.heap.size) := xT HS3.o hst.size
   clear hst hat X3 HF3
   cases hs : Yd ts S' [46] with
   | false =>
    rw [hs, if_neg (by simp)] at X4
    have HD := Za (HI.o.done HS40.o hs)
    clear hs HS40
    obtain ⟨⟨n0, n1, n2, n3, n4, n5, n6, n7⟩, _, hnl4⟩ := Zh (X4.o.box (p := (nb, y.obj)) (by simp))
    obtain ⟨⟨r0, r1, r2, r3, r4, r5, r6, r7⟩, ⟨f0, f1, f2, f3, f4, f5, f6, f7⟩, hr4⟩ := Zh (X4.o.box (p := (w.heap.size, Ze.obj)) (by simp))
    have hne6 : ¬ nb = w.heap.size := by omega
    go_wp2_with fail
    have XF := RX.put8 (X4.o.perm (bx' := [(w.heap.size, Ze.obj)]) (by simp)) (by simp) y
    refine bodyPost_ret (results_cell_row rfl _ _ w.heap.size 27 _ (0, 0) _ rfl (XF.box (p := (w.heap.size, y.obj)) (by simp)) underlying27 rfl (by kernel_rfl)) rfl ⟨XF.st, ?_, y, rfl, fun D c e => ?_⟩
    ·rw [HD.o.1]
     exact XF.at_
    ·have h1 : Yi (w.heap.size + 1) nb w4 y D := (HD.o.2 D c e).keep hnl (by have := HS4.o; omega) fun c h6 h7 h8 => HF4.o c h6 h7
     exact ((h1.now hnl4).put8 (xU _) y).lower (Nat.le_succ _)
   | true =>
    rw [hs, if_pos rfl] at X4
    obtain ⟨b, x, hSb, hx, hgk, hor⟩ := HI.o.sel HS40.o hs
    have HX := Za hx
    have HOr := Za hor
    obtain ⟨hl, hc⟩ := HLC.o b hSb
    have HLc := Za (And.intro hl hc)
    have HGK := Za hgk
    have hbT := HbT.o b hSb
    have e4 : Wy S' = .inl (b + 1) := by rw [hSb]; rfl
    rw [e4] at X4
    obtain ⟨⟨m0, m1, m2, m3, m4, m5, m6, m7⟩, ⟨g0, g1, g2, g3, g4, g5, g6, g7⟩, hml4⟩ := Zh (X4.o.box (p := (mb, (Zu 7 li co).obj)) (by simp))
    have X4' : xQ (RX pb tb cap ts w (w4.setCell ⟨mb, 0, none⟩ (.int .i64 9)) d (.inl (b + 1)) [(mb, (Zu 9 li co).obj), (nb, y.obj), (w.heap.size, Ze.obj)]) := X4.o.setB (by simp; omega) 0 (.int .i64 9)
    clear hs hx hor hl hc hSb hgk e4 HLC HI HS40 X4
    go_wp2_with fail
    refine (Qm pb tb cap d ts (.inl (b + 1)) _ X4'.o.at_ OK.o).mono ?_
    rintro e w5 ⟨rfl, hst, hat⟩
    have e5 : Zf (Zm ts) (.inl (b + 1)) = Zm ts (b + 1) := rfl
    rw [e5] at hat ⊢
    obtain ⟨s, hs⟩ := xE (Y1 (Zm ts (b + 1)))
    rw [← hs]
    have HSn := Za hs
    have X5 := Za (X4'.o.step hst hat)
    have h45 := hst.size
    rw [Zw] at h45
    have HF5 : xQ (∀ b, w.heap.size + 1 ≤ b → b < wr.heap.size → w5.heap[b]? = wr.heap[b]?) := fun b h1 h2 => (hst.keep b (by omega) (by rw [Zw]; have := HS4.o; omega)).trans ((xH (by show b ≠ mb; omega)).trans (HF4.o b h1 h2))
    have HLv : xQ (∀ c, Zd (Zm ts (b + 1)) = .inl c → c < ts.length) := fun c e => by
     obtain ⟨a, ha⟩ := hat
     have := ha.live c e
     have := ha.lt
     omega
    clear hst hat X4' HF4 e5 hs m0 m1 m2 m3 m4 m5 m6 m7 g0 g1 g2 g3 g4 g5 g6 g7 hml4
    obtain ⟨⟨n0, n1, n2, n3, n4, n5, n6, n7⟩, ⟨f0, f1, f2, f3, f4, f5, f6, f7⟩, hnl5⟩ := Zh (X5.o.box (p := (nb, y.obj)) (by simp))
    obtain ⟨⟨m0, m1, m2, m3, m4, m5, m6, m7⟩, ⟨g0, g1, g2, g3, g4, g5, g6, g7⟩, hml5⟩ := Zh (X5.o.box (p := (mb, (Zu 9 li co).obj)) (by simp))
    have hne1 : ¬ mb = nb := by omega
    have hne2 : ¬ nb = mb := by omega
    go_wp2_with fail
    obtain ⟨Wf, hWf⟩ := xE (((((((((((w5.setCell ⟨mb, 1, none⟩ (.string ⟨s.toArray⟩)).setCell ⟨mb, 7, none⟩ (.slice (some ⟨w5.heap.size, 0, none⟩) 1 1)).setCell ⟨nb, 0, none⟩ (.int .i64 9)).setCell ⟨nb, 1, none⟩ (.string ⟨s.toArray⟩)).setCell ⟨nb, 2, none⟩ (.int .i64 0)).setCell ⟨nb, 3, none⟩ (.int .i64 li)).setCell ⟨nb, 4, none⟩ (.int .i64 co)).setCell ⟨nb, 5, none⟩ (.slice none 0 0)).setCell ⟨nb, 6, none⟩ (.slice none 0 0)).setCell ⟨nb, 7, none⟩ (.slice (some ⟨w5.heap.size, 0, none⟩) 1 1)).alloc (.cells #[.int .i64 y.k, .string y.tx, .int .i64 y.N, .int .i64 y.li, .int .i64 y.co, .slice y.ta y.tl y.tc, .slice y.na y.nl y.nc, .slice y.ka y.kl y.kc] 27))
    rw [← hWf]
    have hsz0 : (put8 ((w5.setCell ⟨mb, 1, none⟩ (.string ⟨s.toArray⟩)).setCell ⟨mb, 7, none⟩ (.slice (some ⟨w5.heap.size, 0, none⟩) 1 1)) nb ⟨9, ⟨s.toArray⟩, 0, li, co, none, 0, 0, none, 0, 0, some ⟨w5.heap.size, 0, none⟩, 1, 1⟩).heap.size = w5.heap.size := by rw [Wr, Zw, Zw]
    have HXF : xQ (RX pb tb cap ts w Wf d (Zd (Zm ts (b + 1))) [(nb, NV.obj ⟨9, ⟨s.toArray⟩, 0, li, co, none, 0, 0, none, 0, 0, some ⟨w5.heap.size, 0, none⟩, 1, 1⟩), (w.heap.size, Ze.obj)]) := by
     have h1 := (X5.o.perm (bx' := [(nb, y.obj), (w.heap.size, Ze.obj)]) (by simp))
     have h2 := (h1.far (c := mb) (by omega) (by simp; omega) 1 (.string ⟨s.toArray⟩)).far (c := mb) (by omega) (by simp; omega) 7 (.slice (some ⟨w5.heap.size, 0, none⟩) 1 1)
     rw [hWf]
     exact ((h2.put8 (by simp; omega) ⟨9, ⟨s.toArray⟩, 0, li, co, none, 0, 0, none, 0, 0, some ⟨w5.heap.size, 0, none⟩, 1, 1⟩).alloc y.obj).drop
    have zhp : ∀ c, c ≠ nb → c ≠ mb → c < w5.heap.size → Wf.heap[c]? = w5.heap[c]? := fun c h1 h2 h3 => by
     rw [hWf]
     exact (xA (by rw [hsz0]; exact h3)).trans ((Xq (x := ⟨9, ⟨s.toArray⟩, 0, li, co, none, 0, 0, none, 0, 0, some ⟨w5.heap.size, 0, none⟩, 1, 1⟩) h1).trans ((xH h2).trans (xH h2)))
    have hrow : Wf.heap[w5.heap.size]? = some y.obj := by
     have := xL (put8 ((w5.setCell ⟨mb, 1, none⟩ (.string ⟨s.toArray⟩)).setCell ⟨mb, 7, none⟩ (.slice (some ⟨w5.heap.size, 0, none⟩) 1 1)) nb ⟨9, ⟨s.toArray⟩, 0, li, co, none, 0, 0, none, 0, 0, some ⟨w5.heap.size, 0, none⟩, 1, 1⟩) y.obj
     rw [hsz0] at this
     rw [hWf]
     exact this
    have hsF : w5.heap.size + 1 = Wf.heap.size := by rw [hWf, xS]; simp only [Zw]
    have HLF : xQ (∃ g', g' < gk ∧ Qw ts E R (w.heap.size + 1) nb (Zd (Zm ts (b + 1))) Wf ⟨9, ⟨s.toArray⟩, 0, li, co, none, 0, 0, none, 0, 0, some ⟨w5.heap.size, 0, none⟩, 1, 1⟩ g') := by
     have hgk := HGK.o
     have h44 := HS4.o
     rcases HOr.o with ⟨s', b3, h1, h3, h4⟩ | ⟨er, h1, h2⟩
     ·have hst3 : Zd (Zm ts (b + 1)) = .inl b3 := by rw [h1]; rfl
      have hb3 := HLv.o b3 hst3
      obtain ⟨m, h5, h6⟩ := h4 hb3
      have hss : s = s' := by rw [HSn.o, h1]; rfl
      refine ⟨ts.length - b3, by omega, .inl ⟨b3, m, _, hst3, h5, by omega, fun o => ?_, xR⟩⟩
      have hy : Yi (w.heap.size + 1) nb Wf y x := HX.o.keep hnl (by omega) fun c h6 h7 h8 => (zhp c h8 (by omega) (by omega)).trans (HF5.o c h6 h7)
      have := V2 (kb := w5.heap.size) (hy o) ((Qd o (by omega)).trans hrow) (by omega) ⟨9, ⟨s.toArray⟩, 0, li, co, none, 0, 0, none, 0, 0, some ⟨w5.heap.size, 0, none⟩, 1, 1⟩ [] [] ⟨rfl, rfl⟩ ⟨rfl, xZ _, 0, .inl rfl⟩ ⟨rfl, xZ _, .inl rfl⟩
      rw [← hss, ← HLc.o.1, ← HLc.o.2]
      exact this
     ·exact ⟨0, by omega, .inr ⟨er, by rw [h1]; rfl, h2⟩⟩
    clear hWf hrow zhp hsF hsz0
    obtain ⟨g', hg', hL⟩ := HLF.o
    go_roundg g'
    case measure => exact hg'
    case rel => exact ⟨_, _, HXF, hL⟩
theorem Id (pb tb cap d : Nat) (ts : List Tok) (A : Nat → Pr Ty) (hd : d ≤ 1000)
  (hA : d < 100 → ∀ S w, Zp w pb tb cap ts (d + 1) S → Calls prog 60 #[.pointer (some ⟨pb, 0, none⟩)] w (Y4 pb tb cap ts (d + 1) w (Zf A S)))
  (S : Z3) (w : World) (h : Zp w pb tb cap ts d S) :
  Calls prog 25 #[.pointer (some ⟨pb, 0, none⟩)] w (Y4 pb tb cap ts d w (Zf (fun a => if 100 ≤ d then Ys ts 6 a else A a) S)) := by
 obtain ⟨R, hR⟩ : ∃ R : Pr Ty, R = Zf (fun a => if 100 ≤ d then Ys ts 6 a else A a) S := ⟨_, rfl⟩
 rw [← hR]
 have HR := Za hR
 have HA := Za hA
 have X0 := Za (U4 h Ze.obj)
 have HEn := Za (fun wx hx => J5 pb tb cap d ts S hd wx hx)
 clear h hA hR
 cases hen : U3 d S with
 | false =>
  have HS : xQ (Zd R = Vg ts d S ∧ ∀ x b, R ≠ .inl (x, b)) := by
   show _ ∧ _
   rw [HR.o]
   cases S with
   | inr p =>
    refine ⟨?_, fun x b e => by cases e⟩
    show Sum.inr p = Vg ts d (.inr p)
    unfold Vg
    split <;> rfl
   | inl a =>
    have h100 : 100 ≤ d := by simp [U3] at hen; exact hen
    refine ⟨?_, fun x b e => ?_⟩
    ·show Zd (if 100 ≤ d then _ else _) = Vg ts d (.inl a)
     unfold Vg
     rw [if_pos h100, if_pos h100]
     rfl
    ·have : (if 100 ≤ d then (Ys ts 6 a : Pr Ty) else _) = .inl (x, b) := e
     rw [if_pos h100] at this
     cases this
  rw [hen] at HEn
  clear hen
  go_enter func25, ntmps25
  go_wp2_with fail
  refine (HEn.o _ X0.o.at_).mono ?_
  rintro e w1 ⟨rfl, hst, hat⟩
  have X1 := Za (X0.o.step hst hat)
  clear hst hat
  obtain ⟨⟨r0, r1, r2, r3, r4, r5, r6, r7⟩, ⟨f0, f1, f2, f3, f4, f5, f6, f7⟩, hr1⟩ := Zh (X1.o.box (p := (w.heap.size, Ze.obj)) (by simp))
  go_wp2_with fail
  have XF := RX.put8 X1.o (by simp) Ze
  refine bodyPost_ret (results_cell_row rfl _ _ w.heap.size 27 _ (0, 0) _ rfl (XF.box (p := (w.heap.size, Ze.obj)) (by simp)) underlying27 rfl (by kernel_rfl)) rfl ⟨XF.st, ?_, Ze, rfl, fun x b e => absurd e (HS.o.2 x b)⟩
  rw [HS.o.1]
  exact XF.at_
 | true =>
  obtain ⟨a, rfl⟩ : ∃ a, S = .inl a := by cases S with
   | inl a => exact ⟨a, rfl⟩
   | inr p => cases hen
  have h100 : ¬ 100 ≤ d := by simp [U3] at hen; omega
  replace HA := Za (HA.o (by omega))
  have HRl : xQ (Zf A (.inl a) = R) := by rw [HR.o]; exact (if_neg h100).symm
  have e1 : Vg ts d (.inl a) = .inl a := if_neg h100
  rw [hen, e1] at HEn
  clear hen e1 HR
  go_enter func25, ntmps25
  go_wp2_with fail
  refine (HEn.o _ X0.o.at_).mono ?_
  rintro e w1 ⟨rfl, hst, hat⟩
  have X1 := Za (X0.o.step hst hat)
  clear hst hat X0
  have hp := X1.o.hp
  have HC := Za (HA.o _ _ X1.o.at_)
  rw [HRl.o] at HC
  go_wp2_with fail
  refine HC.o.mono ?_
  rintro e w6 ⟨hst, hat, z, rfl, hv⟩
  have X6 := Za (X1.o.step hst hat)
  have HZ6 : xQ (Yq (w.heap.size + 1) w6 z R) := hv.lower (xB (X1.o.box (p := (w.heap.size, Ze.obj)) (by simp)))
  clear hst hat hv X1 HC
  obtain ⟨⟨r0, r1, r2, r3, r4, r5, r6, r7⟩, ⟨f0, f1, f2, f3, f4, f5, f6, f7⟩, hr4⟩ := Zh (X6.o.box (p := (w.heap.size, Ze.obj)) (by simp))
  obtain ⟨hd1, hd2⟩ := X6.o.at_.deep
  have hpl := X6.o.at_.ltp
  have hne3 : ¬ pb = w.heap.size := by omega
  have hne5 : ¬ w.heap.size = pb := by omega
  have hdk : ((d + 1 : Nat) : Int) - 1 = (d : Int) := Lg d
  go_wp2_with fail
  obtain ⟨Wf, hWf⟩ := xE ((((((((((w6.setCell ⟨pb, 2, none⟩ (.int .i64 d)).setCell ⟨w.heap.size, 0, none⟩ (.int .i64 z.k)).setCell ⟨w.heap.size, 1, none⟩ (.string z.tx)).setCell ⟨w.heap.size, 2, none⟩ (.int .i64 z.N)).setCell ⟨w.heap.size, 3, none⟩ (.int .i64 z.li)).setCell ⟨w.heap.size, 4, none⟩ (.int .i64 z.co)).setCell ⟨w.heap.size, 5, none⟩ (.slice z.ta z.tl z.tc)).setCell ⟨w.heap.size, 6, none⟩ (.slice z.na z.nl z.nc)).setCell ⟨w.heap.size, 7, none⟩ (.slice z.ka z.kl z.kc)).alloc (.cells #[.int .i64 z.k, .string z.tx, .int .i64 z.N, .int .i64 z.li, .int .i64 z.co, .slice z.ta z.tl z.tc, .slice z.na z.nl z.nc, .slice z.ka z.kl z.kc] 27))
  rw [← hWf]
  have HXF : xQ (RX pb tb cap ts w Wf d (Zd R) [(w.heap.size, z.obj)]) := by
   rw [hWf]
   exact (((X6.o.deep d).put8 (by simp) z).alloc z.obj).drop
  have hsz0 : (put8 (w6.setCell ⟨pb, 2, none⟩ (.int .i64 d)) w.heap.size z).heap.size = w6.heap.size := by rw [Wr, Zw]
  have zhp : ∀ c, c ≠ w.heap.size → c ≠ pb → c < w6.heap.size → Wf.heap[c]? = w6.heap[c]? := fun c h1 h2 h3 => by
   rw [hWf]
   exact (xA (by rw [hsz0]; exact h3)).trans ((Xq (x := z) h1).trans (xH h2))
  have hsF : w6.heap.size + 1 = Wf.heap.size := by rw [hWf, xS]; simp only [Zw]
  clear hWf
  refine bodyPost_ret (results_cell_row rfl _ _ w.heap.size 27 _ (0, 0) _ rfl (HXF.o.box (p := (w.heap.size, z.obj)) (by simp)) underlying27 rfl (by kernel_rfl)) rfl ⟨HXF.o.st, HXF.o.at_, z, rfl, fun D c e => ?_⟩
  exact ((HZ6.o D c e).keep (by omega) fun c h6 h7 => zhp c (by omega) (by omega) h7).lower (by omega)
theorem Cn (pb tb cap d : Nat) (ts : List Tok) (A : Nat → Pr Ty)
  (hA : ∀ S w, Zp w pb tb cap ts d S → Calls prog 177 #[.pointer (some ⟨pb, 0, none⟩)] w (Y4 pb tb cap ts d w (Zf A S)))
  (S : Z3) (w : World) (h : Zp w pb tb cap ts d S) :
  Calls prog 120 #[.pointer (some ⟨pb, 0, none⟩), .int .i64 6] w (Y4 pb tb cap ts d w (Zf A S)) := by
 have HA := Za hA
 have hp := h.ltp
 have X0 := Za ((((((((U4 h Ze.obj).alloc (Yt (Xk 0))).alloc (Yt (Xk 1))).alloc (Yt (Xk 2))).alloc (Yt (Xk 3))).alloc (Yt (Xk 4))).alloc (Yt (Xk 5))).alloc (Uw w.heap.size))
 obtain ⟨R, hR⟩ := xE (Zf A S)
 have HRr := Za hR
 rw [← hR]
 clear h hA hR
 go_enter func120, ntmps120
 go_wp2_with fail
 refine (HA.o S _ X0.o.at_).mono ?_
 rintro e w6 ⟨hst, hat, z, rfl, hv⟩
 rw [← HRr.o] at hat hv
 have X6 := Za ((X0.o.step hst hat).perm (bx' := [(w.heap.size, Ze.obj)]) (by simp))
 have hv' := hv
 simp only [xS] at hv'
 have HZ6 : xQ (Yq (w.heap.size + 1) w6 z R) := hv'.lower (by omega)
 clear hst hat hv hv' X0
 obtain ⟨⟨r0, r1, r2, r3, r4, r5, r6, r7⟩, ⟨f0, f1, f2, f3, f4, f5, f6, f7⟩, hr4⟩ := Zh (X6.o.box (p := (w.heap.size, Ze.obj)) (by simp))
 go_wp2_with fail
 have XF := RX.put8 X6.o (by simp) z
 refine bodyPost_ret (results_cell_row rfl _ _ w.heap.size 27 _ (0, 0) _ rfl (XF.box (p := (w.heap.size, z.obj)) (by simp)) underlying27 rfl (by kernel_rfl)) rfl ⟨XF.st, XF.at_, z, rfl, fun D c e => ?_⟩
 exact ((HZ6.o D c e).put8 (xU _) z).lower (Nat.le_succ _)
theorem zeg (pb tb cap d : Nat) (ts : List Tok) (A : Nat → Pr Ty)
  (hA : ∀ S w, Zp w pb tb cap ts d S → Calls prog 178 #[.pointer (some ⟨pb, 0, none⟩)] w (Y4 pb tb cap ts d w (Zf A S)))
  (S : Z3) (w : World) (h : Zp w pb tb cap ts d S) :
  Calls prog 120 #[.pointer (some ⟨pb, 0, none⟩), .int .i64 2] w (Y4 pb tb cap ts d w (Zf A S)) := by
 have HA := Za hA
 have hp := h.ltp
 have X0 := Za ((((((((U4 h Ze.obj).alloc (Yt (Xk 0))).alloc (Yt (Xk 1))).alloc (Yt (Xk 2))).alloc (Yt (Xk 3))).alloc (Yt (Xk 4))).alloc (Yt (Xk 5))).alloc (Uw w.heap.size))
 obtain ⟨R, hR⟩ := xE (Zf A S)
 have HRr := Za hR
 rw [← hR]
 clear h hA hR
 go_enter func120, ntmps120
 go_wp2_with fail
 refine (HA.o S _ X0.o.at_).mono ?_
 rintro e w6 ⟨hst, hat, z, rfl, hv⟩
 rw [← HRr.o] at hat hv
 have X6 := Za ((X0.o.step hst hat).perm (bx' := [(w.heap.size, Ze.obj)]) (by simp))
 have hv' := hv
 simp only [xS] at hv'
 have HZ6 : xQ (Yq (w.heap.size + 1) w6 z R) := hv'.lower (by omega)
 clear hst hat hv hv' X0
 obtain ⟨⟨r0, r1, r2, r3, r4, r5, r6, r7⟩, ⟨f0, f1, f2, f3, f4, f5, f6, f7⟩, hr4⟩ := Zh (X6.o.box (p := (w.heap.size, Ze.obj)) (by simp))
 go_wp2_with fail
 have XF := RX.put8 X6.o (by simp) z
 refine bodyPost_ret (results_cell_row rfl _ _ w.heap.size 27 _ (0, 0) _ rfl (XF.box (p := (w.heap.size, z.obj)) (by simp)) underlying27 rfl (by kernel_rfl)) rfl ⟨XF.st, XF.at_, z, rfl, fun D c e => ?_⟩
 exact ((HZ6.o D c e).put8 (xU _) z).lower (Nat.le_succ _)
theorem ror_c (pb tb cap d : Nat) (ts : List Tok) (ok : Z0 ts) (K U : Nat → Pr Ty) (f : Nat) (hf : ts.length ≤ f + 1) (huK : ∀ a x b, K a = .inl (x, b) → a ≤ b) (huU : ∀ a x b, U a = .inl (x, b) → a ≤ b)
  (hK : ∀ S w, Zp w pb tb cap ts d S → Calls prog 31 #[.pointer (some ⟨pb, 0, none⟩)] w (Vn pb tb cap ts d w (Zf K S)))
  (hU : ∀ S w, Zp w pb tb cap ts d S → Calls prog 177 #[.pointer (some ⟨pb, 0, none⟩)] w (Y4 pb tb cap ts d w (Zf U S)))
  (S : Z3) (w : World) (h : Zp w pb tb cap ts d S) :
  Calls prog 120 #[.pointer (some ⟨pb, 0, none⟩), .int .i64 0] w (Y4 pb tb cap ts d w (Zf (Mc ts K U (f + 1)) S)) := by
 have h6 : ∀ S w, Zp w pb tb cap ts d S → Calls prog 120 #[.pointer (some ⟨pb, 0, none⟩), .int .i64 ((5 + 1 : Nat) : Int)] w (Y4 pb tb cap ts d w (Zf U S)) := fun S w h => Cn pb tb cap d ts U hU S w h
 have h5 : ∀ S w, Zp w pb tb cap ts d S → Calls prog 120 #[.pointer (some ⟨pb, 0, none⟩), .int .i64 ((4 + 1 : Nat) : Int)] w (Y4 pb tb cap ts d w (Zf (M7 ts U (f + 1)) S)) := fun S w h => Br pb tb cap d ts ok 5 (by omega) (by omega) U huU f hf h6 S w h
 have u5 := Tg (ts := ts) (L := [[42], [47], [37], [38], [60, 60], [62, 62]]) huU (f + 1)
 have h4 : ∀ S w, Zp w pb tb cap ts d S → Calls prog 120 #[.pointer (some ⟨pb, 0, none⟩), .int .i64 ((3 + 1 : Nat) : Int)] w (Y4 pb tb cap ts d w (Zf (P6 ts U (f + 1)) S)) := fun S w h => Br pb tb cap d ts ok 4 (by omega) (by omega) (M7 ts U (f + 1)) u5 f hf h5 S w h
 have u4 : ∀ a x b, P6 ts U (f + 1) a = .inl (x, b) → a ≤ b := Tg (ts := ts) (L := [[43], [45], [94]]) (sub := M7 ts U (f + 1)) u5 (f + 1)
 have h3 : ∀ S w, Zp w pb tb cap ts d S → Calls prog 120 #[.pointer (some ⟨pb, 0, none⟩), .int .i64 3] w (Y4 pb tb cap ts d w (Zf (T2 ts U (f + 1)) S)) := fun S w h => Br pb tb cap d ts ok 3 (by omega) (by omega) (P6 ts U (f + 1)) u4 f hf h4 S w h
 have u3 : ∀ a x b, T2 ts U (f + 1) a = .inl (x, b) → a ≤ b := Tg (ts := ts) (L := [[43, 43]]) (sub := P6 ts U (f + 1)) u4 (f + 1)
 have hc : ∀ S w, Zp w pb tb cap ts d S → Calls prog 178 #[.pointer (some ⟨pb, 0, none⟩)] w (Y4 pb tb cap ts d w (Zf (Tm ts K (T2 ts U (f + 1))) S)) := fun S w h => rcmp_c pb tb cap d ts ok K (T2 ts U (f + 1)) hK h3 S w h
 have h2 : ∀ S w, Zp w pb tb cap ts d S → Calls prog 120 #[.pointer (some ⟨pb, 0, none⟩), .int .i64 ((1 + 1 : Nat) : Int)] w (Y4 pb tb cap ts d w (Zf (Tm ts K (T2 ts U (f + 1))) S)) := fun S w h => zeg pb tb cap d ts _ hc S w h
 have u2 := Hw (ts := ts) huK u3
 have h1 : ∀ S w, Zp w pb tb cap ts d S → Calls prog 120 #[.pointer (some ⟨pb, 0, none⟩), .int .i64 ((0 + 1 : Nat) : Int)] w (Y4 pb tb cap ts d w (Zf (Ms ts K U (f + 1)) S)) := fun S w h => Br pb tb cap d ts ok 1 (by omega) (by omega) (Tm ts K (T2 ts U (f + 1))) u2 f hf h2 S w h
 have u1 : ∀ a x b, Ms ts K U (f + 1) a = .inl (x, b) → a ≤ b := Tg (ts := ts) (L := [[97, 110, 100]]) (sub := Tm ts K (T2 ts U (f + 1))) u2 (f + 1)
 exact Br pb tb cap d ts ok 0 (by omega) (by omega) (Ms ts K U (f + 1)) u1 f hf h1 S w h
theorem F5 (pb tb cap : Nat) (ts : List Tok) (ok : Z0 ts) (f : Nat) (hf : ts.length ≤ f + 1) : ∀ (n d : Nat), d + n = 101 → d ≤ 100 →
  (∀ (S : Z3) (w : World), Zp w pb tb cap ts d S → Calls prog 25 #[.pointer (some ⟨pb, 0, none⟩)] w (Y4 pb tb cap ts d w (Zf (Yw ts (f + 1) n false d) S))) ∧
  (∀ (S : Z3) (w : World), Zp w pb tb cap ts d S → Calls prog 177 #[.pointer (some ⟨pb, 0, none⟩)] w (Y4 pb tb cap ts d w (Zf (Yw ts (f + 1) n true d) S)))
 | 0, d, h1, h2 => absurd h1 (by omega)
 | n + 1, d, h1, h2 => by
  have hK : d < 100 → ∀ S w, Zp w pb tb cap ts (d + 1) S → Calls prog 31 #[.pointer (some ⟨pb, 0, none⟩)] w (Vn pb tb cap ts (d + 1) w (Zf (Yk ts (f + 1) 101 (d + 1)) S)) := fun hd S w h => by
   have e : Yk ts (f + 1) 101 (d + 1) = Yk ts (f + 1) (100 - d) (d + 1) := funext fun a => Jl ts (f + 1) 101 (100 - d) (d + 1) a (by omega) (by omega)
   rw [e]
   exact Gy pb tb cap ts ok f hf (100 - d) (d + 1) (by omega) (by omega) S w h
  have ih := fun hd : d < 100 => F5 pb tb cap ts ok f hf n (d + 1) (by omega) (by omega)
  have huK : ∀ a x b, Yk ts (f + 1) 101 (d + 1) a = .inl (x, b) → a ≤ b := fun a x b h => Nq h
  have huE := Nj ts (f + 1) n false (d + 1)
  have huU := Nj ts (f + 1) n true (d + 1)
  refine ⟨fun S w h => ?_, fun S w h => ?_⟩
  ·have := Id pb tb cap d ts (Vc ts (Yk ts (f + 1) 101 (d + 1)) (Yw ts (f + 1) n false (d + 1)) (Yw ts (f + 1) n true (d + 1)) (f + 1)) (by omega) (fun hd S w h => zeq pb tb cap (d + 1) ts ok _ _ _ (f + 1) (hK hd) (ih hd).1 (fun S w h => ror_c pb tb cap (d + 1) ts ok _ _ f hf huK huU (hK hd) (ih hd).2 S w h) S w h) S w h
   cases S with
   | inl a => exact this
   | inr p => exact this
  ·have := zgo pb tb cap d ts ok (Yw ts (f + 1) n true (d + 1)) (fun a => (Wm ts (Yk ts (f + 1) 101 (d + 1)) (Yw ts (f + 1) n false (d + 1)) (f + 1) a).go fun x b => Xe ts (Yw ts (f + 1) n false (d + 1)) (f + 1) x b) (by omega) (fun hd => (ih hd).2) (fun hd S w h => zfn pb tb cap (d + 1) ts ok _ _ huE f hf (fun S w h => zfy pb tb cap (d + 1) ts ok _ _ f hf huK (hK hd) (ih hd).1 (fun a li co w h1 h2 h => rrec_c pb tb cap (d + 1) ts ok _ f hf huE (ih hd).1 a li co w h1 h2 h) S w h) (ih hd).1 S w h) S w h
   cases S with
   | inl a => exact this
   | inr p => exact this
end Go.Proofs.YtbnjllkkhhkkaaaGreatDoor
