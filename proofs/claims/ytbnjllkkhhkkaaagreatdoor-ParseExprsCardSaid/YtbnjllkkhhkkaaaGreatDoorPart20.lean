/- Part. -/
import Derived.Test.YtbnjllkkhhkkaaaGreatDoorPart19
set_option maxRecDepth 100000
set_option maxHeartbeats 4000000
namespace Go.Proofs.YtbnjllkkhhkkaaaGreatDoor
open Go.Proofs.Tryz
open Go.RowKit
attribute [local go_sem ↓] Go.wp_at_zero Go.wp_at_succ
def Vy (ts : List Tok) : Z3 → Z3
 | .inl a => if (Zg ts a).kind == 0 then .inl a else .inr (7, (Zg ts a).line, (Zg ts a).col)
 | .inr p => .inr p
abbrev Q5 : Obj := .cells #[.int .i64 0, .int .i64 0, .int .i64 0, .int .i64 0] 30
theorem rend_c (pb tb cap d : Nat) (ts : List Tok) (S : Z3) (w : World) (h : Zp w pb tb cap ts d S) :
  Calls prog 26 #[.pointer (some ⟨pb, 0, none⟩)] w fun r w' => r = .returned (Vx (lS (Vy ts S)) (cS (Vy ts S)) (eS (Vy ts S))) ∧ Zj pb w w' ∧ Zp w' pb tb cap ts d (Vy ts S) := by
 have X0 := Za (U4 h Q5)
 obtain ⟨a, h⟩ := h
 have hal : (a : Int) < (ts.length : Int) := by have := h.lt; omega
 have hpl := h.ltp
 have htl := Nat.lt_trans h.tlt h.ltp
 have hS : (∃ b, S = .inl b ∧ b = a) ∨ ∃ p, S = .inr p ∧ (p.1 == 0) = false := by
  cases S with
  | inl b => exact .inl ⟨b, rfl, h.live b rfl⟩
  | inr p => exact .inr ⟨p, rfl, by have := h.bad p rfl; simpa using this⟩
 have H0 := Za h
 have h1 := (h.alloc Q5).drew
 obtain ⟨⟨c0, c1, c2, c3, c4, c5⟩, f1, f2, f3, f4, f5⟩ := h1.cells
 obtain ⟨q0, q1, q2, q3⟩ := h1.toks a h1.lt
 obtain ⟨t, ht⟩ := xE (Zg ts a)
 rw [← ht] at q0 q1 q2 q3
 obtain ⟨es, hes⟩ := xE (eS S)
 rw [← hes] at c3
 have HES := Za hes
 have HT := Za ht
 have H1 := Za h1
 have hSS := And.intro c0 (And.intro c1 (And.intro c3 q0))
 have HSe := Za hS
 clear ht hes c0 c1 c2 c3 c4 c5 q0 q1 q2 q3 h h1 hS f1 f2 f3 f4 f5
 rcases HSe.o with ⟨b, hSb, rfl⟩ | ⟨p, hSp, hp0⟩
 ·obtain rfl : es = 0 := by rw [HES.o, hSb]; rfl
  have HSb := Za hSb
  clear hSb
  cases hk : (t.kind == 0) with
  | true =>
   go_enter func26, ntmps26
   go_wp2_with fail
   go_region_held (fun W => W.cell? ⟨pb, 0, none⟩ = some (.slice (some ⟨tb, 0, none⟩) ts.length cap) ∧ W.cell? ⟨pb, 1, none⟩ = some (.int .i64 b) ∧ W.cell? ⟨pb, 3, none⟩ = some (.int .i64 0) ∧ W.cell? ⟨tb, b * 4, none⟩ = some (.int .i64 t.kind)) (with_reducible assumption) (fail)
   go_wp2_with fail
   have XD := Za (X0.o.drew.drew)
   have H2 := Za (H1.o.drew)
   obtain ⟨⟨d0, d1, d2, d3, d4, d5⟩, _⟩ := H2.o.cells
   rw [← HES.o] at d3
   have hTT := And.intro d3 (And.intro d4 d5)
   obtain ⟨⟨r0, r1, r2, r3⟩, ⟨f0, f1, f2, f3⟩, hrl⟩ := Zr (XD.o.box (p := (w.heap.size, Q5)) (by simp))
   have HS1 : xQ (∀ o, ((w.alloc o).drew.drew).cell? ⟨pb, 3, none⟩ = some (.int .i64 0) ∧ ((w.alloc o).drew.drew).cell? ⟨pb, 4, none⟩ = some (.int .i64 (lS S)) ∧ ((w.alloc o).drew.drew).cell? ⟨pb, 5, none⟩ = some (.int .i64 (cS S))) := fun o => by
    have := ((H0.o.alloc o).drew.drew).cells.1
    rw [HES.o]
    exact this.2.2.2
   clear hSS d0 d1 d2 d3 d4 d5
   go_region_held (fun W => W.cell? ⟨pb, 3, none⟩ = some (.int .i64 0) ∧ W.cell? ⟨pb, 4, none⟩ = some (.int .i64 (lS S)) ∧ W.cell? ⟨pb, 5, none⟩ = some (.int .i64 (cS S))) (first | with_reducible assumption | with_reducible exact HS1.o _) (fail)
   go_wp2_with fail
   refine bodyPost_ret (results_cell_row rfl _ _ w.heap.size 30 _ (0, 0) _ rfl (xL w _) underlying30 rfl (by kernel_rfl)) rfl ?_
   have e1 : Vy ts S = S := by rw [HSb.o]; exact if_pos (by rw [← HT.o]; exact hk)
   rw [e1]
   refine ⟨by rw [← HES.o], (Zj.of hpl (Zl w _)).drew.drew, b, (H0.o.alloc _).drew.drew⟩
  | false =>
   go_enter func26, ntmps26
   go_wp2_with fail
   go_region_held (fun W => W.cell? ⟨pb, 0, none⟩ = some (.slice (some ⟨tb, 0, none⟩) ts.length cap) ∧ W.cell? ⟨pb, 1, none⟩ = some (.int .i64 b) ∧ W.cell? ⟨pb, 3, none⟩ = some (.int .i64 0) ∧ W.cell? ⟨tb, b * 4, none⟩ = some (.int .i64 t.kind)) (with_reducible assumption) (fail)
   have hk2 : (t.kind != 0) = true := by rw [bne, hk]; rfl
   clear hSS
   go_wp2_with fail
   refine (Nz pb tb cap d ts S 7 (by decide) _ ⟨_, H1.o⟩).mono ?_
   rintro e w2 ⟨rfl, hst, hat⟩
   have X2 := Za ((X0.o.drew).step hst hat)
   clear hst hat
   have e1 : Vy ts S = P2 ts 7 S := by rw [HSb.o]; exact if_neg (by rw [← HT.o, hk]; simp)
   rw [← e1] at X2
   clear e1
   obtain ⟨a2, h2⟩ := X2.o.at_
   obtain ⟨⟨d0, d1, d2, d3, d4, d5⟩, _⟩ := h2.drew.cells
   have hTT := And.intro d3 (And.intro d4 d5)
   have HH2 := Za h2
   obtain ⟨⟨r0, r1, r2, r3⟩, ⟨f0, f1, f2, f3⟩, hrl⟩ := Zr (X2.o.drew.box (p := (w.heap.size, Q5)) (by simp))
   obtain ⟨⟨g0, g1, g2, g3⟩, ⟨k0, k1, k2, k3⟩, hgl⟩ := Zr (X2.o.box (p := (w.heap.size, Q5)) (by simp))
   clear h2 d0 d1 d2 d3 d4 d5
   have HS1 : xQ (∀ x0 x1 x2 x3, ((((w2.setCell ⟨w.heap.size, 0, none⟩ x0).setCell ⟨w.heap.size, 1, none⟩ x1).setCell ⟨w.heap.size, 2, none⟩ x2).setCell ⟨w.heap.size, 3, none⟩ x3).drew.cell? ⟨pb, 3, none⟩ = some (.int .i64 (eS (Vy ts S))) ∧ ((((w2.setCell ⟨w.heap.size, 0, none⟩ x0).setCell ⟨w.heap.size, 1, none⟩ x1).setCell ⟨w.heap.size, 2, none⟩ x2).setCell ⟨w.heap.size, 3, none⟩ x3).drew.cell? ⟨pb, 4, none⟩ = some (.int .i64 (lS (Vy ts S))) ∧ ((((w2.setCell ⟨w.heap.size, 0, none⟩ x0).setCell ⟨w.heap.size, 1, none⟩ x1).setCell ⟨w.heap.size, 2, none⟩ x2).setCell ⟨w.heap.size, 3, none⟩ x3).drew.cell? ⟨pb, 5, none⟩ = some (.int .i64 (cS (Vy ts S)))) := fun x0 x1 x2 x3 => by
    obtain ⟨a3, h3⟩ := (X2.o.at_.set4 hpl x0 x1 x2 x3).drew
    exact h3.cells.1.2.2.2
   go_wp2_with fail
   go_region_held (fun W => W.cell? ⟨pb, 3, none⟩ = some (.int .i64 (eS (Vy ts S))) ∧ W.cell? ⟨pb, 4, none⟩ = some (.int .i64 (lS (Vy ts S))) ∧ W.cell? ⟨pb, 5, none⟩ = some (.int .i64 (cS (Vy ts S)))) (first | with_reducible assumption | with_reducible exact HS1.o _ _ _ _) (fail)
   go_wp2_with fail
   refine bodyPost_ret (results_cell_row rfl _ _ w.heap.size 30 _ (0, 0) _ rfl (set4 (X2.o.box (p := (w.heap.size, Q5)) (by simp)) _ _ _ _) underlying30 rfl (by kernel_rfl)) rfl ?_
   exact ⟨rfl, (Xs X2.o.st hpl (xR) _ _ _ _).drew, (X2.o.at_.set4 hpl _ _ _ _).drew⟩
 ·have he : es = p.1 := by rw [HES.o, hSp]; rfl
  rw [← he] at hp0
  have HSp := Za hSp
  clear hSp he
  go_enter func26, ntmps26
  go_wp2_with fail
  obtain ⟨c0, c1, c3, q0⟩ := hSS
  go_region
  go_wp2_with fail
  have XD := Za (X0.o.drew.drew)
  have H2 := Za (H1.o.drew)
  obtain ⟨⟨d0, d1, d2, d3, d4, d5⟩, _⟩ := H2.o.cells
  rw [← HES.o] at d3
  have hTT := And.intro d3 (And.intro d4 d5)
  obtain ⟨⟨r0, r1, r2, r3⟩, ⟨f0, f1, f2, f3⟩, hrl⟩ := Zr (XD.o.box (p := (w.heap.size, Q5)) (by simp))
  have HS1 : xQ (∀ o, ((w.alloc o).drew.drew).cell? ⟨pb, 3, none⟩ = some (.int .i64 es) ∧ ((w.alloc o).drew.drew).cell? ⟨pb, 4, none⟩ = some (.int .i64 (lS S)) ∧ ((w.alloc o).drew.drew).cell? ⟨pb, 5, none⟩ = some (.int .i64 (cS S))) := fun o => by
   have := ((H0.o.alloc o).drew.drew).cells.1
   rw [HES.o]
   exact this.2.2.2
  clear c0 c1 c3 q0 d0 d1 d2 d3 d4 d5
  go_region_held (fun W => W.cell? ⟨pb, 3, none⟩ = some (.int .i64 es) ∧ W.cell? ⟨pb, 4, none⟩ = some (.int .i64 (lS S)) ∧ W.cell? ⟨pb, 5, none⟩ = some (.int .i64 (cS S))) (first | with_reducible assumption | with_reducible exact HS1.o _) (fail)
  go_wp2_with fail
  refine bodyPost_ret (results_cell_row rfl _ _ w.heap.size 30 _ (0, 0) _ rfl (xL w _) underlying30 rfl (by kernel_rfl)) rfl ?_
  have e1 : Vy ts S = S := by rw [HSp.o]; rfl
  rw [e1]
  refine ⟨by rw [HES.o], (Zj.of hpl (Zl w _)).drew.drew, a, (H0.o.alloc _).drew.drew⟩
end Go.Proofs.YtbnjllkkhhkkaaaGreatDoor
namespace Go.Proofs.YtbnjllkkhhkkaaaGreatDoor.Lx
open Go.Proofs.Tryz
open Go.RowKit
theorem Ma (b : UInt8) (w : World) : Calls prog 70 #[.int .u8 b.toNat] w fun e w' => e = .returned (.bool (Y8 b)) ∧ w' = w := by
 have zhr : (b.toNat < 65) ∨ (65 ≤ b.toNat ∧ b.toNat ≤ 90) ∨ (90 < b.toNat ∧ b.toNat < 95) ∨ b.toNat = 95 ∨ b.toNat = 96 ∨ (97 ≤ b.toNat ∧ b.toNat ≤ 122) ∨ 122 < b.toNat := by omega
 unfold Y8
 generalize b.toNat = n at zhr ⊢
 rcases zhr with h | ⟨h1, h2⟩ | ⟨h1, h2⟩ | rfl | rfl | ⟨h1, h2⟩ | h
 ·have e : ((n : Int) == 95) = false := by simp; omega
  go_enter func70, ntmps70
  go_wp2
  go_ret
  exact ⟨Vr (by first | rfl | (simp; done) | (simp; omega) | (rw [Bool.eq_iff_iff]; simp; omega)), rfl⟩
 ·go_enter func70, ntmps70
  go_wp2
  go_ret
  exact ⟨Vr (by first | rfl | (simp; done) | (simp; omega) | (rw [Bool.eq_iff_iff]; simp; omega)), rfl⟩
 ·have e : ((n : Int) == 95) = false := by simp; omega
  go_enter func70, ntmps70
  go_wp2
  go_ret
  exact ⟨Vr (by first | rfl | (simp; done) | (simp; omega) | (rw [Bool.eq_iff_iff]; simp; omega)), rfl⟩
 ·go_enter func70, ntmps70
  go_wp2
  go_ret
  exact ⟨rfl, rfl⟩
 ·go_enter func70, ntmps70
  go_wp2
  go_ret
  exact ⟨rfl, rfl⟩
 ·go_enter func70, ntmps70
  go_wp2
  go_ret
  exact ⟨Vr (by first | rfl | (simp; done) | (simp; omega) | (rw [Bool.eq_iff_iff]; simp; omega)), rfl⟩
 ·have e : ((n : Int) == 95) = false := by simp; omega
  go_enter func70, ntmps70
  go_wp2
  go_ret
  exact ⟨Vr (by first | rfl | (simp; done) | (simp; omega) | (rw [Bool.eq_iff_iff]; simp; omega)), rfl⟩
theorem P9 (b : UInt8) (w : World) : Calls prog 69 #[.int .u8 b.toNat] w fun e w' => e = .returned (.bool (Ye b)) ∧ w' = w := by
 have zhr : (b.toNat < 48) ∨ (48 ≤ b.toNat ∧ b.toNat ≤ 57) ∨ 57 < b.toNat := by omega
 unfold Ye
 generalize b.toNat = n at zhr ⊢
 rcases zhr with h | ⟨h1, h2⟩ | h
 all_goals
  go_enter func69, ntmps69
  go_wp2
  go_ret
  exact ⟨Vr (by first | rfl | (simp; done) | (simp; omega) | (rw [Bool.eq_iff_iff]; simp; omega)), rfl⟩
theorem Hz {S : ByteArray} (h : S.size = 0) : Tz S.data.toList = false := by
 have : S.data.toList = [] := List.eq_nil_of_length_eq_zero (by rw [Yp]; exact h)
 rw [this]
 rfl
theorem Hk {S : ByteArray} (h : 0 < S.size) : Tz S.data.toList = (decide (S.size ≤ 32) && Y8 S[0] && S.data.toList.all Yc && !Wa.contains S.data.toList) := by
 have e := Y0 S 0 h
 rw [List.drop_zero] at e
 have hl := Yp S
 rw [e] at hl
 conv => lhs; rw [e]
 rw [Tz, hl, ← e]
theorem Hr (S : ByteArray) (p : UInt8 → Bool) : (Ya S 0 p = S.size) ↔ S.data.toList.all p = true := by
 unfold Ya
 rw [List.drop_zero, ← Yp, Nat.zero_add]
 generalize S.data.toList = l
 induction l with
 | nil => simp
 | cons b r ih =>
  by_cases h : p b = true
  ·rw [List.takeWhile_cons_of_pos h]
   simp [h, ← ih]
  ·rw [List.takeWhile_cons_of_neg h]
   simp [h]
theorem Sl (S : ByteArray) (hS : S.size ≤ 140737488351232) (w : World) (hw : Words w) : Calls prog 128 #[.string S] w fun e w' => e = .returned (.bool (Tz S.data.toList)) ∧ w' = w := by
 by_cases hz : S.size = 0
 ·have he : S.toList.isEmpty = true := by rw [N4]; simp [hz]
  rw [Hz hz]
  clear hw
  go_enter func128, ntmps128
  go_wp2
  go_ret
  exact ⟨rfl, rfl⟩
 have h0 : 0 < S.size := by omega
 have he : S.toList.isEmpty = false := by rw [N4]; simp [hz]
 rw [Hk h0]
 by_cases hl : 32 < S.size
 ·have hd : decide (S.size ≤ 32) = false := by simp; omega
  rw [hd]
  clear hd hw
  go_enter func128, ntmps128
  go_wp2
  go_ret
  exact ⟨rfl, rfl⟩
 have hd : decide (S.size ≤ 32) = true := by simp; omega
 rw [hd]
 clear hd hz
 have hst := Px S[0]
 cases hb : Y8 S[0]
 ·rw [hb] at hst
  have HST := Za hst
  clear hst hb hw
  simp only [Bool.and_false, Bool.false_and]
  go_enter func128, ntmps128
  go_wp2_with fail
  refine (HST.o _).mono ?_
  rintro e w' ⟨rfl, rfl⟩
  go_wp2
  go_ret
  exact ⟨rfl, rfl⟩
 rw [hb] at hst
 have HST := Za hst
 have hrow := K7 S hS 0 (by omega)
 have hall := Hr S Yc
 have hwd := fun w h => Ki S w h
 have HW := Za hw
 obtain ⟨r, hr⟩ := xE (Ya S 0 Yc)
 rw [← hr] at hrow hall
 have HROW := Za hrow
 have hrle : r ≤ S.size := by rw [hr]; exact Qz S 0 Yc (by omega)
 clear hst hb hrow hr hw
 cases ha : S.data.toList.all Yc
 ·have hne : ((r : Int) == (S.size : Int)) = false := by
   have : r ≠ S.size := fun e => by rw [hall.1 e] at ha; cases ha
   simp
   omega
  clear hall ha hwd
  simp only [Bool.and_false, Bool.false_and]
  go_enter func128, ntmps128
  go_wp2_with fail
  refine (HST.o _).mono ?_
  rintro e w' ⟨rfl, rfl⟩
  go_wp2_with fail
  refine (HROW.o _).mono ?_
  rintro e w' ⟨rfl, rfl⟩
  go_wp2
  go_ret
  exact ⟨rfl, rfl⟩
 ·have heq : ((r : Int) == (S.size : Int)) = true := by
   have := hall.2 ha
   simp
   omega
  cases hq : Wa.contains S.data.toList
  ·rw [hq] at hwd
   have HWD := Za hwd
   clear hall ha hwd hq
   go_enter func128, ntmps128
   go_wp2_with fail
   refine (HST.o _).mono ?_
   rintro e w' ⟨rfl, rfl⟩
   go_wp2_with fail
   refine (HROW.o _).mono ?_
   rintro e w' ⟨rfl, rfl⟩
   go_wp2_with fail
   refine (HWD.o _ HW.o).mono ?_
   rintro e w' ⟨rfl, rfl⟩
   go_wp2
   go_ret
   exact ⟨rfl, rfl⟩
  ·rw [hq] at hwd
   have HWD := Za hwd
   clear hall ha hwd hq
   go_enter func128, ntmps128
   go_wp2_with fail
   refine (HST.o _).mono ?_
   rintro e w' ⟨rfl, rfl⟩
   go_wp2_with fail
   refine (HROW.o _).mono ?_
   rintro e w' ⟨rfl, rfl⟩
   go_wp2_with fail
   refine (HWD.o _ HW.o).mono ?_
   rintro e w' ⟨rfl, rfl⟩
   go_wp2
   go_ret
   exact ⟨rfl, rfl⟩
theorem Zn {w w1 w2 : World} (h : Below w.heap.size w w1) (k : Below w1.heap.size w1 w2) : Below w.heap.size w w2 := h.trans (k.mono h.size)
theorem Zl (w : World) (o : Obj) : Below w.heap.size w (w.alloc o) := (Below.refl _ w).alloc (xR) o
def Xn (li co e : Int) : Obj := .cells #[.int .i64 0, .int .i64 li, .int .i64 co, .int .i64 e] 30
theorem Og (w : World) : Calls prog 125 #[] w fun e w' => e = .returned (.slice (some ⟨w.heap.size, 0, none⟩) 25 25) ∧ Below w.heap.size w w' ∧ ∀ i, i < 25 → w'.cell? ⟨w.heap.size, i, none⟩ = some (.string (Vf i)) := by
 go_enter func125, ntmps125
 go_wp2
 go_ret
 refine ⟨rfl, Zl w _, ?_⟩
 intro i hi
 rw [cell_of_row _ _ i _ _ (0, 0) (xL w _)]
 match i, hi with
 | 0, _ => rfl
 | 1, _ => rfl
 | 2, _ => rfl
 | 3, _ => rfl
 | 4, _ => rfl
 | 5, _ => rfl
 | 6, _ => rfl
 | 7, _ => rfl
 | 8, _ => rfl
 | 9, _ => rfl
 | 10, _ => rfl
 | 11, _ => rfl
 | 12, _ => rfl
 | 13, _ => rfl
 | 14, _ => rfl
 | 15, _ => rfl
 | 16, _ => rfl
 | 17, _ => rfl
 | 18, _ => rfl
 | 19, _ => rfl
 | 20, _ => rfl
 | 21, _ => rfl
 | 22, _ => rfl
 | 23, _ => rfl
 | 24, _ => rfl
 | n + 25, h => exact absurd h (by omega)
theorem zer (s : ByteArray) (w : World) : Calls prog 68 #[.string s] w fun e w' => e = .returned (.bool (Wa.contains s.data.toList)) ∧ Below w.heap.size w w' := by
 obtain ⟨b, hb⟩ := xE (Wa.contains s.data.toList)
 rw [← hb]
 have HB := Za hb
 clear hb
 go_enter func68, ntmps68
 go_wp2_with fail
 refine (Og _).mono ?_
 rintro e w1 ⟨rfl, hb1, hc⟩
 have HB1 := Za hb1
 have HC := Za hc
 clear hb1 hc
 go_wp2
 go_loop [4] (fun i => ∃ k : Nat, k ≤ 25 ∧ i = .int .i64 k ∧ xQ (Mq s k)) (fun i => 25 - (intOf i).toNat)
 case atStart => exact ⟨0, by omega, rfl, fun i hi => by omega⟩
 case round =>
  obtain ⟨k, hk, rfl, hno⟩ := hrel
  by_cases hlt : k < 25
  ·have hck := HC.o k hlt
   obtain ⟨t, ht⟩ := xE (Vf k)
   rw [← ht] at hck
   have HT := Za ht
   clear ht
   have hkI : (k : Int) < 25 := by omega
   cases hq : (t.toList == s.toList)
   ·have hno' : xQ (Mq s (k + 1)) := fun i hi => by
     by_cases hik : i = k
     ·subst hik; rw [← HT.o]; exact (M4 hq).symm
     ·exact hno.o i (by omega)
    go_wp2
    go_round
    case rel => exact ⟨k + 1, by omega, by go_num, hno'⟩
    case measure => simp [intOf]; omega
   ·have e : b = true := by
     rw [HB.o]
     exact (Nl s).2 ⟨k, hlt, (Qn.1 hq).symm.trans HT.o⟩
    subst e
    go_wp2
    go_ret
    exact ⟨rfl, HB1.o⟩
  ·have e : b = false := by
    rw [HB.o, Bool.eq_false_iff]
    intro h
    obtain ⟨i, hi, e⟩ := (Nl s).1 h
    exact hno.o i (by omega) e
   subst e
   go_wp2
   go_ret
   exact ⟨rfl, HB1.o⟩
theorem Ly {b : UInt8} (h : Ye b = true) : Y8 b = false := by
 unfold Ye at h
 unfold Y8
 simp at h ⊢
 omega
def Nk (i : Nat) : ByteArray := ⟨#[(U0.getD i (0, 0)).1, (U0.getD i (0, 0)).2]⟩
theorem Sv {S : ByteArray} (h : 2 ≤ S.size) : S.extract 0 2 = ⟨#[S[0], S[1]]⟩ := by
 rw [P8, List.drop_zero]
 have e := Y0 S 0 (by omega)
 rw [List.drop_zero, Y0 S 1 (by omega)] at e
 rw [e]
 rfl
theorem Dl {S : ByteArray} (h : 2 ≤ S.size) : S.data.toList = S[0] :: S[1] :: S.data.toList.drop 2 := by
 have e := Y0 S 0 (by omega)
 rw [List.drop_zero, Y0 S 1 (by omega)] at e
 exact e
theorem Fx (a b : UInt8) : U0.contains (a, b) = true ↔ ∃ i, i < 8 ∧ (⟨#[a, b]⟩ : ByteArray) = Nk i := by
 rw [List.contains_iff_mem]
 constructor
 ·intro h
  obtain ⟨i, hi, e⟩ := List.mem_iff_getElem.1 h
  refine ⟨i, hi, ?_⟩
  unfold Nk
  rw [List.getD_eq_getElem?_getD, List.getElem?_eq_getElem hi, Option.getD_some, e]
 ·rintro ⟨i, hi, e⟩
  unfold Nk at e
  rw [List.getD_eq_getElem?_getD, List.getElem?_eq_getElem (show i < U0.length from hi), Option.getD_some] at e
  simp only [ByteArray.mk.injEq, Array.mk.injEq, List.cons.injEq, and_true] at e
  have : (a, b) = U0[i]'hi := by rw [e.1, e.2]; rfl
  rw [this]
  exact List.getElem_mem ..
def Kc (S : ByteArray) (k : Nat) : Prop := ∀ i, i < k → ¬ (2 ≤ S.size ∧ S.extract 0 2 = Nk i)
theorem zcs {S : ByteArray} {i : Nat} (h : 2 ≤ S.size) (hi : i < 8) (e : S.extract 0 2 = Nk i) : Y7 S.data.toList = 2 := by
 rw [Sv h] at e
 rw [Dl h, Y7, if_pos ((Fx _ _).2 ⟨i, hi, e⟩)]
theorem zfb {S : ByteArray} (h : 0 < S.size) (hn : Kc S 8) : Y7 S.data.toList = if Qb.contains S[0] then 1 else 0 := by
 by_cases h2 : 2 ≤ S.size
 ·rw [Dl h2, Y7, if_neg]
  rw [Fx]
  rintro ⟨i, hi, e⟩
  exact hn i hi ⟨h2, by rw [Sv h2]; exact e⟩
 ·have e := Y0 S 0 h
  rw [List.drop_zero, List.drop_eq_nil_of_le (by rw [Yp]; omega)] at e
  rw [e, Y7]
def J3 (O : ByteArray) (b : UInt8) (k : Nat) : Prop := ∀ i (h : i < O.size), i < k → b ≠ O[i]
theorem one_no {O : ByteArray} {b : UInt8} (hO : O.data.toList = Qb) (h : J3 O b O.size) : Qb.contains b = false := by
 rw [Bool.eq_false_iff]
 intro hc
 rw [List.contains_iff_mem, ← hO] at hc
 obtain ⟨i, hi, e⟩ := List.mem_iff_getElem.1 hc
 have hi' : i < O.size := by rw [← Yp]; exact hi
 exact h i hi' hi' e.symm
theorem Iw {O : ByteArray} {b : UInt8} {i : Nat} (hO : O.data.toList = Qb) (hi : i < O.size) (e : b = O[i]) : Qb.contains b = true := by
 rw [List.contains_iff_mem, ← hO, e]
 have hi' : i < O.data.toList.length := by rw [Yp]; exact hi
 exact List.getElem_mem hi'
theorem Pq {B : Nat} {a w : World} (h : Below B a w) (n : Nat) : Below B a (w.drewN n) := ⟨h.os, h.tape, h.output, h.size, h.block⟩
theorem zat (w : World) (ty : TypeId) : ∀ i, i < 8 → (w.alloc (.cells #[.string { data := #[45, 62] }, .string { data := #[61, 62] }, .string { data := #[60, 58] }, .string { data := #[60, 60] }, .string { data := #[60, 61] }, .string { data := #[62, 62] }, .string { data := #[61, 61] }, .string { data := #[43, 43] }] ty)).cell? ⟨w.heap.size, i, none⟩ = some (.string (Nk i)) := by
 intro i hi
 rw [cell_of_row _ _ i _ ty (0, 0) (xL w _)]
 match i, hi with
 | 0, _ => rfl
 | 1, _ => rfl
 | 2, _ => rfl
 | 3, _ => rfl
 | 4, _ => rfl
 | 5, _ => rfl
 | 6, _ => rfl
 | 7, _ => rfl
theorem zbz (S : ByteArray) (h0 : 0 < S.size) (hS : S.size ≤ 65536) (w : World) : Calls prog 176 #[.string S] w fun e w' => e = .returned (.int .i64 (Y7 S.data.toList)) ∧ Below w.heap.size w w' := by
 obtain ⟨r, hr⟩ := xE (Y7 S.data.toList)
 rw [← hr]
 have HR := Za hr
 clear hr
 have zhq := zat w 9
 have hbl := Zl w (.cells #[.string { data := #[45, 62] }, .string { data := #[61, 62] }, .string { data := #[60, 58] }, .string { data := #[60, 60] }, .string { data := #[60, 61] }, .string { data := #[62, 62] }, .string { data := #[61, 61] }, .string { data := #[43, 43] }] 9)
 have h0I : (0 : Int) < (S.size : Int) := by omega
 obtain ⟨O, hO⟩ : ∃ O : ByteArray, O = { data := #[40, 41, 123, 125, 91, 93, 44, 58, 59, 61, 43, 45, 42, 47, 37, 38, 94, 60, 124, 46] } := ⟨_, rfl⟩
 have hOs : O.size = 20 := by rw [hO]; rfl
 have HOL : xQ (O.data.toList = Qb) := by show _ = _; rw [hO]; rfl
 have HO := Za hO
 have HOS := Za hOs
 clear hO
 go_enter func176, ntmps176
 go_wp2
 generalize hw1 : w.alloc _ = w1 at zhq hbl ⊢
 have HC := Za zhq
 have HB := Za hbl
 clear zhq hbl hw1
 go_loopw [4] (fun i wr => ∃ k n : Nat, k ≤ 8 ∧ i = .int .i64 k ∧ wr = w1.drewN n ∧ xQ (Kc S k)) (fun i _ => 8 - (intOf i).toNat)
 case atStart => exact ⟨0, 0, by omega, rfl, rfl, fun i hi => by omega⟩
 case round =>
  obtain ⟨k, n, hk, rfl, rfl, hno⟩ := hrel
  by_cases hlt : k < 8
  ·have hkI : (k : Int) < 8 := by omega
   have c := HC.o k hlt
   obtain ⟨U, hU⟩ := xE (Nk k)
   rw [← hU] at c
   have HU := Za hU
   clear hU
   by_cases h2 : 2 ≤ S.size
   ·have h2I : (2 : Int) ≤ (S.size : Int) := by omega
    cases hq : ((S.extract 0 2).toList == U.toList)
    ·have hno' : xQ (Kc S (k + 1)) := fun i hi => by
      by_cases hik : i = k
      ·subst hik; rw [← HU.o]; exact fun h => M4 hq h.2
      ·exact hno.o i (by omega)
     go_wp2
     go_quiet (fail)
     go_wp2
     go_roundw
     case rel => exact ⟨k + 1, _, by omega, by go_num, rfl, hno'⟩
     case measure => simp [intOf]; omega
    ·have e : r = 2 := by
      rw [HR.o]
      exact zcs h2 hlt ((Qn.1 hq).trans HU.o)
     subst e
     go_wp2
     go_quiet (fail)
     go_wp2
     go_ret
     exact ⟨rfl, by first | exact Pq HB.o _ | exact Pq (Pq HB.o _) _⟩
   ·have h2I : decide ((2 : Int) ≤ (S.size : Int)) = false := by simp; omega
    have hno' : xQ (Kc S (k + 1)) := fun i hi h => h2 h.1
    go_wp2
    go_quiet (fail)
    go_wp2
    go_roundw
    case rel => exact ⟨k + 1, _, by omega, by go_num, rfl, hno'⟩
    case measure => simp [intOf]; omega
  ·have hs1 := Za (zfb h0 (fun i hi => hno.o i (by omega)))
   go_wp2
   rw [← HO.o]
   go_loopw [6] (fun i wr => ∃ k n : Nat, k ≤ 20 ∧ i = .int .i64 k ∧ wr = w1.drewN n ∧ xQ (J3 O S[0] k)) (fun i _ => 20 - (intOf i).toNat)
   case atStart => exact ⟨0, _, by omega, rfl, rfl, fun i _ hi => by omega⟩
   case round =>
    obtain ⟨j, n2, hj, rfl, rfl, hno2⟩ := hrel
    by_cases hltj : j < 20
    ·have hjs : j < O.size := by omega
     have hjI : (j : Int) < (O.size : Int) := by omega
     by_cases hq : S[0].toNat = O[j].toNat
     ·have p : ((S[0].toNat : Int) == (O[j].toNat : Int)) = true := by simp; omega
      have e : r = 1 := by
       rw [HR.o, hs1.o, Iw HOL.o hjs (UInt8.toNat_inj.1 hq)]
       rfl
      subst e
      clear hq
      go_wp2
      go_quiet (fail)
      go_wp2
      go_ret
      exact ⟨rfl, by first | exact Pq HB.o _ | exact Pq (Pq HB.o _) _⟩
     ·have p : ((S[0].toNat : Int) == (O[j].toNat : Int)) = false := by simp; omega
      have hno' : xQ (J3 O S[0] (j + 1)) := fun i hi hik => by
       by_cases e : i = j
       ·subst e; exact fun e2 => hq (by rw [e2])
       ·exact hno2.o i hi (by omega)
      clear hq
      go_wp2
      go_quiet (fail)
      go_wp2
      go_roundw
      case rel => exact ⟨j + 1, _, by omega, by go_num, rfl, hno'⟩
      case measure => simp [intOf]; omega
    ·have hjI : ¬ (j : Int) < (O.size : Int) := by omega
     have e : r = 0 := by
      rw [HR.o, hs1.o, one_no HOL.o (fun i hi _ => hno2.o i hi (by omega))]
      rfl
     subst e
     go_wp2
     go_ret
     exact ⟨rfl, by first | exact Pq HB.o _ | exact Pq (Pq HB.o _) _⟩
end Go.Proofs.YtbnjllkkhhkkaaaGreatDoor.Lx
namespace Go.Proofs.YtbnjllkkhhkkaaaGreatDoor.Lx
open Go.Proofs.Tryz
end Go.Proofs.YtbnjllkkhhkkaaaGreatDoor.Lx
namespace Go.Proofs.YtbnjllkkhhkkaaaGreatDoor.Lx
open Go.Proofs.Tryz
open Go.RowKit
theorem Bv (T U : ByteArray) : (T ++ U).data.toList = T.data.toList ++ U.data.toList := by simp
theorem Bs (T U : ByteArray) : (T ++ U).size = T.size + U.size := by simp [ByteArray.size_append]
theorem Hi {S : ByteArray} {k : Nat} (hk : k < S.size) : (S.extract k (k + 1)).data.toList = [S[k]] := by
 rw [P8, Nat.add_sub_cancel_left, Y0 S k hk]
 rfl
theorem Dy {S : ByteArray} {k : Nat} (hk : k < S.size) : (S.extract k (k + 1)).size = 1 := by
 rw [← Yp, Hi hk]
 rfl
def Sx (S : ByteArray) (o : Option (List UInt8 × List UInt8)) (e : Ending) : Prop :=
 match o with
 | none => e = .returned (.tuple #[.string { data := #[] }, .int .i64 0])
 | some (said, rest) => ∃ m : Nat, 1 < m ∧ m ≤ S.size ∧ rest = S.data.toList.drop m ∧ e = .returned (.tuple #[.string ⟨said.toArray⟩, .int .i64 m])
theorem zeo (S : ByteArray) (hS : S.size ≤ 65536) (w : World) : Calls prog 175 #[.string S] w fun e w' => Sx S (Xm S 1 []) e ∧ w' = w := by
 obtain ⟨o, ho⟩ := xE (Xm S 1 [])
 rw [← ho]
 have HO := Za ho
 clear ho
 go_enter func175, ntmps175
 go_wp2
 go_loop [4, 5] (fun v i => ∃ (m : Nat) (T : ByteArray), 1 ≤ m ∧ m ≤ S.size + 1 ∧ i = .int .i64 m ∧ v = .string T ∧ T.size ≤ m ∧ xQ (o = Xm S m T.data.toList)) (fun _ i => S.size + 1 - (intOf i).toNat)
 case atStart => exact ⟨1, _, xR, by omega, rfl, rfl, by decide, HO.o⟩
 case round =>
  obtain ⟨m, T, hm1, hmS, rfl, rfl, hT, hrel⟩ := hrel
  by_cases hlt : m < S.size
  ·have hltI : (m : Int) < (S.size : Int) := by omega
   by_cases b1 : S[m].toNat = 34
   ·have p1 : ((S[m].toNat : Int) == 34) = true := by simp; omega
    have e := hrel.o.trans (D5 hlt b1)
    subst e
    clear b1 hrel HO
    go_wp2
    go_ret2
    exact ⟨⟨m + 1, by omega, by omega, rfl, rfl⟩, rfl⟩
   have n1 : ((S[m].toNat : Int) == 34) = false := by simp; omega
   by_cases b2 : S[m].toNat < 32
   ·have p2 : (S[m].toNat : Int) < 32 := by omega
    have e := hrel.o.trans (Gi hlt b2)
    subst e
    clear b1 b2 hrel HO
    go_wp2
    go_ret2
    exact ⟨rfl, rfl⟩
   have n2 : ¬ (S[m].toNat : Int) < 32 := by omega
   by_cases b3 : S[m].toNat = 92
   ·have p3 : ((S[m].toNat : Int) != 92) = false := by simp; omega
    by_cases hl1 : m + 1 < S.size
    ·have hl1I : ¬ (S.size : Int) ≤ (m : Int) + 1 := by omega
     have hl1J : (m : Int) + 1 < (S.size : Int) := by omega
     have hx1 := Za (Hi hl1)
     have hx2 := Dy hl1
     have l1 : (m : Int) + 1 + 1 ≤ (S.size : Int) := by omega
     have l2 : (m : Int) + 1 ≤ (m : Int) + 1 + 1 := by omega
     have some1 := fun x => Fh (acc := T.data.toList) (x := x) hlt b3 hl1
     have none1 := Ra (acc := T.data.toList) hlt b3 hl1
     by_cases c1 : S[m + 1].toNat = 92
     ·have q1 : ((S[m + 1].toNat : Int) == 92) = true := by simp; omega
      have e1 : S[m + 1] = 92 := UInt8.toNat_inj.1 c1
      have E : xQ (o = Xm S (m + 2) (T ++ S.extract (m + 1) (m + 1 + 1)).data.toList) := by
       show _ = _
       rw [Bv, hx1.o, e1, hrel.o]
       exact some1 92 (by rw [e1]; rfl)
      clear c1 e1 b1 b2 b3 some1 none1 hrel HO hx1
      go_wp2
      go_round
      case rel => exact ⟨m + 2, _, by omega, by omega, by go_num, rfl, by rw [Bs]; omega, E⟩
      case measure => simp [intOf]; omega
     have r1 : ((S[m + 1].toNat : Int) == 92) = false := by simp; omega
     by_cases c2 : S[m + 1].toNat = 34
     ·have q2 : ((S[m + 1].toNat : Int) == 34) = true := by simp; omega
      have e1 : S[m + 1] = 34 := UInt8.toNat_inj.1 c2
      have E : xQ (o = Xm S (m + 2) (T ++ S.extract (m + 1) (m + 1 + 1)).data.toList) := by
       show _ = _
       rw [Bv, hx1.o, e1, hrel.o]
       exact some1 34 (by rw [e1]; rfl)
      clear c1 c2 e1 b1 b2 b3 some1 none1 hrel HO hx1
      go_wp2
      go_round
      case rel => exact ⟨m + 2, _, by omega, by omega, by go_num, rfl, by rw [Bs]; omega, E⟩
      case measure => simp [intOf]; omega
     have r2 : ((S[m + 1].toNat : Int) == 34) = false := by simp; omega
     by_cases c3 : S[m + 1].toNat = 110
     ·have q3 : ((S[m + 1].toNat : Int) == 110) = true := by simp; omega
      have e1 : S[m + 1] = 110 := UInt8.toNat_inj.1 c3
      have E : xQ (o = Xm S (m + 2) (T ++ { data := #[10] }).data.toList) := by
       show _ = _
       rw [Bv, hrel.o]
       exact some1 10 (by rw [e1]; rfl)
      have hs1 : (T ++ { data := #[10] } : ByteArray).size ≤ m + 2 := by rw [Bs]; show T.size + 1 ≤ m + 2; omega
      clear c1 c2 c3 e1 b1 b2 b3 some1 none1 hrel HO hx1
      go_wp2
      go_round
      case rel => exact ⟨m + 2, _, by omega, by omega, by go_num, rfl, hs1, E⟩
      case measure => simp [intOf]; omega
     have r3 : ((S[m + 1].toNat : Int) == 110) = false := by simp; omega
     by_cases c4 : S[m + 1].toNat = 116
     ·have q4 : ((S[m + 1].toNat : Int) == 116) = true := by simp; omega
      have e1 : S[m + 1] = 116 := UInt8.toNat_inj.1 c4
      have E : xQ (o = Xm S (m + 2) (T ++ { data := #[9] }).data.toList) := by
       show _ = _
       rw [Bv, hrel.o]
       exact some1 9 (by rw [e1]; rfl)
      have hs1 : (T ++ { data := #[9] } : ByteArray).size ≤ m + 2 := by rw [Bs]; show T.size + 1 ≤ m + 2; omega
      clear c1 c2 c3 c4 e1 b1 b2 b3 some1 none1 hrel HO hx1
      go_wp2
      go_round
      case rel => exact ⟨m + 2, _, by omega, by omega, by go_num, rfl, hs1, E⟩
      case measure => simp [intOf]; omega
     have r4 : ((S[m + 1].toNat : Int) == 116) = false := by simp; omega
     have f : ∀ n : UInt8, S[m + 1].toNat ≠ n.toNat → ¬ S[m + 1] = n := fun n hn e => hn (by rw [e])
     have e := hrel.o.trans (none1 (by rw [U5, if_neg (f 92 c1), if_neg (f 34 c2), if_neg (f 110 c3), if_neg (f 116 c4)]))
     subst e
     clear c1 c2 c3 c4 b1 b2 b3 some1 none1 hrel HO hx1 f
     go_wp2
     go_ret2
     exact ⟨rfl, rfl⟩
    ·have hl1I : (S.size : Int) ≤ (m : Int) + 1 := by omega
     have e := hrel.o.trans (Fv hlt b3 hl1)
     subst e
     clear b1 b2 b3 hrel HO
     go_wp2
     go_ret2
     exact ⟨rfl, rfl⟩
   have n3 : ((S[m].toNat : Int) != 92) = true := by simp; omega
   have hx1 := Za (Hi hlt)
   have hx2 := Dy hlt
   have l1 : (m : Int) + 1 ≤ (S.size : Int) := by omega
   have l2 : (m : Int) ≤ (m : Int) + 1 := by omega
   have E : xQ (o = Xm S (m + 1) (T ++ S.extract m (m + 1)).data.toList) := by
    show _ = _
    rw [Bv, hx1.o, hrel.o]
    exact Fz hlt b1 b2 b3
   clear b1 b2 b3 hrel HO hx1
   go_wp2
   go_round
   case rel => exact ⟨m + 1, _, by omega, by omega, by go_num, rfl, by rw [Bs]; omega, E⟩
   case measure => simp [intOf]; omega
  ·have hltI : ¬ (m : Int) < (S.size : Int) := by omega
   have e := hrel.o.trans (Ab hlt)
   subst e
   clear hrel HO
   go_wp2
   go_ret2
   exact ⟨rfl, rfl⟩
end Go.Proofs.YtbnjllkkhhkkaaaGreatDoor.Lx
namespace Go.Proofs.YtbnjllkkhhkkaaaGreatDoor.Lx
open Go.Proofs.Tryz
def val : List UInt8 → Int → Int
 | [], n => n
 | d :: r, n => val r (n * 10 + ((d.toNat : Int) - 48))
def Vz (d : UInt8) : Prop := 48 ≤ (d.toNat : Int) ∧ (d.toNat : Int) ≤ 57
theorem Ax : ∀ (l : List UInt8) (n : Int), 0 ≤ n → (∀ d ∈ l, Vz d) → n ≤ val l n
 | [], n, _, _ => Int.le_refl n
 | d :: r, n, hn, hd => by
  have h := hd d (xM ..)
  unfold Vz at h
  have := Ax r (n * 10 + ((d.toNat : Int) - 48)) (by omega) (fun x hx => hd x (xW _ hx))
  rw [val]
  omega
theorem Rr : ∀ (l : List UInt8) (d : UInt8) (n : Int), val (l ++ [d]) n = val l n * 10 + ((d.toNat : Int) - 48)
 | [], _, _ => rfl
 | x :: r, d, n => by
  rw [List.cons_append, val, val, Rr r d]
theorem Gl : ∀ (l : List UInt8) (n : Int), 0 ≤ n → (∀ d ∈ l, Vz d) → val l n ≤ 9223372036854775807 → Vm l n = some (val l n)
 | [], _, _, _, _ => rfl
 | d :: r, n, hn, hd, hv => by
  have h := hd d (xM ..)
  unfold Vz at h
  have hr : ∀ x ∈ r, Vz x := fun x hx => hd x (xW _ hx)
  rw [val] at hv ⊢
  have hg := Ax r (n * 10 + ((d.toNat : Int) - 48)) (by omega) hr
  rw [Vm, if_neg (by omega), if_neg (by omega)]
  exact Gl r _ (by omega) hr hv
theorem Lh : ∀ (l : List UInt8) (n : Int), 0 ≤ n → ((∃ d ∈ l, ¬ Vz d) ∨ (∀ d ∈ l, Vz d) ∧ 9223372036854775807 < val l n ∧ n ≤ 9223372036854775807) → Vm l n = none
 | [], n, _, h => by
  rcases h with ⟨d, hd, _⟩ | ⟨_, h, h2⟩
  ·cases hd
  ·rw [val] at h
   omega
 | d :: r, n, hn, h => by
  rw [Vm]
  by_cases hd : (d.toNat : Int) < 48 ∨ 57 < (d.toNat : Int)
  ·rw [if_pos hd]
  rw [if_neg hd]
  by_cases ho : (9223372036854775807 - ((d.toNat : Int) - 48)) / 10 < n
  ·rw [if_pos ho]
  rw [if_neg ho]
  refine Lh r _ (by omega) ?_
  rcases h with ⟨x, hx, hnx⟩ | ⟨ha, hv, hm⟩
  ·rcases List.mem_cons.1 hx with rfl | hx
   ·exact absurd (show Vz x from ⟨by omega, by omega⟩) hnx
   ·exact Or.inl ⟨x, hx, hnx⟩
  ·rw [val] at hv
   exact Or.inr ⟨fun x hx => ha x (xW _ hx), hv, by omega⟩
end Go.Proofs.YtbnjllkkhhkkaaaGreatDoor.Lx
namespace Go.Proofs.YtbnjllkkhhkkaaaGreatDoor.Lx
open Go.Proofs.Tryz
open Go.RowKit
def Xu (k : Nat) : Int := 10 ^ k - 1
theorem top_19 {k : Nat} (h : k ≤ 19) : Xu k ≤ 9999999999999999999 := by
 have : (10 : Nat) ^ k ≤ 10 ^ 19 := Nat.pow_le_pow_right (by decide) h
 have e : ((10 ^ k : Nat) : Int) = (10 : Int) ^ k := by simp
 unfold Xu
 omega
theorem top_18 {k : Nat} {m : Int} (h : m ≤ Xu k) (hk : k ≤ 18) : m ≤ 999999999999999999 := by
 have : (10 : Nat) ^ k ≤ 10 ^ 18 := Nat.pow_le_pow_right (by decide) hk
 have e : ((10 ^ k : Nat) : Int) = (10 : Int) ^ k := by simp
 unfold Xu at h
 omega
theorem El {k : Nat} {m d : Int} (h : m ≤ Xu k) (hd : d ≤ 9) : 10 * m + d ≤ Xu (k + 1) := by
 have e : (10 : Int) ^ (k + 1) = 10 ^ k * 10 := Int.pow_succ 10 k
 unfold Xu at *
 omega
theorem Dg (s : ByteArray) (k : Nat) (hk : k < s.size) : s.data.toList.take (k + 1) = s.data.toList.take k ++ [s[k]] := by
 have h : k < s.data.toList.length := by rw [Yp]; exact hk
 rw [List.take_succ_eq_append_getElem h]
 rfl
theorem O2 (s : ByteArray) (k : Nat) (hk : k < s.size) : val (s.data.toList.take (k + 1)) 0 = 10 * val (s.data.toList.take k) 0 + ((s[k].toNat : Int) - 48) := by
 rw [Dg s k hk, Rr]
 omega
theorem Jf (s : ByteArray) (k : Nat) (hk : k < s.size) : s[k] ∈ s.data.toList := by
 have h : k < s.data.toList.length := by rw [Yp]; exact hk
 exact List.getElem_mem h
theorem E4 (s : ByteArray) (k : Nat) (hk : k < s.size) (h : ∀ d ∈ s.data.toList.take k, Vz d) (hd : Vz s[k]) : ∀ d ∈ s.data.toList.take (k + 1), Vz d := by
 rw [Dg s k hk]
 intro d hm
 rcases List.mem_append.1 hm with hm | hm
 ·exact h d hm
 ·rw [List.mem_singleton.1 hm]
  exact hd
theorem Ru : ∀ (l : List UInt8) (n : Int), 0 ≤ n → (∀ d ∈ l, Vz d) → n * 10 ^ l.length ≤ val l n
 | [], n, _, _ => by simp [val]
 | d :: r, n, hn, hd => by
  have h := hd d (xM ..)
  unfold Vz at h
  have ih := Ru r (n * 10 + ((d.toNat : Int) - 48)) (by omega) (fun x hx => hd x (xW _ hx))
  rw [val, List.length_cons, Int.pow_succ]
  have hp : (0 : Int) < 10 ^ r.length := Int.pow_pos (by decide)
  have : n * (10 ^ r.length * 10) ≤ (n * 10 + ((d.toNat : Int) - 48)) * 10 ^ r.length := by
   rw [Int.add_mul, Int.mul_comm (10 ^ r.length) 10, ← Int.mul_assoc]
   have := Int.mul_nonneg (show 0 ≤ (d.toNat : Int) - 48 by omega) (Int.le_of_lt hp)
   omega
  omega
theorem Eh (s : ByteArray) (h0 : 0 < s.size) (hn : ¬ ((s[0].toNat : Int) = 48 ∧ 1 < s.size)) (hl : 19 < s.size) : Ww s.data.toList = none := by
 rw [J9 h0 hn]
 refine Lh _ 0 (by omega) ?_
 by_cases ha : ∀ d ∈ s.data.toList, Vz d
 ·refine Or.inr ⟨ha, ?_, by omega⟩
  have e := Y0 s 0 h0
  rw [List.drop_zero] at e
  have hd := ha _ (Jf s 0 h0)
  unfold Vz at hd
  have hr : ∀ d ∈ s.data.toList.drop (0 + 1), Vz d := fun d hd => ha d (List.mem_of_mem_drop hd)
  obtain ⟨x, hx⟩ : ∃ x : Int, x = (s[0].toNat : Int) - 48 := ⟨_, rfl⟩
  have hv := Ru (s.data.toList.drop (0 + 1)) x (by omega) hr
  have hlen : (s.data.toList.drop (0 + 1)).length = s.size - 1 := by rw [List.length_drop, Yp]
  rw [hlen] at hv
  have hp : (10 : Nat) ^ 19 ≤ 10 ^ (s.size - 1) := Nat.pow_le_pow_right (by decide) (by omega)
  have e2 : ((10 ^ (s.size - 1) : Nat) : Int) = (10 : Int) ^ (s.size - 1) := by simp
  have e3 : val s.data.toList 0 = val (s.data.toList.drop (0 + 1)) x := by
   rw [e, val, hx]
   simp
  rw [e3]
  have h1 : (1 : Int) ≤ x := by omega
  have := Int.mul_le_mul_of_nonneg_right h1 (show (0 : Int) ≤ 10 ^ (s.size - 1) by omega)
  omega
 ·refine Or.inl ?_
  obtain ⟨d, hd⟩ := Classical.not_forall.1 ha
  obtain ⟨h1, h2⟩ := Classical.not_imp.1 hd
  exact ⟨d, h1, h2⟩
theorem parseR_c (s : ByteArray) (w : World) (hs : s.size ≤ 9223372036854775807) : Calls prog 174 #[.string s] w fun e w' => e = .returned (Pd (Ww s.data.toList)) ∧ w' = w := by
 by_cases hz : s.size = 0
 ·have hz1 : ((s.size : Int) == 0) = true := by simpa using hz
  rw [Rp hz]
  go_enter func174, ntmps174
  go_wp2
  go_ret2
  exact ⟨rfl, rfl⟩
 have hz1 : ((s.size : Int) == 0) = false := by simpa using hz
 have h0 : 0 < s.size := by omega
 by_cases hn : (s[0].toNat : Int) = 48 ∧ 1 < s.size
 ·rw [Dp h0 hn.1 hn.2]
  obtain ⟨hn1, hn2⟩ := hn
  by_cases hl : 19 < s.size
  all_goals
   go_enter func174, ntmps174
   go_wp2
   go_ret2
   exact ⟨rfl, rfl⟩
 by_cases hl : 19 < s.size
 ·rw [Eh s h0 hn hl]
  clear hn
  go_enter func174, ntmps174
  go_wp2
  go_ret2
  exact ⟨rfl, rfl⟩
 have HV := Za (J9 h0 hn)
 have hd : ((s[0].toNat : Int) = 48 ∧ s.size ≤ 1) ∨ ¬ (s[0].toNat : Int) = 48 := by omega
 clear hn hz
 rcases hd with ⟨hd, hd1⟩ | hd
 all_goals
  go_enter func174, ntmps174
  go_wp2
  go_loop [4, 5] (fun n i => ∃ (k : Nat) (m : Int), k ≤ s.size ∧ i = .int .i64 k ∧ n = .int .u64 m ∧ 0 ≤ m ∧ m ≤ Xu k ∧ m = val (s.data.toList.take k) 0 ∧ ∀ d ∈ s.data.toList.take k, Vz d) (fun _ i => s.size - (intOf i).toNat)
  case atStart => exact ⟨0, 0, xZ _, rfl, rfl, by omega, by decide, rfl, by simp⟩
  case round =>
   obtain ⟨k, m, hk, rfl, rfl, hm0, hm1, hv, ha⟩ := hrel
   have HT := Za hm1
   have HM := Za hv
   have HA := Za ha
   clear hm1 hv ha
   by_cases hkl : k < s.size
   ·have hm2 : m ≤ 999999999999999999 := top_18 HT.o (by omega)
    by_cases b1 : (s[k].toNat : Int) < 48
    ·go_wp2
     go_ret2
     rw [HV.o, Lh _ 0 (by omega) (Or.inl ⟨s[k], Jf s k hkl, fun h => by unfold Vz at h; omega⟩)]
     exact ⟨rfl, rfl⟩
    by_cases b2 : 57 < (s[k].toNat : Int)
    ·go_wp2
     go_ret2
     rw [HV.o, Lh _ 0 (by omega) (Or.inl ⟨s[k], Jf s k hkl, fun h => by unfold Vz at h; omega⟩)]
     exact ⟨rfl, rfl⟩
    ·go_wp2
     go_round
     case rel => exact ⟨k + 1, 10 * m + ((s[k].toNat : Int) - 48), by omega, by go_num, rfl, by omega, El HT.o (by omega), by rw [O2 s k hkl, HM.o], E4 s k hkl HA.o ⟨by omega, by omega⟩⟩
     case measure => simp [intOf]; omega
   ·have hm2 : m ≤ 9999999999999999999 := Int.le_trans HT.o (top_19 (by omega))
    have e : s.data.toList.take k = s.data.toList := List.take_of_length_le (by rw [Yp]; omega)
    rw [e] at HM HA
    by_cases ho : 9223372036854775807 < m
    ·go_wp2
     go_ret2
     rw [HV.o, Lh _ 0 (by omega) (Or.inr ⟨HA.o, by rw [← HM.o]; exact ho, by omega⟩)]
     exact ⟨rfl, rfl⟩
    ·go_wp2
     go_ret2
     rw [HV.o, Gl _ 0 (by omega) HA.o (by rw [← HM.o]; omega), ← HM.o]
     exact ⟨rfl, rfl⟩
def B2 (S : ByteArray) (w : World) (R : Rd) (e : Ending) (w' : World) : Prop :=
 Below w.heap.size w w' ∧ match R with
 | .inl x => x ≠ 0 ∧ e = .returned (.tuple #[.agg #[.int .i64 0, .string { data := #[] }, .int .i64 0, .int .i64 0], .int .i64 0, .int .i64 x])
 | .inr (k, t, rest) => ∃ n : Nat, 0 < n ∧ n ≤ S.size ∧ rest = S.data.toList.drop n ∧ e = .returned (.tuple #[.agg #[.int .i64 k, .string ⟨t.toArray⟩, .int .i64 0, .int .i64 0], .int .i64 n, .int .i64 0])
theorem Q0 {fn : Func} {p u v : Tmp} {ty : TypeId} (h : fn.results = #[.cell p ty, .tmp u, .tmp v]) (tmps : Array Value) {P : Program} {w : World} {g : Nat} {t : TypeId} {cs : Array Value} {fr : Nat × Nat} {fs : Array Field}
  (hp : tmps.getD p undef = .pointer (some ⟨g, 0, none⟩)) (hg : w.heap[g]? = some (.cells cs t fr))
  (hu : P.underlying ty = some (.struct fs)) (hi : (P.info? ty).map (·.size) = some cs.size) :
  (results fn tmps).run P w = .ok (.tuple #[.agg cs, tmps.getD u undef, tmps.getD v undef]) w := by
 have hp' : tmps[p]?.getD undef = .pointer (some ⟨g, 0, none⟩) := by simpa using hp
 simp [results, h, hp', asAddr, run_loadVar_row w g t ty cs fr _ hg hu rfl hi]
theorem Q6 : (prog.info? 108).map (·.size) = some 4 := by kernel_rfl
theorem Ym.set {w : World} {tb : Nat} {kind : Int} {text : ByteArray} {li co : Int} (h : Ym w tb kind text li co) (k' : Int) (t' : ByteArray) (li' co' : Int) :
  Ym ((((w.setCell ⟨tb, 0, none⟩ (.int .i64 k')).setCell ⟨tb, 1, none⟩ (.string t')).setCell ⟨tb, 2, none⟩ (.int .i64 li')).setCell ⟨tb, 3, none⟩ (.int .i64 co')) tb k' t' li' co' :=
 Z9 (Z9 (Z9 (Z9 h)))
theorem Ae {w w2 : World} (h : Below (w.alloc (.cells #[.int .i64 0, .string { data := #[] }, .int .i64 0, .int .i64 0] 108)).heap.size (w.alloc (.cells #[.int .i64 0, .string { data := #[] }, .int .i64 0, .int .i64 0] 108)) w2) : Ym w2 w.heap.size 0 { data := #[] } 0 0 := by
 unfold Ym
 rw [h.block _ (by simp)]
 exact xL w _
theorem zce {b : UInt8} (h : Y8 b = true) : Ye b = false := by
 cases hd : Ye b
 ·rfl
 ·rw [Ly hd] at h
  cases h
theorem Dn (S : ByteArray) (p : UInt8 → Bool) : (S.extract 0 (Ya S 0 p)).data.toList = S.data.toList.takeWhile p := by
 rw [Hp, List.drop_zero]
theorem zff (S : ByteArray) (h0 : 0 < S.size) (hS : S.size ≤ 65536) (hl : Y8 S[0] = true) (w : World) : Calls prog 114 #[.string S] w (B2 S w (Xc S.data.toList)) := by
 have hrd := Ml (k := 0) h0
 rw [List.drop_zero, hl, if_pos rfl] at hrd
 have hl0 := Ma S[0]
 have hd0 := P9 S[0]
 rw [hl] at hl0
 rw [zce hl] at hd0
 have HL0 := Za hl0
 have HD0 := Za hd0
 have hgt := Ja (p := Yc) h0 (by simp [Yc, hl])
 have hle := Qz S 0 Yc (by omega)
 have htk := Dn S Yc
 have hrl : Ya S 0 Yc = (S.data.toList.takeWhile Yc).length := by unfold Ya; simp
 rw [← hrl, ← htk] at hrd
 obtain ⟨r, hr⟩ := xE (Ya S 0 Yc)
 have hrow := Za hr
 have hwc := zer (S.extract 0 r)
 rw [← hr] at hrd hgt hle
 obtain ⟨R, hR⟩ := xE (Xc S.data.toList)
 rw [← hR] at hrd ⊢
 have HRD := Za hrd
 have HWC := Za hwc
 have h0I : (0 : Int) < (S.size : Int) := by omega
 clear hl0 hd0 hl hr hrd htk hrl hR hwc
 go_enter func114, ntmps114
 go_wp2_with fail
 refine (HL0.o _).mono ?_
 rintro e w' ⟨rfl, rfl⟩
 go_wp2_with fail
 refine (HD0.o _).mono ?_
 rintro e w' ⟨rfl, rfl⟩
 go_wp2
 go_loop [7] (fun i => ∃ m : Nat, m ≤ S.size ∧ i = .int .i64 m ∧ xQ (r = Ya S m Yc)) (fun i => S.size - (intOf i).toNat)
 case atStart => exact ⟨0, xZ _, rfl, hrow⟩
 case round =>
  obtain ⟨m, hm, rfl, hrm⟩ := hrel
  by_cases hin : ∃ h : m < S.size, Yc S[m] = true
  ·obtain ⟨hlt, hin⟩ := hin
   have hltI : (m : Int) < (S.size : Int) := by omega
   have hl1 := Ma S[m]
   have hd1 := P9 S[m]
   have N : xQ (r = Ya S (m + 1) Yc) := hrm.o.trans (Pk hlt hin)
   have hab : (Y8 S[m] = true ∧ Ye S[m] = false) ∨ (Y8 S[m] = false ∧ Ye S[m] = true) ∨ (Y8 S[m] = true ∧ Ye S[m] = true) := by
    revert hin
    unfold Yc
    cases Y8 S[m] <;> cases Ye S[m] <;> simp
   clear hin
   rcases hab with ⟨ha, hb⟩ | ⟨ha, hb⟩ | ⟨ha, hb⟩
   all_goals
    rw [ha] at hl1
    rw [hb] at hd1
    have HL1 := Za hl1
    have HD1 := Za hd1
    clear hl1 hd1 ha hb
    go_wp2_with fail
    refine (HL1.o _).mono ?_
    rintro e w' ⟨rfl, rfl⟩
    go_wp2_with fail
    refine (HD1.o _).mono ?_
    rintro e w' ⟨rfl, rfl⟩
    go_wp2
    go_round
    case rel => exact ⟨m + 1, by omega, by go_num, N⟩
    case measure => simp [intOf]; omega
  ·have hmr : r = m := by
    by_cases hlt : m < S.size
    ·rw [hrm.o]
     refine M5 hlt ?_
     cases hq : Yc S[m]
     ·rfl
     ·exact absurd ⟨hlt, hq⟩ hin
    ·rw [hrm.o, Mw hlt]
   subst hmr
   have mI : (r : Int) ≤ (S.size : Int) := by omega
   have hex : (∃ h : r < S.size, (r : Int) < (S.size : Int) ∧ Y8 S[r] = false ∧ Ye S[r] = false) ∨ ¬ (r : Int) < (S.size : Int) := by
    by_cases hlt : r < S.size
    ·have : Yc S[r] = false := by
      cases hq : Yc S[r]
      ·rfl
      ·exact absurd ⟨hlt, hq⟩ hin
     unfold Yc at this
     rw [Bool.or_eq_false_iff] at this
     exact .inl ⟨hlt, by omega, this.1, this.2⟩
    ·exact .inr (by omega)
   clear hin hrm hrow
   rcases hex with ⟨hlt, hltI, ha, hb⟩ | hltI
   all_goals
    first
    | (have hl1 := Ma S[r]
       have hd1 := P9 S[r]
       rw [ha] at hl1
       rw [hb] at hd1
       have HL1 := Za hl1
       have HD1 := Za hd1
       clear hl1 hd1 ha hb
       go_wp2_with fail
       refine (HL1.o _).mono ?_
       rintro e w' ⟨rfl, rfl⟩
       go_wp2_with fail
       refine (HD1.o _).mono ?_
       rintro e w' ⟨rfl, rfl⟩)
    | skip
    by_cases h32 : 32 < r
    ·have h32I : (32 : Int) < (r : Int) := by omega
     have e1 := HRD.o
     rw [if_pos h32] at e1
     subst e1
     clear HRD
     go_wp2
     refine bodyPost_ret (Q0 rfl _ rfl (xL w _) underlying108 Q6) rfl ?_
     exact ⟨Zl w _, by decide, rfl⟩
    ·have h32I : ¬ (32 : Int) < (r : Int) := by omega
     have e1 := HRD.o
     rw [if_neg h32] at e1
     have HE1 := Za e1
     clear e1 HRD
     go_wp2_with fail
     refine (HWC.o _).mono ?_
     rintro e w2 ⟨rfl, hb2⟩
     have htb := Ae hb2
     have HTB := Za htb
     have c0 := htb.c0
     have c1 := htb.c1
     have c2 := htb.c2
     have c3 := htb.c3
     have f0 := htb.fz 0
     have f1 := htb.fz 1
     have f2 := htb.fz 2
     have f3 := htb.fz 3
     have HB2 := Za (Zn (Zl w _) hb2)
     obtain ⟨b, hb⟩ := xE (Wa.contains (S.extract 0 r).data.toList)
     rw [← hb] at HE1 ⊢
     clear hb2 htb hb
     cases b
     ·go_wp2
      refine bodyPost_ret (Q0 rfl _ rfl (HTB.o.set _ _ _ _) underlying108 Q6) rfl ?_
      rw [HE1.o]
      exact ⟨Q3 HB2.o _ _ _ _, r, hgt, hle, rfl, rfl⟩
     ·go_wp2
      refine bodyPost_ret (Q0 rfl _ rfl (HTB.o.set _ _ _ _) underlying108 Q6) rfl ?_
      rw [HE1.o]
      exact ⟨Q3 HB2.o _ _ _ _, r, hgt, hle, rfl, rfl⟩
theorem Oj (S : ByteArray) (h0 : 0 < S.size) (hS : S.size ≤ 65536) (hd : Ye S[0] = true) (w : World) : Calls prog 114 #[.string S] w (B2 S w (Xc S.data.toList)) := by
 have hrd := Ml (k := 0) h0
 rw [List.drop_zero, Ly hd, hd, if_neg (by decide), if_pos rfl] at hrd
 have hl0 := Ma S[0]
 have hd0 := P9 S[0]
 rw [Ly hd] at hl0
 rw [hd] at hd0
 have HL0 := Za hl0
 have HD0 := Za hd0
 have hgt := Ja (p := Ye) h0 hd
 have hle := Qz S 0 Ye (by omega)
 have htk := Dn S Ye
 rw [← htk] at hrd
 obtain ⟨r, hr⟩ := xE (Ya S 0 Ye)
 have hrow := Za hr
 rw [← hr] at hrd hgt hle
 have hxs : (S.extract 0 r).size ≤ 65536 := by
  rw [← Yp, P8]
  simp
  omega
 have hpc := parseR_c (S.extract 0 r)
 obtain ⟨R, hR⟩ := xE (Xc S.data.toList)
 rw [← hR] at hrd ⊢
 have HRD := Za hrd
 have HPC := Za (fun w => hpc w (by omega))
 have h0I : (0 : Int) < (S.size : Int) := by omega
 clear hl0 hd0 hd hr hrd htk hR hpc hxs
 go_enter func114, ntmps114
 go_wp2_with fail
 refine (HL0.o _).mono ?_
 rintro e w' ⟨rfl, rfl⟩
 go_wp2_with fail
 refine (HD0.o _).mono ?_
 rintro e w' ⟨rfl, rfl⟩
 go_wp2
 go_loop [7] (fun i => ∃ m : Nat, m ≤ S.size ∧ i = .int .i64 m ∧ xQ (r = Ya S m Ye)) (fun i => S.size - (intOf i).toNat)
 case atStart => exact ⟨0, xZ _, rfl, hrow⟩
 case round =>
  obtain ⟨m, hm, rfl, hrm⟩ := hrel
  by_cases hin : ∃ h : m < S.size, Ye S[m] = true
  ·obtain ⟨hlt, hin⟩ := hin
   have hltI : (m : Int) < (S.size : Int) := by omega
   have hl1 := Ma S[m]
   have hd1 := P9 S[m]
   have N : xQ (r = Ya S (m + 1) Ye) := hrm.o.trans (Pk hlt hin)
   rw [Ly hin] at hl1
   rw [hin] at hd1
   have HL1 := Za hl1
   have HD1 := Za hd1
   clear hl1 hd1 hin
   go_wp2_with fail
   refine (HL1.o _).mono ?_
   rintro e w' ⟨rfl, rfl⟩
   go_wp2_with fail
   refine (HD1.o _).mono ?_
   rintro e w' ⟨rfl, rfl⟩
   go_wp2
   go_round
   case rel => exact ⟨m + 1, by omega, by go_num, N⟩
   case measure => simp [intOf]; omega
  ·have hmr : r = m := by
    by_cases hlt : m < S.size
    ·rw [hrm.o]
     refine M5 hlt ?_
     cases hq : Ye S[m]
     ·rfl
     ·exact absurd ⟨hlt, hq⟩ hin
    ·rw [hrm.o, Mw hlt]
   subst hmr
   have mI : (r : Int) ≤ (S.size : Int) := by omega
   have hex : (∃ h : r < S.size, (r : Int) < (S.size : Int) ∧ Ye S[r] = false) ∨ ¬ (r : Int) < (S.size : Int) := by
    by_cases hlt : r < S.size
    ·have : Ye S[r] = false := by
      cases hq : Ye S[r]
      ·rfl
      ·exact absurd ⟨hlt, hq⟩ hin
     exact .inl ⟨hlt, by omega, this⟩
    ·exact .inr (by omega)
   clear hin hrm hrow
   rcases hex with ⟨hlt, hltI, hb⟩ | hltI
   all_goals
    first
    | (have hl1 := Ma S[r]
       have hd1 := P9 S[r]
       rw [hb] at hd1
       have HL1 := Za hl1
       have HD1 := Za hd1
       clear hl1 hd1 hb
       go_wp2_with fail
       refine (HL1.o _).mono ?_
       rintro e w' ⟨rfl, rfl⟩
       go_wp2_with fail
       refine (HD1.o _).mono ?_
       rintro e w' ⟨rfl, rfl⟩)
    | skip
    cases hq : Ww (S.extract 0 r).data.toList with
    | none =>
     have e1 := HRD.o
     rw [hq] at e1
     have hp1 := HPC.o
     rw [hq] at hp1
     have HP1 := Za hp1
     clear HRD hq HPC hp1
     go_wp2_with fail
     refine (HP1.o _).mono ?_
     rintro e w' ⟨rfl, rfl⟩
     simp only [Pd, Option.getD_none, Option.isSome_none]
     go_wp2
     rw [e1]
     refine bodyPost_ret (Q0 rfl _ rfl (xL w _) underlying108 Q6) rfl ?_
     exact ⟨Zl w _, by decide, rfl⟩
    | some v =>
     have e1 := HRD.o
     rw [hq] at e1
     have hp1 := HPC.o
     rw [hq] at hp1
     have HP1 := Za hp1
     clear HRD hq HPC hp1
     go_wp2_with fail
     refine (HP1.o _).mono ?_
     rintro e w' ⟨rfl, rfl⟩
     simp only [Pd, Option.getD_some, Option.isSome_some]
     go_wp2
     rw [e1]
     refine bodyPost_ret (Q0 rfl _ rfl (xL w _) underlying108 Q6) rfl ?_
     exact ⟨Zl w _, r, hgt, hle, rfl, rfl⟩
theorem I7 (S : ByteArray) (h0 : 0 < S.size) (hS : S.size ≤ 65536) (hl : Y8 S[0] = false) (hd : Ye S[0] = false) (hq : S[0] = 34) (w : World) : Calls prog 114 #[.string S] w (B2 S w (Xc S.data.toList)) := by
 have hrd := Ml (k := 0) h0
 rw [List.drop_zero, hl, hd, if_neg (by decide), if_neg (by decide), if_pos hq] at hrd
 have hl0 := Ma S[0]
 have hd0 := P9 S[0]
 rw [hl] at hl0
 rw [hd] at hd0
 have HL0 := Za hl0
 have HD0 := Za hd0
 have hqc := zeo S hS
 obtain ⟨R, hR⟩ := xE (Xc S.data.toList)
 rw [← hR] at hrd ⊢
 have p1 : ((S[0].toNat : Int) == 34) = true := by rw [hq]; rfl
 have h0I : (0 : Int) < (S.size : Int) := by omega
 cases ho : Xm S 1 [] with
 | none =>
  rw [ho] at hqc
  rw [Nat.zero_add, ho] at hrd
  subst hrd
  have HQC := Za hqc
  clear hl0 hd0 hl hd hq hR hqc ho
  go_enter func114, ntmps114
  go_wp2_with fail
  refine (HL0.o _).mono ?_
  rintro e w' ⟨rfl, rfl⟩
  go_wp2_with fail
  refine (HD0.o _).mono ?_
  rintro e w' ⟨rfl, rfl⟩
  go_wp2_with fail
  refine (HQC.o _).mono ?_
  rintro e w' ⟨hq, rfl⟩
  simp only [Sx] at hq
  subst hq
  go_wp2
  refine bodyPost_ret (Q0 rfl _ rfl (xL w _) underlying108 Q6) rfl ?_
  exact ⟨Zl w _, by decide, rfl⟩
 | some sr =>
  obtain ⟨said, rest⟩ := sr
  rw [ho] at hqc
  rw [Nat.zero_add, ho] at hrd
  have hrd2 : R = if 256 < said.length then Rd.bad 2 else Rd.tok 4 said rest := hrd
  have HQC := Za hqc
  have HRD := Za hrd2
  clear hl0 hd0 hl hd hq hR hqc ho hrd hrd2
  go_enter func114, ntmps114
  go_wp2_with fail
  refine (HL0.o _).mono ?_
  rintro e w' ⟨rfl, rfl⟩
  go_wp2_with fail
  refine (HD0.o _).mono ?_
  rintro e w' ⟨rfl, rfl⟩
  go_wp2_with fail
  refine (HQC.o _).mono ?_
  rintro e w' ⟨hq, rfl⟩
  obtain ⟨m, hm1, hm2, zht, rfl⟩ := hq
  have m0 : ((m : Int) == 0) = false := by simp; omega
  obtain ⟨T, hT⟩ : ∃ T : ByteArray, T = ⟨said.toArray⟩ := ⟨_, rfl⟩
  have hTs : T.size = said.length := by rw [hT, Ha]
  rw [← hT]
  have HTT := Za hT
  have zhy := Za zht
  clear hT zht
  by_cases h256 : 256 < said.length
  ·have e1 := HRD.o
   rw [if_pos h256] at e1
   subst e1
   have h256I : (256 : Int) < (T.size : Int) := by omega
   clear hTs HRD
   go_wp2
   refine bodyPost_ret (Q0 rfl _ rfl (xL w _) underlying108 Q6) rfl ?_
   exact ⟨Zl w _, by decide, rfl⟩
  ·have e1 := HRD.o
   rw [if_neg h256] at e1
   subst e1
   have h256I : ¬ (256 : Int) < (T.size : Int) := by omega
   clear hTs HRD
   go_wp2
   refine bodyPost_ret (Q0 rfl _ rfl (xL w _) underlying108 Q6) rfl ?_
   exact ⟨Zl w _, m, by omega, hm2, zhy.o, by rw [HTT.o]; rfl⟩
theorem zgz (S : ByteArray) (h0 : 0 < S.size) (hS : S.size ≤ 65536) (hl : Y8 S[0] = false) (hd : Ye S[0] = false) (hq : ¬ S[0] = 34) (w : World) : Calls prog 114 #[.string S] w (B2 S w (Xc S.data.toList)) := by
 have hrd := Ml (k := 0) h0
 rw [List.drop_zero, hl, hd, if_neg (by decide), if_neg (by decide), if_neg hq] at hrd
 have hl0 := Ma S[0]
 have hd0 := P9 S[0]
 rw [hl] at hl0
 rw [hd] at hd0
 have HL0 := Za hl0
 have HD0 := Za hd0
 have hsc := zbz S h0 hS
 have hsl := L3 S.data.toList
 rw [Yp] at hsl
 obtain ⟨R, hR⟩ := xE (Xc S.data.toList)
 rw [← hR] at hrd ⊢
 have p1 : ((S[0].toNat : Int) == 34) = false := by
  rw [beq_eq_false_iff_ne]
  intro e
  exact hq (UInt8.toNat_inj.1 (by show S[0].toNat = 34; omega))
 have h0I : (0 : Int) < (S.size : Int) := by omega
 obtain ⟨n, hn⟩ := xE (Y7 S.data.toList)
 rw [← hn] at hsc hsl hrd
 have HSC := Za hsc
 have HRD := Za hrd
 have nI : (n : Int) ≤ (S.size : Int) := by omega
 clear hl0 hd0 hl hd hq hR hsc hrd hn
 go_enter func114, ntmps114
 go_wp2_with fail
 refine (HL0.o _).mono ?_
 rintro e w' ⟨rfl, rfl⟩
 go_wp2_with fail
 refine (HD0.o _).mono ?_
 rintro e w' ⟨rfl, rfl⟩
 go_wp2_with fail
 refine (HSC.o _).mono ?_
 rintro e w2 ⟨rfl, hb2⟩
 have htb := Ae hb2
 have HTB := Za htb
 have c0 := htb.c0
 have c1 := htb.c1
 have c2 := htb.c2
 have c3 := htb.c3
 have f0 := htb.fz 0
 have f1 := htb.fz 1
 have f2 := htb.fz 2
 have f3 := htb.fz 3
 have HB2 := Za (Zn (Zl w _) hb2)
 clear htb hb2
 by_cases hz : n = 0
 ·have e1 := HRD.o
  rw [if_pos hz] at e1
  subst e1
  have z1 : ((n : Int) == 0) = true := by rw [hz]; rfl
  clear HRD hz
  go_wp2
  refine bodyPost_ret (Q0 rfl _ rfl (HTB.o.set _ _ _ _) underlying108 Q6) rfl ?_
  exact ⟨Q3 HB2.o _ _ _ _, by decide, rfl⟩
 ·have e1 := HRD.o
  rw [if_neg hz, Nat.zero_add] at e1
  subst e1
  have z1 : ((n : Int) == 0) = false := by simp; omega
  have hn0 : 0 < n := by omega
  clear HRD hz
  go_wp2
  refine bodyPost_ret (Q0 rfl _ rfl (HTB.o.set _ _ _ _) underlying108 Q6) rfl ?_
  refine ⟨Q3 HB2.o _ _ _ _, n, hn0, hsl, rfl, ?_⟩
  rw [P8, List.drop_zero, Nat.sub_zero]
  rfl
theorem Eo (S : ByteArray) (h0 : 0 < S.size) (hS : S.size ≤ 65536) (w : World) : Calls prog 114 #[.string S] w (B2 S w (Xc S.data.toList)) := by
 cases hl : Y8 S[0]
 ·cases hd : Ye S[0]
  ·by_cases hq : S[0] = 34
   ·exact I7 S h0 hS hl hd hq w
   ·exact zgz S h0 hS hl hd hq w
  ·exact Oj S h0 hS hd w
 ·exact zff S h0 hS hl w
end Go.Proofs.YtbnjllkkhhkkaaaGreatDoor.Lx
namespace Go.Proofs.YtbnjllkkhhkkaaaGreatDoor.Lx
open Go.Proofs.Tryz
/-! What a token is. -/
def Ns (p : Nat × Nat) (b : UInt8) : Nat × Nat := if b = 10 then (p.1 + 1, 1) else (p.1, p.2 + 1)
def Ta (c : List UInt8) (p : Nat × Nat) : Nat × Nat := c.foldl Ns p
theorem Fl (c d : List UInt8) (p : Nat × Nat) : Ta (c ++ d) p = Ta d (Ta c p) := List.foldl_append ..
end Go.Proofs.YtbnjllkkhhkkaaaGreatDoor.Lx
