/- Part. -/
import Derived.Deep.LoopGhost
import Derived.Test.YtbnjllkkhhkkaaaGreatDoorPart3
set_option maxRecDepth 100000
set_option maxHeartbeats 4000000
namespace Go.Proofs.YtbnjllkkhhkkaaaGreatDoor
open Tryz
open Go.RowKit
theorem J2 (a b c d : Value) (w : World) : (Instr.field 108 (.agg #[a, b, c, d]) 0).run prog w = .ok a w := by simp [Instr.field, go_sem, asAgg]
theorem zde (a b c d : Value) (w : World) : (Instr.field 108 (.agg #[a, b, c, d]) 1).run prog w = .ok b w := by simp [Instr.field, go_sem, asAgg]
def Wx (t : Tok) (L : List (List UInt8)) : Int := if t.kind = 2 ∨ t.kind = 5 then T3 L t.text else -1
def Uz (w : World) (xb : Nat) (L : List (List UInt8)) : Prop := xb < w.heap.size ∧ ∀ i (h : i < L.length), w.cell? ⟨xb, i, none⟩ = some (.string ⟨L[i].toArray⟩)
theorem Uz.below {w w1 : World} {xb : Nat} {L : List (List UInt8)} (h : Uz w xb L) (hb : Below w.heap.size w w1) : Uz w1 xb L :=
 ⟨xT h.1 hb.size, fun i hi => (hb.cell (p := ⟨xb, i, none⟩) h.1).trans (h.2 i hi)⟩
theorem zbq (xb xc : Nat) (t : Tok) (L : List (List UInt8)) (pb : Nat) (w : World) (hpk : Calls prog 107 #[.pointer (some ⟨pb, 0, none⟩)] w fun e w' => e = .returned (Pu t) ∧ Below w.heap.size w w') (hL : Uz w xb L) (hl : L.length ≤ 100) :
  Calls prog 140 #[.pointer (some ⟨pb, 0, none⟩), .slice (some ⟨xb, 0, none⟩) L.length xc] w fun e w' => e = .returned (.int .i64 (Wx t L)) ∧ Below w.heap.size w w' := by
 have H := Za hpk
 have HL := Za hL
 clear hpk hL
 obtain ⟨k, x, li, co⟩ := t
 have HT := Za (fun w1 (hb1 : Below w.heap.size w w1) => zey xb xc L x w1 (HL.o.below hb1).2 hl)
 by_cases h2 : k = 2
 ·have n2 : (k != 2) = false := by simp [h2]
  have HW : xQ (Wx ⟨k, x, li, co⟩ L = T3 L x) := by rw [Wx, if_pos (.inl h2)]; exact rfl
  clear h2
  go_enter func140, ntmps140
  go_wp2_with fail
  refine H.o.mono ?_
  rintro e w1 ⟨rfl, hb1⟩
  have HB1 := Za hb1
  clear hb1
  go_wp2_with fail
  refine (HT.o _ (by first | exact Zn HB1.o (Zl _ _) | skip)).mono ?_
  rintro e w2 ⟨rfl, q, rfl⟩
  go_wp2_with fail
  go_ret
  refine ⟨by rw [HW.o]; rfl, ?_⟩
  exact below_drewN (Zn HB1.o (Zl _ _)) _
 ·by_cases h5 : k = 5
  ·have n2 : (k != 2) = true := by simp [h2]
   have n5 : (k != 5) = false := by simp [h5]
   have HW : xQ (Wx ⟨k, x, li, co⟩ L = T3 L x) := by rw [Wx, if_pos (.inr h5)]; exact rfl
   clear h2 h5
   go_enter func140, ntmps140
   go_wp2_with fail
   refine H.o.mono ?_
   rintro e w1 ⟨rfl, hb1⟩
   have HB1 := Za hb1
   clear hb1
   go_wp2_with fail
   refine (HT.o _ (by first | exact Zn HB1.o (Zl _ _) | skip)).mono ?_
   rintro e w2 ⟨rfl, q, rfl⟩
   go_wp2_with fail
   go_ret
   refine ⟨by rw [HW.o]; rfl, ?_⟩
   exact below_drewN (Zn HB1.o (Zl _ _)) _
  ·have n2 : (k != 2) = true := by simp [h2]
   have n5 : (k != 5) = true := by simp [h5]
   have HW : xQ (Wx ⟨k, x, li, co⟩ L = -1) := by rw [Wx, if_neg (by rintro (h | h); exact h2 h; exact h5 h)]; exact rfl
   clear h2 h5
   go_enter func140, ntmps140
   go_wp2_with fail
   refine H.o.mono ?_
   rintro e w1 ⟨rfl, hb1⟩
   have HB1 := Za hb1
   clear hb1
   go_wp2_with fail
   go_ret
   refine ⟨by rw [HW.o]; rfl, ?_⟩
   exact Zn HB1.o (Zl _ _)
theorem Dk (pb tb cap a xb xc : Nat) (ts : List Tok) (L : List (List UInt8)) (w : World) (h : Q4 w pb tb cap ts a) (hL : Uz w xb L) (hl : L.length ≤ 100) :
  Calls prog 140 #[.pointer (some ⟨pb, 0, none⟩), .slice (some ⟨xb, 0, none⟩) L.length xc] w fun e w' => e = .returned (.int .i64 (Wx (Zg ts a) L)) ∧ Below w.heap.size w w' :=
 zbq xb xc _ L pb w (Gc pb tb cap a ts w h) hL hl
theorem Ho (ts : List Tok) (a : Nat) (L : List (List UInt8)) : decide (0 ≤ Wx (Zg ts a) L) = L.any fun s => Zc ts a s := by
 unfold Wx Zc
 by_cases hk : (Zg ts a).kind = 2 ∨ (Zg ts a).kind = 5
 ·rw [if_pos hk]
  have hk' : ((Zg ts a).kind == 2 || (Zg ts a).kind == 5) = true := by rcases hk with h | h <;> simp [h]
  simp only [hk', Bool.true_and]
  cases he : L.any fun s => (Zg ts a).text == s with
  | true =>
   obtain ⟨s, hs, h2⟩ := List.any_eq_true.1 he
   have : (L.findIdx? (· == (Zg ts a).text)).isSome = true := by
    rw [List.findIdx?_isSome, List.any_eq_true]
    exact ⟨s, hs, by rw [beq_iff_eq.1 h2]; simp⟩
   obtain ⟨i, hi⟩ := Option.isSome_iff_exists.1 this
   rw [T3, hi]
   simp
  | false =>
   have : L.findIdx? (· == (Zg ts a).text) = none := List.findIdx?_eq_none_iff.2 fun x hx => by
    have := List.any_eq_false.1 he x hx
    exact beq_eq_false_iff_ne.2 fun e => this (by rw [e]; simp)
   rw [T3, this]
   simp
 ·rw [if_neg hk]
  have hk' : ((Zg ts a).kind == 2 || (Zg ts a).kind == 5) = false := by simpa using hk
  simp [hk']
theorem is_r (pb tb cap a xb xc : Nat) (ts : List Tok) (L : List (List UInt8)) (w : World) (h : Q4 w pb tb cap ts a) (hL : Uz w xb L) (hl : L.length ≤ 100) :
  Calls prog 83 #[.pointer (some ⟨pb, 0, none⟩), .slice (some ⟨xb, 0, none⟩) L.length xc] w fun e w' => e = .returned (.bool (L.any fun s => Zc ts a s)) ∧ Below w.heap.size w w' := by
 have HC := Za (Dk pb tb cap a xb xc ts L w h hL hl)
 clear h hL
 go_enter func83, ntmps83
 go_wp2_with fail
 refine HC.o.mono ?_
 rintro e w1 ⟨rfl, hb1⟩
 go_wp2_with fail
 go_ret
 exact ⟨congrArg (fun b => Ending.returned (.bool b)) (Ho ts a L), hb1⟩
theorem Mr (w : World) (L : List (List UInt8)) (t : TypeId) (xb : Nat) (hx : xb = w.heap.size) : Uz (w.alloc (.cells (L.map fun s => Value.string ⟨s.toArray⟩).toArray t)) xb L := by
 subst hx
 refine ⟨by simp, fun i hi => ?_⟩
 rw [cell_of_row _ _ _ _ _ _ (xL w _)]
 simp [hi]
theorem Y3 (pb tb cap a xb xc : Nat) (ts : List Tok) (L : List (List UInt8)) (w : World) (t : TypeId) (h : Q4 w pb tb cap ts a) (hx : xb = w.heap.size) (hl : L.length ≤ 100) :
  Calls prog 83 #[.pointer (some ⟨pb, 0, none⟩), .slice (some ⟨xb, 0, none⟩) L.length xc] (w.alloc (.cells (L.map fun s => Value.string ⟨s.toArray⟩).toArray t)) fun e w' => e = .returned (.bool (L.any fun s => Zc ts a s)) ∧ Below w.heap.size w w' :=
 (is_r pb tb cap a xb xc ts L _ (h.below (Zl _ _)) (Mr w L t xb hx) hl).mono fun _ _ ⟨h1, h2⟩ => ⟨h1, Zn (Zl _ _) h2⟩
theorem Gp (pb tb cap a xb xc : Nat) (ts : List Tok) (L : List (List UInt8)) (w : World) (t : TypeId) (h : Q4 w pb tb cap ts a) (hx : xb = w.heap.size) (hl : L.length ≤ 100) :
  Calls prog 140 #[.pointer (some ⟨pb, 0, none⟩), .slice (some ⟨xb, 0, none⟩) L.length xc] (w.alloc (.cells (L.map fun s => Value.string ⟨s.toArray⟩).toArray t)) fun e w' => e = .returned (.int .i64 (Wx (Zg ts a) L)) ∧ Below w.heap.size w w' :=
 (Dk pb tb cap a xb xc ts L _ (h.below (Zl _ _)) (Mr w L t xb hx) hl).mono fun _ _ ⟨h1, h2⟩ => ⟨h1, Zn (Zl _ _) h2⟩
theorem Xi (ts : List Tok) (a : Nat) (s : List UInt8) : ([s].any fun s => Zc ts a s) = Zc ts a s := by simp
theorem Xb (pb tb cap a d : Nat) (ts : List Tok) (s : List UInt8) (w : World) (h : Ps w pb tb cap ts a d) (ok : Z0 ts) :
  Calls prog 122 #[.pointer (some ⟨pb, 0, none⟩), .string ⟨s.toArray⟩] w fun e w' => e = .returned (.bool (Zc ts a s)) ∧ Zj pb w w' ∧ Ps w' pb tb cap ts (if Zc ts a s then a + 1 else a) d := by
 have H := Za h
 have OK := Za ok
 clear h ok
 cases hs : Zc ts a s with
 | true =>
  have HS := Za hs
  rw [if_pos rfl]
  clear hs
  go_enter func122, ntmps122
  go_wp2_with fail
  refine (Y3 pb tb cap a _ 1 ts [s] w _ H.o.rd rfl (by simp)).mono ?_
  rw [Xi, HS.o]
  rintro e w1 ⟨rfl, hb1⟩
  have P1 := Za (H.o.below hb1)
  have HB1 := Za hb1
  clear hb1
  go_wp2_with fail
  refine (V7 pb tb cap a d ts _ P1.o (Wz OK.o.ends H.o.lt HS.o) OK.o.len).mono ?_
  rintro e w2 ⟨rfl, hst, hps⟩
  have HP := Za hps
  have HST := Za hst
  clear hst hps
  go_wp2_with fail
  go_ret
  exact ⟨rfl, (Zj.of H.o.ltp HB1.o).trans HST.o, HP.o⟩
 | false =>
  have HS := Za hs
  rw [if_neg (by simp)]
  clear hs
  go_enter func122, ntmps122
  go_wp2_with fail
  refine (Y3 pb tb cap a _ 1 ts [s] w _ H.o.rd rfl (by simp)).mono ?_
  rw [Xi, HS.o]
  rintro e w1 ⟨rfl, hb1⟩
  have P1 := Za (H.o.below hb1)
  have HB1 := Za hb1
  clear hb1
  go_wp2_with fail
  go_ret
  exact ⟨rfl, Zj.of H.o.ltp HB1.o, P1.o⟩
abbrev Dc (t : Tok) (e : Int) : Ending := .returned (Vx t.line t.col e)
theorem Ry {w w2 : World} {T : Tok} {x0 x1 x2 x3 : Value} (h : w2.heap[w.heap.size]? = some (.cells #[x0, x1, x2, x3] 108)) :
  ((((w2.setCell ⟨w.heap.size, 0, none⟩ (.int .i64 T.kind)).setCell ⟨w.heap.size, 1, none⟩ (.string ⟨T.text.toArray⟩)).setCell ⟨w.heap.size, 2, none⟩ (.int .i64 T.line)).setCell ⟨w.heap.size, 3, none⟩ (.int .i64 T.col)).heap[w.heap.size]? = some (.cells #[.int .i64 T.kind, .string ⟨T.text.toArray⟩, .int .i64 T.line, .int .i64 T.col] 108) := set4 h _ _ _ _
theorem Xs {w w2 : World} {pb b : Nat} (h : Zj pb w w2) (hp : pb < w.heap.size) (hb : w.heap.size ≤ b) (x0 x1 x2 x3 : Value) : Zj pb w ((((w2.setCell ⟨b, 0, none⟩ x0).setCell ⟨b, 1, none⟩ x1).setCell ⟨b, 2, none⟩ x2).setCell ⟨b, 3, none⟩ x3) :=
 (((h.own hp hb 0 _).own hp hb 1 _).own hp hb 2 _).own hp hb 3 _
theorem V6 {w : World} {pb tb cap a d b : Nat} {ts : List Tok} (h : Ps w pb tb cap ts a d) (hb : pb < b) (x0 x1 x2 x3 : Value) : Ps ((((w.setCell ⟨b, 0, none⟩ x0).setCell ⟨b, 1, none⟩ x1).setCell ⟨b, 2, none⟩ x2).setCell ⟨b, 3, none⟩ x3) pb tb cap ts a d :=
 (((h.other hb 0 _).other hb 1 _).other hb 2 _).other hb 3 _
theorem Y6 (pb tb cap a d : Nat) (ts : List Tok) (s : List UInt8) (w : World) (h : Ps w pb tb cap ts a d) (ok : Z0 ts) :
  Calls prog 141 #[.pointer (some ⟨pb, 0, none⟩), .string ⟨s.toArray⟩] w (Zs pb tb cap ts d w (fun _ _ v _ => v = Pu (Zg ts a)) (Zb ts a s)) := by
 have H := Za h
 have OK := Za ok
 clear h ok
 unfold Zb
 cases hs : Zc ts a s with
 | true =>
  have HS := Za hs
  rw [if_pos rfl]
  clear hs
  go_enter func141, ntmps141
  go_wp2_with fail
  refine (Y3 pb tb cap a _ 1 ts [s] (w.alloc _) _ (H.o.alloc _).rd (by simp) (by simp)).mono ?_
  rw [Xi, HS.o]
  rintro e w1 ⟨rfl, hb1⟩
  have P1 := Za ((H.o.alloc _).below hb1)
  have HB1 := Za (Zn (Zl _ _) hb1)
  have HR := Za ((hb1.block w.heap.size (by simp)).trans (xL w _))
  clear hb1
  go_wp2_with fail
  refine (V7 pb tb cap a d ts _ P1.o (Wz OK.o.ends H.o.lt HS.o) OK.o.len).mono ?_
  rintro e w2 ⟨rfl, hst, hps⟩
  have hr := (hst.keep _ H.o.ltp (xB HR.o)).trans HR.o
  obtain ⟨⟨r0, r1, r2, r3⟩, ⟨f0, f1, f2, f3⟩, hr1⟩ := Zr hr
  have HR2 := Za hr
  have HP := Za hps
  have HST := Za ((Zj.of H.o.ltp HB1.o).trans hst)
  clear hst hps hr
  go_wp2_with fail
  refine bodyPost_ret (results_cell_row rfl _ _ w.heap.size 108 _ (0, 0) _ rfl (Ry HR2.o) underlying108 rfl (by kernel_rfl)) rfl ⟨?_, ?_, _, rfl, rfl⟩
  ·exact Xs HST.o H.o.ltp (xR) _ _ _ _
  ·exact V6 HP.o H.o.ltp _ _ _ _
 | false =>
  have HS := Za hs
  rw [if_neg (by simp)]
  clear hs
  go_enter func141, ntmps141
  go_wp2_with fail
  refine (Y3 pb tb cap a _ 1 ts [s] (w.alloc _) _ (H.o.alloc _).rd (by simp) (by simp)).mono ?_
  rw [Xi, HS.o]
  rintro e w1 ⟨rfl, hb1⟩
  have P1 := Za ((H.o.alloc _).below hb1)
  have HB1 := Za (Zn (Zl _ _) hb1)
  clear hb1
  go_wp2_with fail
  refine (M6 pb tb cap a d ts _ P1.o 7).mono ?_
  rintro e w2 ⟨rfl, hb2⟩
  have HB2 := Za (Zn HB1.o hb2)
  clear hb2
  go_wp2_with fail
  exact ⟨rfl, Zj.of H.o.ltp HB2.o, rfl⟩
theorem Ts (pb tb cap a d : Nat) (ts : List Tok) (w : World) (h : Ps w pb tb cap ts a d) (ok : Z0 ts) :
  Calls prog 142 #[.pointer (some ⟨pb, 0, none⟩)] w (Zs pb tb cap ts d w (fun _ _ v x => v = .string ⟨x.toArray⟩) (Zm ts a)) := by
 have H := Za h
 have OK := Za ok
 have HK := Za (Ul pb tb cap a d ts w h)
 have HP := Za (fun wx (hx : Ps wx pb tb cap ts a d) (hb : a + 1 < ts.length) => V7 pb tb cap a d ts wx hx hb ok.len)
 have HN : xQ ((Zg ts a).kind = 1 → a + 1 < ts.length) := fun e => ok.ends a h.lt (by rw [e]; decide)
 have HV : xQ (∀ wx (hx : Ps wx pb tb cap ts a d), Calls prog 108 #[.pointer (some ⟨pb, 0, none⟩), .int .i64 7] wx fun e w' => e = Dc (Zg ts a) 7 ∧ Below wx.heap.size wx w') := fun wx hx => M6 pb tb cap a d ts wx hx 7
 clear h ok
 unfold Zm Ys
 obtain ⟨t, ht⟩ := xE (Zg ts a)
 rw [← ht] at HK HP HV HN ⊢
 clear ht
 obtain ⟨k, x, li, co⟩ := t
 have hf0 := J2
 have hf1 := zde
 by_cases hk : k = 1
 ·have n1 : (k != 1) = false := by simp [hk]
  rw [if_pos (by simp [hk])]
  have HN1 := Za (HN.o hk)
  clear hk
  go_enter func142, ntmps142
  go_wp2_with fail
  refine HK.o.mono ?_
  rintro e w1 ⟨rfl, hb1⟩
  have HB1 := Za hb1
  clear hb1
  go_wp2_with fail
  refine (HP.o _ (by first | exact H.o.below HB1.o | exact (H.o.below HB1.o).alloc _) HN1.o).mono ?_
  rintro e w2 ⟨rfl, hst, hps⟩
  have HP2 := Za hps
  have HST := Za hst
  clear hst hps
  go_wp2_with fail
  go_ret
  exact ⟨(Zj.of H.o.ltp HB1.o).trans HST.o, HP2.o, _, rfl, rfl⟩
 ·have n1 : (k != 1) = true := by simp [hk]
  rw [if_neg (by simp [hk])]
  clear hk
  go_enter func142, ntmps142
  go_wp2_with fail
  refine HK.o.mono ?_
  rintro e w1 ⟨rfl, hb1⟩
  have HB1 := Za hb1
  clear hb1
  go_wp2_with fail
  refine (HV.o _ (H.o.below HB1.o)).mono ?_
  rintro e w2 ⟨rfl, hb2⟩
  have HB2 := Za (Zn HB1.o hb2)
  clear hb2
  go_wp2_with fail
  exact ⟨rfl, Zj.of H.o.ltp HB2.o, rfl⟩
theorem H4 (pb tb cap a d : Nat) (ts : List Tok) (w : World) (h : Ps w pb tb cap ts a d) :
  Calls prog 55 #[.pointer (some ⟨pb, 0, none⟩)] w (Zs pb tb cap ts d w (fun _ _ v _ => v = .tuple #[]) (if (Zg ts a).kind == 0 then .inl ((), a) else Ys ts 7 a : Pr Unit)) := by
 have H := Za h
 have HK := Za (Ul pb tb cap a d ts w h)
 have HV : xQ (∀ wx (hx : Ps wx pb tb cap ts a d), Calls prog 108 #[.pointer (some ⟨pb, 0, none⟩), .int .i64 7] wx fun e w' => e = Dc (Zg ts a) 7 ∧ Below wx.heap.size wx w') := fun wx hx => M6 pb tb cap a d ts wx hx 7
 clear h
 unfold Ys
 obtain ⟨t, ht⟩ := xE (Zg ts a)
 rw [← ht] at HK HV ⊢
 clear ht
 obtain ⟨k, x, li, co⟩ := t
 have hf0 := J2
 by_cases hk : k = 0
 ·have n1 : (k != 0) = false := by simp [hk]
  rw [if_pos (by simp [hk])]
  clear hk
  go_enter func55, ntmps55
  go_wp2_with fail
  refine HK.o.mono ?_
  rintro e w1 ⟨rfl, hb1⟩
  have HB1 := Za hb1
  clear hb1
  go_wp2_with fail
  go_end0
  exact ⟨Zj.of H.o.ltp HB1.o, H.o.below HB1.o, _, rfl, rfl⟩
 ·have n1 : (k != 0) = true := by simp [hk]
  rw [if_neg (by simp [hk])]
  clear hk
  go_enter func55, ntmps55
  go_wp2_with fail
  refine HK.o.mono ?_
  rintro e w1 ⟨rfl, hb1⟩
  have HB1 := Za hb1
  clear hb1
  go_wp2_with fail
  refine (HV.o _ (H.o.below HB1.o)).mono ?_
  rintro e w2 ⟨rfl, hb2⟩
  have HB2 := Za (Zn HB1.o hb2)
  clear hb2
  go_wp2_with fail
  exact ⟨rfl, Zj.of H.o.ltp HB2.o, rfl⟩
def Qx (ts : List Tok) (a : Nat) (f s : List UInt8) : Pr Bool := if Zc ts a f then .inl (true, a + 1) else (Zb ts a s).go fun _ b => .inl (false, b)
theorem S3 (pb tb cap a d : Nat) (ts : List Tok) (f s : List UInt8) (w : World) (h : Ps w pb tb cap ts a d) (ok : Z0 ts) :
  Calls prog 208 #[.pointer (some ⟨pb, 0, none⟩), .string ⟨f.toArray⟩, .string ⟨s.toArray⟩] w (Zs pb tb cap ts d w (fun _ _ v b => v = .bool b) (Qx ts a f s)) := by
 have H := Za h
 have HT := Za (Xb pb tb cap a d ts f w h ok)
 have HM := Za (fun wx (hx : Ps wx pb tb cap ts a d) => Y6 pb tb cap a d ts s wx hx ok)
 clear h ok
 unfold Qx
 cases hs : Zc ts a f with
 | true =>
  rw [if_pos rfl]
  rw [hs, if_pos rfl] at HT
  clear hs
  go_enter func208, ntmps208
  go_wp2_with fail
  refine HT.o.mono ?_
  rintro e w1 ⟨rfl, hst, hps⟩
  have HST := Za hst
  have HP := Za hps
  clear hst hps
  go_wp2_with fail
  go_ret
  exact ⟨HST.o, HP.o, _, rfl, rfl⟩
 | false =>
  rw [if_neg (by simp)]
  rw [hs, if_neg (by simp)] at HT
  clear hs
  cases hw : Zb ts a s with
  | inl x =>
   obtain ⟨_, b⟩ := x
   rw [hw] at HM
   clear hw
   go_enter func208, ntmps208
   go_wp2_with fail
   refine HT.o.mono ?_
   rintro e w1 ⟨rfl, hst, hps⟩
   have HST := Za hst
   have HP := Za hps
   clear hst hps
   go_wp2_with fail
   refine (HM.o _ HP.o).mono ?_
   rintro e w2 ⟨hst, hps, v, rfl, hv⟩
   have HST2 := Za (HST.o.trans hst)
   have HP2 := Za hps
   clear hst hps
   go_wp2_with fail
   go_ret
   exact ⟨HST2.o, HP2.o, _, rfl, rfl⟩
  | inr x =>
   obtain ⟨er, li, co⟩ := x
   rw [hw] at HM
   clear hw
   go_enter func208, ntmps208
   go_wp2_with fail
   refine HT.o.mono ?_
   rintro e w1 ⟨rfl, hst, hps⟩
   have HST := Za hst
   have HP := Za hps
   clear hst hps
   go_wp2_with fail
   refine (HM.o _ HP.o).mono ?_
   rintro e w2 ⟨hst, rfl⟩
   have HST2 := Za (HST.o.trans hst)
   clear hst
   go_wp2_with fail
   exact ⟨rfl, HST2.o, rfl⟩
theorem rd_new {w1 : World} {pb tb cap a d : Nat} {ts : List Tok} (h : Ps w1 pb tb cap ts a d) (hn : a + 1 < ts.length) :
  Q4 ((w1.alloc (.cells #[.slice (some ⟨tb, 0, none⟩) ts.length cap, .int .i64 ((a : Int) + 1)] 101)).drew) w1.heap.size tb cap ts (a + 1) where
 c0 := by show (w1.alloc _).cell? _ = _; rw [cell_of_row _ _ _ _ _ _ (xL w1 _)]; rfl
 c1 := by show (w1.alloc _).cell? _ = _; rw [cell_of_row _ _ _ _ _ _ (xL w1 _)]; rfl
 ltp := by simp
 tlt := by have := h.rd.tlt; simp; omega
 toks := Wj h.toks (xA h.rd.tlt)
 lt := hn
theorem Gg (pb tb cap a d : Nat) (ts : List Tok) (w : World) (h : Ps w pb tb cap ts a d) (ok : Z0 ts) :
  Calls prog 232 #[.pointer (some ⟨pb, 0, none⟩)] w fun e w' => e = .returned (.bool ((Zg ts a).kind == 1 && Zc ts (a + 1) [58])) ∧ Below w.heap.size w w' := by
 have H := Za h
 have OK := Za ok
 have HK := Za (Ul pb tb cap a d ts w h)
 have HN : xQ ((Zg ts a).kind = 1 → a + 1 < ts.length) := fun e => ok.ends a h.lt (by rw [e]; decide)
 clear h ok
 obtain ⟨t, ht⟩ := xE (Zg ts a)
 rw [← ht] at HK HN ⊢
 clear ht
 obtain ⟨k, x, li, co⟩ := t
 have hf0 := J2
 by_cases hk : k = 1
 ·have n1 : (k != 1) = false := by simp [hk]
  have e1 : (k == 1) = true := by simp [hk]
  have HN1 := Za (HN.o hk)
  clear hk
  rw [e1, Bool.true_and]
  go_enter func232, ntmps232
  go_wp2_with fail
  refine HK.o.mono ?_
  rintro e w1 ⟨rfl, hb1⟩
  have P1 := Za (H.o.below hb1)
  have HB1 := Za hb1
  obtain ⟨c0, c1, c2⟩ := P1.o.cells
  have hp1 := P1.o.ltp
  have ha : a ≤ 8193 := by have := OK.o.len; have := H.o.lt; omega
  clear hb1
  go_wp2_with fail
  go_region
  all_goals
   go_wp2_with fail
   refine (Y3 w1.heap.size tb cap (a + 1) _ 1 ts [[58]] _ _ (rd_new P1.o HN1.o) (by simp) (by simp)).mono ?_
   rw [Xi]
   rintro e w2 ⟨rfl, hb2⟩
   have HB2 := Za hb2
   clear hb2
   go_wp2_with fail
   go_ret
   exact ⟨rfl, Zn HB1.o (Zn (Zl _ _).drew HB2.o)⟩
 ·have n1 : (k != 1) = true := by simp [hk]
  have e1 : (k == 1) = false := by simp [hk]
  clear hk
  rw [e1, Bool.false_and]
  go_enter func232, ntmps232
  go_wp2_with fail
  refine HK.o.mono ?_
  rintro e w1 ⟨rfl, hb1⟩
  have HB1 := Za hb1
  clear hb1
  go_wp2_with fail
  go_ret
  exact ⟨rfl, HB1.o⟩
structure Qj {α : Type} (rep : Nat → World → List Value → α → Prop) : Prop where
 keep : ∀ {lo w w' c x}, rep lo w c x → w.heap.size ≤ w'.heap.size → (∀ b, lo ≤ b → b < w.heap.size → w'.heap[b]? = w.heap[b]?) → rep lo w' c x
 lower : ∀ {lo lo' w c x}, rep lo w c x → lo' ≤ lo → rep lo' w c x
section
variable {α : Type} {rep : Nat → World → List Value → α → Prop} {B et k pb : Nat} {w wx wy w4 : World} {v v' : Value} {cs : List (List Value)} {xs : List α} {c : List Value} {x : α} {g : Option Nat} {lo : Nat}
def Xg (rep : Nat → World → List Value → α → Prop) (B : Nat) (G : Nat → Prop) (wx : World) (c : List Value) (x : α) : Prop :=
 ∃ wi lo, rep lo wi c x ∧ B ≤ lo ∧ wi.heap.size ≤ wx.heap.size ∧ (∀ b, lo ≤ b → b < wi.heap.size → wx.heap[b]? = wi.heap[b]?) ∧ ∀ k, G k → k < lo ∨ wi.heap.size ≤ k
theorem Xg.now {G : Nat → Prop} (h : Xg rep B G wx c x) (hk : Qj rep) : rep B wx c x := by
 obtain ⟨wi, lo, h1, h2, h3, h4, _⟩ := h
 exact hk.lower (hk.keep h1 h3 h4) h2
theorem Xg.stay {G : Nat → Prop} (h : Xg rep B G wx c x) (hs : Zj pb wx wy) (hp : pb < B) : Xg rep B G wy c x := by
 obtain ⟨wi, lo, h1, h2, h3, h4, h5⟩ := h
 exact ⟨wi, lo, h1, h2, Nat.le_trans h3 hs.size, fun b hb hl => (hs.keep b (by omega) (by omega)).trans (h4 b hb hl), h5⟩
theorem Xg.grown {G G' : Nat → Prop} (h : Xg rep B G wx c x) (hg : wx.grownBy w4 g) (hgG : ∀ q, g = some q → G q) (hl : ∀ q, G' q → G q ∨ wx.heap.size ≤ q) : Xg rep B G' w4 c x := by
 obtain ⟨wi, lo, h1, h2, h3, h4, h5⟩ := h
 refine ⟨wi, lo, h1, h2, Nat.le_trans h3 hg.size, fun b hb hl => (hg.block b (by omega) ?_).trans (h4 b hb hl), fun k hk => ?_⟩
 ·intro e
  rcases h5 b (hgG b e.symm) with h | h <;> omega
 ·rcases hl k hk with h | h
  ·exact h5 k h
  ·exact .inr (by omega)
theorem Xg.new {G : Nat → Prop} (h : rep lo wx c x) (hB : B ≤ lo) (hg : ∀ k, G k → k < lo) : Xg rep B G wx c x := ⟨wx, lo, h, hB, xR, fun _ _ _ => rfl, fun k hk => .inl (hg k hk)⟩
structure Z8 (rep : Nat → World → List Value → α → Prop) (B et k : Nat) (o : Option Nat) (wx : World) (v : Value) (cs : List (List Value)) (xs : List α) : Prop where
 len : cs.length = xs.length
 each : ∀ c ∈ cs, c.length = k
 ow : wx.ownsRow B et k v xs.length cs.flatten
 apart : ∀ q, v.ownBlock = some q → o ≠ some q
 olt : ∀ q, o = some q → B ≤ q ∧ q < wx.heap.size
 made : ∀ i (h1 : i < cs.length) (h2 : i < xs.length), Xg rep B (fun q => v.ownBlock = some q ∨ o = some q) wx cs[i] xs[i]
theorem T0 (rep : Nat → World → List Value → α → Prop) (B et k : Nat) (w : World) : Z8 rep B et k none w (.slice none 0 0) [] [] :=
 ⟨rfl, (fun _ h => nomatch h), World.ownsRow_nil _ _ _ _, (fun _ h => nomatch h), (fun _ h => nomatch h), (fun _ h _ => nomatch h)⟩
variable {o o' : Option Nat}
theorem Z8.own (h : Z8 rep B et k o wx v cs xs) : ∀ q, v.ownBlock = some q → B ≤ q ∧ q < wx.heap.size := h.ow.lt
theorem Z8.all (h : Z8 rep B et k o wx v cs xs) : ∀ q, v.ownBlock = some q ∨ o = some q → q < wx.heap.size := fun q hq => hq.elim (fun e => (h.own q e).2) fun e => (h.olt q e).2
theorem Z8.stay (h : Z8 rep B et k o wx v cs xs) (hs : Zj pb wx wy) (hp : pb < B) : Z8 rep B et k o wy v cs xs := by
 refine ⟨h.len, h.each, ?_, h.apart, fun q hq => ⟨(h.olt q hq).1, xT (h.olt q hq).2 hs.size⟩, fun i h1 h2 => (h.made i h1 h2).stay hs hp⟩
 obtain ⟨o1, o2⟩ := h.ow
 refine ⟨o1, ?_⟩
 rcases o2 with o2 | ⟨g, cap, cur, e, hg, hh, r⟩
 ·exact .inl o2
 ·exact .inr ⟨g, cap, cur, e, hg, (hs.keep g (by omega) (xB hh)).trans hh, r⟩
theorem Z8.beside (h : Z8 rep B et k o wx v cs xs) (hg : wx.grownBy w4 o) (hl : o' = o ∨ ∃ q, o' = some q ∧ wx.heap.size ≤ q ∧ q < w4.heap.size) (hB : B ≤ wx.heap.size) : Z8 rep B et k o' w4 v cs xs := by
 refine ⟨h.len, h.each, h.ow.kept hg ?_, fun q hq e => ?_, fun q hq => ?_, fun i h1 h2 => (h.made i h1 h2).grown hg (fun q hq => .inr hq) fun q hq => ?_⟩
 ·cases hv : v.ownBlock with
  | none => exact .inl rfl
  | some q => exact .inr fun e => h.apart q hv e.symm
 ·rcases hl with rfl | ⟨r, rfl, hr, _⟩
  ·exact h.apart q hq e
  ·injection e with e
   have := (h.own q hq).2
   omega
 ·rcases hl with rfl | ⟨r, rfl, hr, hr2⟩
  ·exact ⟨(h.olt q hq).1, xT (h.olt q hq).2 hg.size⟩
  ·injection hq with hq
   exact ⟨by omega, by omega⟩
 ·rcases hq with hq | hq
  ·exact .inl (.inl hq)
  ·rcases hl with rfl | ⟨r, rfl, hr, _⟩
   ·exact .inl (.inr hq)
   ·injection hq with hq
    exact .inr (by omega)
theorem Z8.put (h : Z8 rep B et k o wx v cs xs) (hw : w4.ownsRow B et k v' (xs.length + 1) (cs.flatten ++ c)) (hg : wy.grownBy w4 v.ownBlock) (hl' : v'.ownBlock = v.ownBlock ∨ ∃ k, v'.ownBlock = some k ∧ wy.heap.size ≤ k)
  (hxy : Zj pb wx wy) (hp : pb < B) (hc : c.length = k) (hm : Xg rep B (fun q => v.ownBlock = some q ∨ o = some q) wy c x) : Z8 rep B et k o w4 v' (cs ++ [c]) (xs ++ [x]) := by
 have hG : ∀ q, v'.ownBlock = some q ∨ o = some q → (v.ownBlock = some q ∨ o = some q) ∨ wy.heap.size ≤ q := by
  intro q hq
  rcases hq with hq | hq
  ·rcases hl' with e | ⟨r, e, hr⟩
   ·exact .inl (.inl (e ▸ hq))
   ·rw [e] at hq
    injection hq with hq
    exact .inr (by omega)
  ·exact .inl (.inr hq)
 refine ⟨by simp [h.len], ?_, ?_, fun q hq e => ?_, fun q hq => ⟨(h.olt q hq).1, ?_⟩, fun i h1 h2 => ?_⟩
 ·intro y hy
  rcases List.mem_append.1 hy with hy | hy
  ·exact h.each y hy
  ·rw [List.mem_singleton.1 hy]
   exact hc
 ·rw [List.length_append, List.flatten_append]
  simpa using hw
 ·rcases hl' with e' | ⟨r, e', hr⟩
  ·exact h.apart q (e' ▸ hq) e
  ·rw [e'] at hq
   injection hq with hq
   have := (h.olt q e).2
   have := hxy.size
   omega
 ·have := (h.olt q hq).2
  have := hxy.size
  have := hg.size
  omega
 ·by_cases hi : i < cs.length
  ·rw [List.getElem_append_left hi, List.getElem_append_left (by rw [← h.len]; exact hi)]
   exact ((h.made i hi (by rw [← h.len]; exact hi)).stay hxy hp).grown hg (fun q hq => .inl hq) hG
  ·have hi' : i = cs.length := by simp at h1; omega
   have e1 : (cs ++ [c])[i] = c := by
    rw [List.getElem_append_right (by omega)]
    simp
   have e2 : (xs ++ [x])[i] = x := by
    rw [List.getElem_append_right (by rw [← h.len]; omega)]
    simp
   rw [e1, e2]
   exact hm.grown hg (fun q hq => .inl hq) hG
theorem Zj.grown {w : World} (h : Zj pb w wx) (hg : wx.grownBy w4 g) (hp : pb < w.heap.size) (hr : ∀ k, g = some k → w.heap.size ≤ k) : Zj pb w w4 where
 below := h.below.grown hg (by have := h.size; omega) fun k hk => by have := hr k hk; omega
 keep := fun b hb hl => (hg.block b (by have := h.size; omega) (fun e => by have := hr b e.symm; omega)).trans (h.keep b hb hl)
theorem Ps.grown {tb cap a d : Nat} {ts : List Tok} (h : Ps wx pb tb cap ts a d) (hg : wx.grownBy w4 g) (hr : ∀ k, g = some k → pb < k) : Ps w4 pb tb cap ts a d :=
 ⟨(hg.block _ h.ltp (fun e => by have := hr _ e.symm; omega)).trans h.blk, h.tlt, Wj h.toks (hg.block _ (Nat.lt_trans h.tlt h.ltp) (fun e => by have := hr _ e.symm; have := h.tlt; omega)), h.lt⟩
theorem Mp (h : rep lo wx c x) (hB : B ≤ lo) (hBw : B ≤ wx.heap.size) (hc : c.length = k) : Z8 rep B et k none (wx.alloc (.cells c.toArray et)) (.slice (some ⟨wx.heap.size, 0, none⟩) 1 1) [c] [x] := by
 refine ⟨rfl, fun y hy => by rw [List.mem_singleton.1 hy]; exact hc, ⟨by simp [hc], .inr ⟨_, 1, c.toArray, rfl, hBw, xL _ _, xR, by unfold maxLen; omega, by simp [hc], by simp [← hc]⟩⟩, (fun _ _ h => nomatch h), (fun _ h => nomatch h), fun i h1 h2 => ?_⟩
 have hi : i = 0 := by simp at h1; exact h1
 subst hi
 exact ⟨wx, lo, h, hB, by simp, fun b _ hl => xA hl, fun q hq => by
  rcases hq with hq | hq
  ·simp [Value.ownBlock] at hq
   exact .inr (by omega)
  ·cases hq⟩
theorem Vb {n z : Nat} {ys : List Value} (h : wx.ownsRow B et z v n ys) : ∃ a cap, v = .slice a n cap := by
 rcases h.2 with ⟨h1, h2⟩ | ⟨g, cap, cur, h1, _⟩
 ·exact ⟨none, 0, by rw [h1, h2]⟩
 ·exact ⟨_, _, h1⟩
theorem Uq (W : World) (c : List Value) (t : TypeId) : ∀ j u, c[j]? = some u → (W.alloc (.cells c.toArray t)).cell? ((⟨W.heap.size, 0, none⟩ : Addr).add j) = some u := by
 intro j u hj
 have hadd : (⟨W.heap.size, 0, none⟩ : Addr).add j = ⟨W.heap.size, j, none⟩ := by unfold Addr.add; split <;> simp_all
 rw [hadd, cell_of_row _ _ j _ t (0, 0) (xL W _)]
 simpa using hj
theorem Lt : ∀ (cs : List (List Value)), (∀ c ∈ cs, c.length = k) → ∀ (i : Nat) (hi : i < cs.length) (j : Nat), j < k → cs.flatten[i * k + j]? = cs[i][j]?
 | [], _, _, hi, _, _ => by cases hi
 | c :: cs, h, 0, _, j, hj => by
  rw [List.flatten_cons, List.getElem?_append_left (by rw [h c (xM ..)]; omega)]
  simp
 | c :: cs, h, i + 1, hi, j, hj => by
  have hc := h c (xM ..)
  have e : (i + 1) * k + j = k + (i * k + j) := by rw [Nat.add_mul, Nat.one_mul]; omega
  rw [List.flatten_cons, List.getElem?_append_right (by rw [hc, e]; omega), hc, e, Nat.add_sub_cancel_left]
  exact Lt cs (fun c hc => h c (xW _ hc)) i (by simpa using hi) j hj
theorem Z8.form (h : Z8 rep B et k o wx v cs xs) (hk : Qj rep) : ∃ (a : Option Addr) (cap : Nat), v = .slice a xs.length cap ∧ xs.length ≤ cap ∧ (xs = [] ∨ ∃ g, a = some ⟨g, 0, none⟩ ∧ B ≤ g ∧ V5 wx g ∧
  ∀ i (hi : i < xs.length), ∃ c : List Value, c.length = k ∧ (∀ j, j < k → wx.cell? ⟨g, i * k + j, none⟩ = c[j]?) ∧ rep B wx c xs[i]) := by
 rcases h.ow.2 with ⟨rfl, h0⟩ | ⟨g, cap, cur, rfl, hg, hh, hcap, _, _, hcur⟩
 ·exact ⟨none, 0, by rw [h0], by omega, .inl (List.length_eq_zero_iff.1 h0)⟩
 ·refine ⟨_, cap, rfl, hcap, .inr ⟨g, rfl, hg, ⟨_, _, hh⟩, fun i hi => ?_⟩⟩
  have hi' : i < cs.length := by rw [h.len]; exact hi
  refine ⟨cs[i], h.each _ (List.getElem_mem hi'), fun j hj => ?_, (h.made i hi' hi).now hk⟩
  have hlt : i * k + j < xs.length * k := by
   have : (i + 1) * k ≤ xs.length * k := Nat.mul_le_mul_right _ hi
   rw [Nat.add_mul, Nat.one_mul] at this
   omega
  rw [h.ow.cellAt (i * k + j) hlt]
  exact Lt cs h.each i hi' j hj
end
def Zt (lo : Nat) (w : World) (v : Value) (D : Ty) : Prop := ∃ m, Uh w lo m v D
def V3 (lo : Nat) (w : World) (c : List Value) (D : Ty) : Prop := Zt lo w (.agg c.toArray) D
theorem K3 : Qj V3 where
 keep := fun ⟨m, h⟩ hs hk => ⟨m, Kr h hs hk⟩
 lower := fun ⟨m, h⟩ hl => ⟨m, Hb h hl⟩
theorem Zt.cells {lo : Nat} {w : World} {v : Value} {D : Ty} (h : Zt lo w v D) : ∃ (k : Int) (nm : ByteArray) (na : Option Addr) (nl nc : Nat) (ka : Option Addr) (kl kc : Nat), v = .agg #[.int .i64 k, .string nm, .slice na nl nc, .slice ka kl kc] := by
 obtain ⟨m, h⟩ := h
 obtain ⟨k, nm, na, nl, nc, ka, kl, kc, e, _⟩ := Rf h
 exact ⟨k, nm, na, nl, nc, ka, kl, kc, e⟩
theorem Sz {lo : Nat} {w : World} : ∀ (l : List (Value × Ty)), (∀ p ∈ l, Zt lo w p.1 p.2) → ∃ m, ∀ p ∈ l, Uh w lo m p.1 p.2
 | [], _ => ⟨0, fun _ h => nomatch h⟩
 | p :: l, h => by
  obtain ⟨m1, h1⟩ := h p (xM ..)
  obtain ⟨m2, h2⟩ := Sz l fun q hq => h q (xW _ hq)
  refine ⟨max m1 m2, fun q hq => ?_⟩
  rcases List.mem_cons.1 hq with rfl | hq
  ·exact Pw h1 (Nat.le_max_left _ _)
  ·exact Pw (h2 q hq) (Nat.le_max_right _ _)
theorem Py {B et : Nat} {wx : World} {v : Value} {cs : List (List Value)} {xs : List Ty} {o : Option Nat} (h : Z8 V3 B et 4 o wx v cs xs) : ∃ (a : Option Addr) (cap m : Nat), v = .slice a xs.length cap ∧ xs.length ≤ cap ∧ Xw wx B m a xs := by
 obtain ⟨a, cap, e, hcap, hr⟩ := h.form K3
 have hall : ∀ p ∈ (cs.map fun c => (Value.agg c.toArray)).zip xs, Zt B wx p.1 p.2 := by
  intro p hp
  obtain ⟨i, hi, rfl⟩ := List.mem_iff_getElem.1 hp
  simp only [List.getElem_zip, List.getElem_map]
  simp only [List.length_zip, List.length_map] at hi
  exact (h.made i (by omega) (by omega)).now K3
 obtain ⟨m, hm⟩ := Sz _ hall
 refine ⟨a, cap, m, e, hcap, ?_⟩
 rcases h.ow.2 with ⟨e2, h0⟩ | ⟨g, cap2, cur, e2, hg, hh, _⟩
 ·exact .inl (List.length_eq_zero_iff.1 h0)
 ·rw [e] at e2
  injection e2 with e3 e4 e5
  refine .inr ⟨g, 0, e3, hg, ⟨_, _, hh⟩, fun i hi => ?_⟩
  have hi' : i < cs.length := by rw [h.len]; exact hi
  have hc4 := h.each _ (List.getElem_mem hi')
  have hT : Uh wx B m (.agg cs[i].toArray) xs[i] := by
   refine hm (.agg cs[i].toArray, xs[i]) (List.mem_iff_getElem.2 ⟨i, by simp; omega, by simp⟩)
  have zhq : ∀ j, j < 4 → wx.cell? ⟨g, 0 + i * 4 + j, none⟩ = cs[i][j]? := by
   intro j hj
   have ho := h.ow
   rw [e, e3] at ho
   rw [show 0 + i * 4 + j = i * 4 + j by omega, ho.cellAt (i * 4 + j) (by omega)]
   exact Lt cs h.each i hi' j hj
  match hcs : cs[i], hc4 with
  | [c0, c1, c2, c3], _ =>
   rw [hcs] at zhq hT
   exact ⟨c0, c1, c2, c3, zhq 0 (by omega), zhq 1 (by omega), zhq 2 (by omega), zhq 3 (by omega), hT⟩
def Tk {α : Type} (ts : List Tok) (one : Nat → Pr α) (sep : List UInt8) (R : Pr (List α)) (acc : List α) (f a : Nat) : Prop :=
 R = if Zc ts a sep then (Z1 ts one sep f (a + 1)).go fun l b => .inl (acc ++ l, b) else .inl (acc, a)
theorem Km {α : Type} {ts : List Tok} {one : Nat → Pr α} {sep : List UInt8} {f a b : Nat} {x : α} (h : one a = .inl (x, b)) : Tk ts one sep (Z1 ts one sep (f + 1) a) [x] f b := by
 unfold Tk
 rw [Z1, h]
 rfl
theorem Ks {α : Type} {ts : List Tok} {one : Nat → Pr α} {sep : List UInt8} {f a : Nat} {e : Int × Nat × Nat} (h : one a = .inr e) : Z1 ts one sep (f + 1) a = .inr e := by
 rw [Z1, h]
 rfl
theorem Kv {α : Type} {ts : List Tok} {one : Nat → Pr α} {sep : List UInt8} {R : Pr (List α)} {acc : List α} {f a b : Nat} {x : α} (h : Tk ts one sep R acc (f + 1) a) (hs : Zc ts a sep = true) (ho : one (a + 1) = .inl (x, b)) : Tk ts one sep R (acc ++ [x]) f b := by
 unfold Tk at h ⊢
 rw [h, if_pos hs, Z1, ho]
 show Pr.go (Pr.go (.inl (x, b)) _) _ = _
 unfold Pr.go
 by_cases hb : Zc ts b sep = true
 ·rw [if_pos hb]
  simp only [hb, if_true]
  cases Z1 ts one sep f (b + 1) with
  | inl p => simp
  | inr e => rfl
 ·simp only [hb]
  simp
theorem Ka {α : Type} {ts : List Tok} {one : Nat → Pr α} {sep : List UInt8} {R : Pr (List α)} {acc : List α} {f a : Nat} {e : Int × Nat × Nat} (h : Tk ts one sep R acc (f + 1) a) (hs : Zc ts a sep = true) (ho : one (a + 1) = .inr e) : R = .inr e := by
 unfold Tk at h
 rw [h, if_pos hs, Z1, ho]
 rfl
theorem Kj {α : Type} {ts : List Tok} {one : Nat → Pr α} {sep : List UInt8} {R : Pr (List α)} {acc : List α} {f a : Nat} (h : Tk ts one sep R acc f a) (hs : Zc ts a sep = false) : R = .inl (acc, a) := by
 unfold Tk at h
 rw [h, if_neg (by simp [hs])]
abbrev V1 (g pb : Nat) : Prop := ∀ w, (callFunc g #[.pointer (some ⟨pb, 0, none⟩)]).run prog w = .ok (.enter g #[.pointer (some ⟨pb, 0, none⟩)]) w
def TysE (lo : Nat) (w : World) (v : Value) (xs : List Ty) : Prop := ∃ cs, Z8 V3 lo 36 4 none w v cs xs
structure Yg {α : Type} (pb tb cap d : Nat) (ts : List Tok) (rep : Nat → World → Value → α → Prop) (g : Nat) (one : Nat → Pr α) : Prop where
 calls : ∀ a w, Ps w pb tb cap ts a d → Calls prog g #[.pointer (some ⟨pb, 0, none⟩)] w (Zs pb tb cap ts d w rep (one a))
 enters : V1 g pb
 up : ∀ a x b, one a = .inl (x, b) → a ≤ b
theorem At (pb tb cap d : Nat) (ts : List Tok) (sep : List UInt8) (g : Nat) (one : Nat → Pr Ty) (hg : Yg pb tb cap d ts Zt g one)
  (f a : Nat) (hf : ts.length ≤ a + (f + 1)) (w : World) (h : Ps w pb tb cap ts a d) (ok : Z0 ts) :
  Calls prog 179 #[.pointer (some ⟨pb, 0, none⟩), .string ⟨sep.toArray⟩, .func (.func g) #[] #[]] w (Zs pb tb cap ts d w TysE (Z1 ts one sep (f + 1) a)) := by
 have H := Za h
 have OK := Za ok
 have HG := Za hg
 have hen := hg.enters
 clear h ok hg
 have HO := Za (HG.o.calls a w H.o)
 have HF := Za hf
 clear hf
 cases ho : one a with
 | inr x =>
  obtain ⟨er, li, co⟩ := x
  rw [Ks ho]
  rw [ho] at HO
  clear ho
  go_enter func179, ntmps179
  go_wp2_with fail
  refine HO.o.mono ?_
  rintro e w1 ⟨hst, rfl⟩
  have HST := Za hst
  clear hst
  go_wp2_with fail
  exact ⟨rfl, HST.o, rfl⟩
 | inl x =>
  obtain ⟨D0, a1⟩ := x
  have HM := Za (Km (ts := ts) (sep := sep) (f := f) ho)
  have HU := Za (HG.o.up _ _ _ ho)
  rw [ho] at HO
  clear ho
  obtain ⟨R, hR⟩ := xE (Z1 ts one sep (f + 1) a)
  rw [← hR] at HM ⊢
  clear hR
  obtain ⟨i0, hi, hz0, hz1, hz2⟩ := info_parts Nh
  go_enter func179, ntmps179
  go_wp2_with fail
  refine HO.o.mono ?_
  rintro e w1 ⟨hst, hps, v, rfl, hv⟩
  obtain ⟨k1, nm1, na1, nl1, nc1, ka1, kl1, kc1, rfl⟩ := hv.cells
  have HR1 := Za (Mp (B := w.heap.size) (et := 36) (k := 4) (rep := V3) (c := [.int .i64 k1, .string nm1, .slice na1 nl1 nc1, .slice ka1 kl1 kc1]) hv (xR) hst.size rfl)
  have HST := Za (hst.alloc H.o.ltp (.cells #[.int .i64 k1, .string nm1, .slice na1 nl1 nc1, .slice ka1 kl1 kc1] 36))
  have HP := Za (hps.alloc (.cells #[.int .i64 k1, .string nm1, .slice na1 nl1 nc1, .slice ka1 kl1 kc1] 36))
  clear hst hps hv
  have HL0 : xQ (ts.length ≤ a1 + (f + 1)) := by have := HF.o; have := HU.o; show _ ≤ _; omega
  go_wp2_with fail
  go_loopg [7] (ts.length - a1) (fun gk s wr => ∃ (b m : Nat) (cs : List (List Value)) (acc : List Ty), xQ (Z8 V3 w.heap.size 36 4 none wr s cs acc) ∧ xQ (Zj pb w wr) ∧ xQ (Ps wr pb tb cap ts b d) ∧ xQ (Tk ts one sep R acc m b) ∧ xQ (ts.length ≤ b + (m + 1)) ∧ xQ (acc.length ≤ b + 1) ∧ ts.length - b ≤ gk)
  case atStart => exact ⟨a1, f, _, _, HR1, HST, HP, HM, HL0, (show 1 ≤ a1 + 1 by omega), xR⟩
  case round =>
   clear HR1 HST HP HM HL0 HU HO
   obtain ⟨b, m, cs, acc, HRw, HSt, HPs, HMa, HLe, HAc, hgk⟩ := hrel
   have HT := Za (Xb pb tb cap b d ts sep wr HPs.o OK.o)
   cases hs : Zc ts b sep with
   | false =>
    have HE := Za (Kj HMa.o hs)
    rw [hs, if_neg (by simp)] at HT
    clear hs
    go_wp2_with fail
    refine HT.o.mono ?_
    rintro e w2 ⟨rfl, hst, hps⟩
    have HST := Za (HSt.o.trans hst)
    have HPS := Za hps
    have HRW := Za (HRw.o.stay hst H.o.ltp)
    clear hst hps
    go_wp2_with fail
    go_ret
    rw [HE.o]
    exact ⟨HST.o, HPS.o, _, rfl, _, HRW.o⟩
   | true =>
    have hbl : b + 1 < ts.length := Wz OK.o.ends HPs.o.lt hs
    obtain ⟨m, rfl⟩ : ∃ q, m = q + 1 := ⟨m - 1, by have := HLe.o; omega⟩
    have HSe := Za hs
    rw [hs, if_pos rfl] at HT
    clear hs
    go_wp2_with fail
    refine HT.o.mono ?_
    rintro e w2 ⟨rfl, hst, hps⟩
    have HST := Za (HSt.o.trans hst)
    have HPS := Za hps
    have HRW := Za (HRw.o.stay hst H.o.ltp)
    clear hst hps
    have HO := Za (HG.o.calls (b + 1) w2 HPS.o)
    cases ho : one (b + 1) with
    | inr x =>
     obtain ⟨er, li, co⟩ := x
     have HE := Za (Ka HMa.o HSe.o ho)
     rw [ho] at HO
     clear ho
     go_wp2_with fail
     refine HO.o.mono ?_
     rintro e w3 ⟨hst, rfl⟩
     have HST3 := Za (HST.o.trans hst)
     clear hst
     go_wp2_with fail
     rw [HE.o]
     exact ⟨rfl, HST3.o, rfl⟩
    | inl x =>
     obtain ⟨D1, b1⟩ := x
     have HM2 := Za (Kv HMa.o HSe.o ho)
     have HU2 := Za (HG.o.up _ _ _ ho)
     rw [ho] at HO
     clear ho
     obtain ⟨av, cv, rfl⟩ := Vb HRW.o.ow
     go_wp2_with fail
     refine HO.o.mono ?_
     rintro e w3 ⟨hst, hps, v, rfl, hv⟩
     obtain ⟨k1, nm1, na1, nl1, nc1, ka1, kl1, kc1, rfl⟩ := hv.cells
     have HST3 := Za (HST.o.trans hst)
     have HPS3 := Za hps
     have HS23 := Za hst
     have HV := Za hv
     have HRW3 := Za (HRW.o.stay hst H.o.ltp)
     clear hst hps hv
     have hac : acc.length ≤ 8193 := by have := HAc.o; have := OK.o.len; omega
     go_wp2_with (at_builtin; refine wpList_append_own_at _ rfl (.tmp 17) (.tmp 21) 23 rfl w.heap.size 36 i0 _ 4 72 underlying23 hi hz0 hz1 hz2 rfl (by decide) _ _ _ rfl (HRW3.o.ow.alloc _) ⟨_, 0, none⟩ 1 1 [.int .i64 k1, .string nm1, .slice na1 nl1 nc1, .slice ka1 kl1 kc1] rfl rfl (Uq _ _ _) (by simp [Value.oneCell']) (by unfold maxLen; omega) (by omega) (by have := HST3.o.size; simp; omega) ?_)
     intro v' w4 zho zhn _ hloc
     have HR4 : xQ (Z8 V3 w.heap.size 36 4 none w4 v' (cs ++ [[.int .i64 k1, .string nm1, .slice na1 nl1 nc1, .slice ka1 kl1 kc1]]) (acc ++ [D1])) :=
      HRW3.o.put zho zhn (hloc.imp_right fun e => ⟨_, e, by simp⟩) ((Zj.refl pb w3).alloc HPS3.o.ltp _) H.o.ltp rfl ((Xg.new (rep := V3) HV.o HST.o.size fun q hq => HRW.o.all q hq).stay ((Zj.refl pb w3).alloc HPS3.o.ltp _) H.o.ltp)
     have HST4 : xQ (Zj pb w w4) := (HST3.o.alloc H.o.ltp _).grown zhn H.o.ltp fun q hq => (HRW3.o.own q hq).1
     have HPS4 : xQ (Ps w4 pb tb cap ts b1 d) := (HPS3.o.alloc _).grown zhn fun q hq => xT H.o.ltp (HRW3.o.own q hq).1
     clear zho zhn hloc
     go_wp2_with fail
     go_roundg (ts.length - b1)
     case measure => have := HU2.o; have := HPS4.o.lt; omega
     case rel => exact ⟨b1, m, _, _, HR4, HST4, HPS4, HM2, (by have := HLe.o; have := HU2.o; show _ ≤ _; omega), (by have := HAc.o; have := HU2.o; show (acc ++ [D1]).length ≤ _; simp; omega), xR⟩
def Vp {α : Type} (ts : List Tok) (K : Nat → Pr α) (f a : Nat) : Pr (List (List UInt8 × α)) :=
 if Zc ts a [125] then .inl ([], a + 1) else (Z1 ts (Xy ts K) [44] f a).go fun l b => (Zb ts b [125]).go fun _ b => .inl (l, b)
def Ub {α : Type} (ts : List Tok) (K : Nat → Pr α) (R : Pr (List (List UInt8 × α))) (acc : List (List UInt8 × α)) (f a : Nat) : Prop :=
 R = (Z1 ts (Xy ts K) [44] f a).go fun l b => (Zb ts b [125]).go fun _ b => .inl (acc ++ l, b)
section
variable {α : Type} {ts : List Tok} {K : Nat → Pr α} {R : Pr (List (List UInt8 × α))} {acc : List (List UInt8 × α)} {f a b c e' : Nat} {s : List UInt8} {x : α} {e : Int × Nat × Nat} {u : Unit}
theorem Sa (h : Zc ts a [125] = false) : Ub ts K (Vp ts K f a) [] f a := by
 unfold Ub Vp
 rw [if_neg (by simp [h])]
 rfl
theorem J0 (h : Zc ts a [125] = true) : Vp ts K f a = .inl ([], a + 1) := by
 unfold Vp
 rw [if_pos h]
theorem Df (h : Ub ts K R acc (f + 1) a) (hn : Zm ts a = .inr e) : R = .inr e := by
 unfold Ub at h
 rw [h, Z1, Xy, hn]
 rfl
theorem Aa (h : Ub ts K R acc (f + 1) a) (hn : Zm ts a = .inl (s, b)) (hc : Zb ts b [58] = .inr e) : R = .inr e := by
 unfold Ub at h
 rw [h, Z1, Xy, hn]
 show Pr.go (Pr.go (Pr.go (Zb ts b [58]) _) _) _ = _
 rw [hc]
 rfl
theorem St (h : Ub ts K R acc (f + 1) a) (hn : Zm ts a = .inl (s, b)) (hc : Zb ts b [58] = .inl (u, c)) (hv : K c = .inr e) : R = .inr e := by
 unfold Ub at h
 rw [h, Z1, Xy, hn]
 show Pr.go (Pr.go (Pr.go (Zb ts b [58]) _) _) _ = _
 rw [hc]
 show Pr.go (Pr.go (Pr.go (K c) _) _) _ = _
 rw [hv]
 rfl
theorem Gb (h : Ub ts K R acc (f + 1) a) (hn : Zm ts a = .inl (s, b)) (hc : Zb ts b [58] = .inl (u, c)) (hv : K c = .inl (x, e')) :
  R = if Zc ts e' [44] then (Z1 ts (Xy ts K) [44] f (e' + 1)).go fun l b => (Zb ts b [125]).go fun _ b => .inl (acc ++ (s, x) :: l, b) else (Zb ts e' [125]).go fun _ b => .inl (acc ++ [(s, x)], b) := by
 unfold Ub at h
 rw [h, Z1, Xy, hn]
 show Pr.go (Pr.go (Pr.go (Zb ts b [58]) _) _) _ = _
 rw [hc]
 show Pr.go (Pr.go (Pr.go (K c) _) _) _ = _
 rw [hv]
 show Pr.go (if Zc ts e' [44] then _ else _) _ = _
 by_cases hs : Zc ts e' [44] = true
 ·rw [if_pos hs, if_pos hs]
  cases Z1 ts (Xy ts K) [44] f (e' + 1) with
  | inl p => rfl
  | inr p => rfl
 ·rw [if_neg hs, if_neg hs]
  rfl
theorem L5 (h : Ub ts K R acc (f + 1) a) (hn : Zm ts a = .inl (s, b)) (hc : Zb ts b [58] = .inl (u, c)) (hv : K c = .inl (x, e')) {y : Nat} (hg : Qx ts e' [44] [125] = .inl (true, y)) : Ub ts K R (acc ++ [(s, x)]) f y ∧ y = e' + 1 := by
 have h1 := Gb h hn hc hv
 unfold Qx at hg
 by_cases hs : Zc ts e' [44] = true
 ·rw [if_pos hs] at hg h1
  injection hg with hg
  injection hg with _ hg
  subst hg
  refine ⟨?_, rfl⟩
  unfold Ub
  rw [h1]
  simp
 ·rw [if_neg hs] at hg
  cases hw : Zb ts e' [125] with
  | inl p => rw [hw] at hg; injection hg with hg; injection hg with hg; cases hg
  | inr p => rw [hw] at hg; cases hg
theorem Jb (h : Ub ts K R acc (f + 1) a) (hn : Zm ts a = .inl (s, b)) (hc : Zb ts b [58] = .inl (u, c)) (hv : K c = .inl (x, e')) {y : Nat} (hg : Qx ts e' [44] [125] = .inl (false, y)) : R = .inl (acc ++ [(s, x)], y) ∧ e' ≤ y := by
 have h1 := Gb h hn hc hv
 unfold Qx at hg
 by_cases hs : Zc ts e' [44] = true
 ·rw [if_pos hs] at hg
  injection hg with hg
  injection hg with hg
  cases hg
 ·rw [if_neg hs] at hg h1
  rw [h1]
  unfold Zb at hg ⊢
  by_cases ht : Zc ts e' [125] = true
  ·rw [if_pos ht] at hg ⊢
   injection hg with hg
   injection hg with _ hg
   subst hg
   exact ⟨rfl, by omega⟩
  ·rw [if_neg ht] at hg
   cases hg
theorem Ff (h : Ub ts K R acc (f + 1) a) (hn : Zm ts a = .inl (s, b)) (hc : Zb ts b [58] = .inl (u, c)) (hv : K c = .inl (x, e')) (hg : Qx ts e' [44] [125] = .inr e) : R = .inr e := by
 have h1 := Gb h hn hc hv
 unfold Qx at hg
 by_cases hs : Zc ts e' [44] = true
 ·rw [if_pos hs] at hg
  cases hg
 ·rw [if_neg hs] at hg h1
  rw [h1]
  cases hw : Zb ts e' [125] with
  | inl p => rw [hw] at hg; cases hg
  | inr p =>
   rw [hw] at hg
   injection hg with hg
   rw [hg]
   rfl
end
theorem Pb {ts : List Tok} {a b : Nat} {s : List UInt8} (h : Zm ts a = .inl (s, b)) : b = a + 1 := by
 unfold Zm at h
 split at h
 ·injection h with h; injection h with _ h; exact h.symm
 ·cases h
theorem Bm {ts : List Tok} {a b : Nat} {s : List UInt8} {u : Unit} (h : Zb ts a s = .inl (u, b)) : b = a + 1 := by
 unfold Zb at h
 split at h
 ·injection h with h; injection h with _ h; exact h.symm
 ·cases h
theorem Gu {fn : Func} {t u : Tmp} (h : fn.results = #[.tmp t, .tmp u]) (tmps : Array Value) (P : Program) (w : World) : (results fn tmps).run P w = .ok (.tuple #[tmps.getD t undef, tmps.getD u undef]) w := by
 simp [results, h]
def Va (_ : Nat) (_ : World) (c : List Value) (s : List UInt8) : Prop := c = [.string ⟨s.toArray⟩]
theorem strC_k : Qj Va where
 keep := fun h _ _ => h
 lower := fun h _ => h
def Dw (lo : Nat) (w : World) (v : Value) (l : List (List UInt8 × Ty)) : Prop := ∃ vn vv cn cv, v = .tuple #[vn, vv] ∧ Z8 Va lo 9 1 vv.ownBlock w vn cn (l.map (·.1)) ∧ Z8 V3 lo 36 4 vn.ownBlock w vv cv (l.map (·.2))
theorem Sf (pb tb cap d : Nat) (ts : List Tok) (g : Nat) (K : Nat → Pr Ty) (hg : Yg pb tb cap d ts Zt g K)
  (f a : Nat) (hf : ts.length ≤ a + (f + 1)) (w : World) (h : Ps w pb tb cap ts a d) (ok : Z0 ts) :
  Calls prog 198 #[.pointer (some ⟨pb, 0, none⟩), .func (.func g) #[] #[]] w (Zs pb tb cap ts d w Dw (Vp ts K (f + 1) a)) := by
 have H := Za h
 have OK := Za ok
 have HG := Za hg
 have hen := hg.enters
 clear h ok hg
 have HT := Za (Xb pb tb cap a d ts [125] w H.o OK.o)
 have HF := Za hf
 clear hf
 obtain ⟨R, hR⟩ := xE (Vp ts K (f + 1) a)
 rw [← hR]
 obtain ⟨sb, hsb⟩ := xE (Zc ts a [125])
 rw [← hsb] at HT
 have HR := Za hR
 have HSB := Za hsb
 clear hR hsb
 have hnot : ∀ (x : Bool) (w : World), (Op.unary .not (.bool x)).run prog w = .ok (.bool (!x)) w := fun _ _ => rfl
 obtain ⟨i0, hi, hz0, hz1, hz2⟩ := info_parts Nh
 obtain ⟨s0, si, sz0, sz1, sz2⟩ := info_parts B5
 go_enter func198, ntmps198
 go_wp2_with fail
 refine HT.o.mono ?_
 rintro e w1 ⟨rfl, hst, hps⟩
 have HST := Za hst
 have HP := Za hps
 clear hst hps
 go_wp2_with fail
 go_loopg [6, 7, 8] (ts.length + 2) (fun gk vn vv mo wr => ∃ (b m : Nat) (cn cv : List (List Value)) (acc : List (List UInt8 × Ty)) (ns : List (List UInt8)) (ks : List Ty) (mb : Bool), mo = .bool mb ∧ xQ (ns = acc.map (·.1) ∧ ks = acc.map (·.2)) ∧ xQ (Z8 Va w.heap.size 9 1 vv.ownBlock wr vn cn ns) ∧ xQ (Z8 V3 w.heap.size 36 4 vn.ownBlock wr vv cv ks) ∧ xQ (Zj pb w wr) ∧ xQ (Ps wr pb tb cap ts b d) ∧ xQ (acc.length ≤ b) ∧ xQ (ts.length ≤ b + (m + 1)) ∧ xQ (mb = true → Ub ts K R acc (m + 1) b ∧ ts.length - b + 1 ≤ gk) ∧ xQ (mb = false → R = .inl (acc, b)))
 case atStart =>
  refine ⟨_, f, [], [], [], [], [], _, rfl, ⟨rfl, rfl⟩, T0 _ _ _ _ _, T0 _ _ _ _ _, HST, HP, xZ _, ?_, fun h => ?_, fun h => ?_⟩
  ·have := HF.o
   show _ ≤ _
   split <;> omega
  ·have hs : sb = false := by simpa using h
   rw [hs] at HSB ⊢
   exact ⟨by rw [HR.o]; exact Sa HSB.o.symm, by have := HF.o; simp; omega⟩
  ·have hs : sb = true := by simpa using h
   rw [hs] at HSB ⊢
   rw [HR.o]
   exact J0 HSB.o.symm
 case round =>
  clear HST HP HT HR HSB
  obtain ⟨b, m, cn, cv, acc, ns, ks, mb, rfl, HNS, HN, HV, HSt, HPs, HAc, HLe, HTr, HFa⟩ := hrel
  cases mb with
  | false =>
   have HE := Za (HFa.o rfl)
   clear HFa HTr
   go_wp2_with fail
   refine bodyPost_ret (Gu rfl _ _ _) rfl ?_
   rw [HE.o]
   exact ⟨HSt.o, HPs.o, _, rfl, _, _, cn, cv, rfl, HNS.o.1 ▸ HN.o, HNS.o.2 ▸ HV.o⟩
  | true =>
   have HFi := Za (HTr.o rfl).1
   have hgk := (HTr.o rfl).2
   clear HFa HTr
   obtain ⟨av, lv, rfl⟩ := Vb HN.o.ow
   obtain ⟨av2, lv2, rfl⟩ := Vb HV.o.ow
   have HO := Za (Ts pb tb cap b d ts wr HPs.o OK.o)
   cases hn : Zm ts b with
   | inr x =>
    obtain ⟨er, li, co⟩ := x
    have HE := Za (Df HFi.o hn)
    rw [hn] at HO
    clear hn
    go_wp2_with fail
    refine HO.o.mono ?_
    rintro e w2 ⟨hst, rfl⟩
    have HST := Za (HSt.o.trans hst)
    clear hst
    go_wp2_with fail
    rw [HE.o]
    exact ⟨rfl, HST.o, rfl⟩
   | inl x =>
    obtain ⟨s, b1⟩ := x
    have HNa := Za hn
    have hb1 := Pb hn
    rw [hn] at HO
    clear hn
    have hac : acc.length ≤ 8193 := by have := HAc.o; have := OK.o.len; have := HPs.o.lt; omega
    have hac1 : ns.length ≤ 8193 := by rw [HNS.o.1]; simpa using hac
    have hac2 : ks.length ≤ 8193 := by rw [HNS.o.2]; simpa using hac
    go_wp2_with fail
    refine HO.o.mono ?_
    rintro e w2 ⟨hst, hps, v, rfl, rfl⟩
    have HST := Za (HSt.o.trans hst)
    have HPS := Za hps
    have HN2 := Za (HN.o.stay hst H.o.ltp)
    have HV2 := Za (HV.o.stay hst H.o.ltp)
    clear hst hps
    go_wp2_with (at_builtin; refine wpList_append_own_at _ rfl (.tmp 19) (.tmp 24) 24 rfl w.heap.size 9 s0 _ 1 16 underlying24 si sz0 sz1 sz2 rfl (by decide) _ _ _ rfl (HN2.o.ow.alloc _) ⟨_, 0, none⟩ 1 1 [.string ⟨s.toArray⟩] rfl rfl (Uq _ _ _) (by simp [Value.oneCell']) (by unfold maxLen; omega) (by omega) (by have := HST.o.size; simp; omega) ?_)
    intro vn' w4 zho zhn _ hloc
    have HN4 := Za (HN2.o.put (x := s) (rep := Va) zho zhn (hloc.imp_right fun e => ⟨_, e, by simp⟩) ((Zj.refl pb w2).alloc HPS.o.ltp _) H.o.ltp rfl ((Xg.new (rep := Va) (lo := w2.heap.size) rfl HST.o.size fun q hq => HN2.o.all q hq).stay ((Zj.refl pb w2).alloc HPS.o.ltp _) H.o.ltp))
    have HV4 := Za ((HV2.o.stay ((Zj.refl pb w2).alloc HPS.o.ltp _) H.o.ltp).beside (o' := vn'.ownBlock) zhn (hloc.imp_right fun e => ⟨_, e, by simp, (zho.lt _ e).2⟩) (by have := HST.o.size; simp; omega))
    have HST4 : xQ (Zj pb w w4) := (HST.o.alloc H.o.ltp _).grown zhn H.o.ltp fun q hq => (HN2.o.own q hq).1
    have HPS4 : xQ (Ps w4 pb tb cap ts b1 d) := (HPS.o.alloc _).grown zhn fun q hq => xT H.o.ltp (HN2.o.own q hq).1
    obtain ⟨av3, lv3, rfl⟩ := Vb zho
    clear zho zhn hloc HN2 HV2 HST HPS
    have HM := Za (Y6 pb tb cap b1 d ts [58] w4 HPS4.o OK.o)
    cases hm : Zb ts b1 [58] with
    | inr x =>
     obtain ⟨er, li, co⟩ := x
     have HE := Za (Aa HFi.o HNa.o hm)
     rw [hm] at HM
     clear hm
     go_wp2_with fail
     refine HM.o.mono ?_
     rintro e w5 ⟨hst, rfl⟩
     have HST5 := Za (HST4.o.trans hst)
     clear hst
     go_wp2_with fail
     rw [HE.o]
     exact ⟨rfl, HST5.o, rfl⟩
    | inl x =>
     obtain ⟨u, b2⟩ := x
     have HWa := Za hm
     have hb2 := Bm hm
     rw [hm] at HM
     clear hm
     go_wp2_with fail
     refine HM.o.mono ?_
     rintro e w5 ⟨hst, hps, v, rfl, _⟩
     have HST5 := Za (HST4.o.trans hst)
     have HPS5 := Za hps
     have HN5 := Za (HN4.o.stay hst H.o.ltp)
     have HV5 := Za (HV4.o.stay hst H.o.ltp)
     clear hst hps HM
     have HO2 := Za (HG.o.calls b2 w5 HPS5.o)
     cases ho : K b2 with
     | inr x =>
      obtain ⟨er, li, co⟩ := x
      have HE := Za (St HFi.o HNa.o HWa.o ho)
      rw [ho] at HO2
      clear ho
      go_wp2_with fail
      refine HO2.o.mono ?_
      rintro e w6 ⟨hst, rfl⟩
      have HST6 := Za (HST5.o.trans hst)
      clear hst
      go_wp2_with fail
      rw [HE.o]
      exact ⟨rfl, HST6.o, rfl⟩
     | inl x =>
      obtain ⟨D1, b3⟩ := x
      have HKo := Za ho
      have hb3 := HG.o.up _ _ _ ho
      rw [ho] at HO2
      clear ho
      go_wp2_with fail
      refine HO2.o.mono ?_
      rintro e w6 ⟨hst, hps, v, rfl, hv⟩
      obtain ⟨k1, nm1, na1, nl1, nc1, ka1, kl1, kc1, rfl⟩ := hv.cells
      have HST6 := Za (HST5.o.trans hst)
      have HPS6 := Za hps
      have HN6 := Za (HN5.o.stay hst H.o.ltp)
      have HV6 := Za (HV5.o.stay hst H.o.ltp)
      have HVal := Za hv
      clear hst hps hv
      go_wp2_with (at_builtin; refine wpList_append_own_at _ rfl (.tmp 30) (.tmp 34) 23 rfl w.heap.size 36 i0 _ 4 72 underlying23 hi hz0 hz1 hz2 rfl (by decide) _ _ _ rfl (HV6.o.ow.alloc _) ⟨_, 0, none⟩ 1 1 [.int .i64 k1, .string nm1, .slice na1 nl1 nc1, .slice ka1 kl1 kc1] rfl rfl (Uq _ _ _) (by simp [Value.oneCell']) (by unfold maxLen; omega) (by omega) (by have := HST6.o.size; simp; omega) ?_)
      intro vv' w7 zho zhn _ hloc
      have HV7 := Za (HV6.o.put (x := D1) (rep := V3) zho zhn (hloc.imp_right fun e => ⟨_, e, by simp⟩) ((Zj.refl pb w6).alloc HPS6.o.ltp _) H.o.ltp rfl ((Xg.new (rep := V3) HVal.o HST5.o.size fun q hq => HV5.o.all q hq).stay ((Zj.refl pb w6).alloc HPS6.o.ltp _) H.o.ltp))
      have HN7 := Za ((HN6.o.stay ((Zj.refl pb w6).alloc HPS6.o.ltp _) H.o.ltp).beside (o' := vv'.ownBlock) zhn (hloc.imp_right fun e => ⟨_, e, by simp, (zho.lt _ e).2⟩) (by have := HST6.o.size; simp; omega))
      have HST7 : xQ (Zj pb w w7) := (HST6.o.alloc H.o.ltp _).grown zhn H.o.ltp fun q hq => (HV6.o.own q hq).1
      have HPS7 : xQ (Ps w7 pb tb cap ts b3 d) := (HPS6.o.alloc _).grown zhn fun q hq => xT H.o.ltp (HV6.o.own q hq).1
      clear zho zhn hloc HO2
      have HGo := Za (S3 pb tb cap b3 d ts [44] [125] w7 HPS7.o OK.o)
      cases hg : Qx ts b3 [44] [125] with
      | inr x =>
       obtain ⟨er, li, co⟩ := x
       have HE := Za (Ff HFi.o HNa.o HWa.o HKo.o hg)
       rw [hg] at HGo
       clear hg
       go_wp2_with fail
       refine HGo.o.mono ?_
       rintro e w8 ⟨hst, rfl⟩
       have HST8 := Za (HST7.o.trans hst)
       clear hst
       go_wp2_with fail
       rw [HE.o]
       exact ⟨rfl, HST8.o, rfl⟩
      | inl x =>
       obtain ⟨gb, b4⟩ := x
       have HGoe := Za hg
       rw [hg] at HGo
       clear hg
       go_wp2_with fail
       refine HGo.o.mono ?_
       rintro e w8 ⟨hst, hps, v, rfl, rfl⟩
       have HST8 := Za (HST7.o.trans hst)
       have HPS8 := Za hps
       have HN8 := Za (HN7.o.stay hst H.o.ltp)
       have HV8 := Za (HV7.o.stay hst H.o.ltp)
       clear hst hps HGo
       go_wp2_with fail
       have hb4 : b3 ≤ b4 := by
        cases gb with
        | true => have := (L5 HFi.o HNa.o HWa.o HKo.o HGoe.o).2; omega
        | false => exact (Jb HFi.o HNa.o HWa.o HKo.o HGoe.o).2
       go_roundg (ts.length - b4 + 1)
       case measure => have := HPS8.o.lt; omega
       case rel =>
        refine ⟨b4, m - 1, _, _, acc ++ [(s, D1)], _, _, gb, rfl, ⟨?_, ?_⟩, HN8, HV8, HST8, HPS8, ?_, ?_, fun h => ?_, fun h => ?_⟩
        ·rw [HNS.o.1]; simp
        ·rw [HNS.o.2]; simp
        ·have := HAc.o
         show (acc ++ [(s, D1)]).length ≤ b4
         simp
         omega
        ·have := HLe.o
         show _ ≤ _
         omega
        ·subst h
         have h1 := (L5 HFi.o HNa.o HWa.o HKo.o HGoe.o)
         have := HPS8.o.lt
         have := HLe.o
         obtain ⟨q, rfl⟩ : ∃ q, m = q + 1 := ⟨m - 1, by omega⟩
         exact ⟨h1.1, xR⟩
        ·subst h
         exact (Jb HFi.o HNa.o HWa.o HKo.o HGoe.o).1
end Go.Proofs.YtbnjllkkhhkkaaaGreatDoor
