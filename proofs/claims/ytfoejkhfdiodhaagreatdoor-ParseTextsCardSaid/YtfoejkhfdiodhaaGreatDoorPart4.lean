/- Part. -/
import Derived.Deep.LoopGhost
import Derived.Test.YtfoejkhfdiodhaaGreatDoorPart3
set_option maxRecDepth 100000
set_option maxHeartbeats 4000000
namespace Go.Proofs.YtfoejkhfdiodhaaGreatDoor
open Go.Proofs.Tryz
open Go.RowKit
theorem yM (a b c d : Value) (w : World) : (Instr.field 81 (.agg #[a, b, c, d]) 0).run prog w = .ok a w := by simp [Instr.field, go_sem, asAgg]
theorem aX (a b c d : Value) (w : World) : (Instr.field 81 (.agg #[a, b, c, d]) 1).run prog w = .ok b w := by simp [Instr.field, go_sem, asAgg]
def Pm (t : Tok) (L : List (List UInt8)) : Int := if t.kind = 2 ∨ t.kind = 5 then Hn L t.text else -1
def Lp (w : World) (xb : Nat) (L : List (List UInt8)) : Prop := xb < w.heap.size /\ ∀ i (h : i < L.length), w.cell? ⟨xb, i, none⟩ = some (.string ⟨L[i].toArray⟩)
theorem Lp.below {w w1 : World} {xb : Nat} {L : List (List UInt8)} (h : Lp w xb L) (hb : Below w.heap.size w w1) : Lp w1 xb L :=
 ⟨xT h.1 hb.size, fun i hi => (hb.cell (p := ⟨xb, i, none⟩) h.1).trans (h.2 i hi)⟩
theorem eD (xb xc : Nat) (t : Tok) (L : List (List UInt8)) (pb : Nat) (w : World) (hpk : Calls prog 63 #[pP pb] w fun e w' => e = .returned (F3 t) /\ Below w.heap.size w w') (hL : Lp w xb L) (hl : L.length <= 100) :
  Calls prog 65 #[pP pb, .slice (some ⟨xb, 0, none⟩) L.length xc] w fun e w' => e = .returned (.int .i64 (Pm t L)) /\ Below w.heap.size w w' := by
 have H := Za hpk
 have HL := Za hL
 clear hpk hL
 obtain ⟨k, x, li, co⟩ := t
 have HT := Za (fun w1 (Zt : Below w.heap.size w w1) => kC xb xc L x w1 (HL.o.below Zt).2 hl)
 by_cases h2 : k = 2
 ·have n2 : (k != 2) = false := by simp [h2]
  have HW : xQ (Pm ⟨k, x, li, co⟩ L = Hn L x) := by rw [Pm, if_pos (.inl h2)]; exact rfl
  clear h2;go_enter func65, ntmps65;go_wp2_with fail;refine H.o.mono ?_;rintro e w1 ⟨rfl, Zt⟩;have Yl := Za Zt;clear Zt;go_wp2_with fail;refine (HT.o _ (by first | exact Zx Yl.o (Zq _ _) | skip)).mono ?_;rintro e w2 ⟨rfl, q, rfl⟩;go_wp2_with fail;go_ret;refine ⟨by rw [HW.o]; rfl, ?_⟩;exact below_drewN (Zx Yl.o (Zq _ _)) _
 ·by_cases h5 : k = 5
  ·have n2 : (k != 2) = true := by simp [h2]
   have n5 : (k != 5) = false := by simp [h5]
   have HW : xQ (Pm ⟨k, x, li, co⟩ L = Hn L x) := by rw [Pm, if_pos (.inr h5)]; exact rfl
   clear h2 h5;go_enter func65, ntmps65;go_wp2_with fail;refine H.o.mono ?_;rintro e w1 ⟨rfl, Zt⟩;have Yl := Za Zt;clear Zt;go_wp2_with fail;refine (HT.o _ (by first | exact Zx Yl.o (Zq _ _) | skip)).mono ?_;rintro e w2 ⟨rfl, q, rfl⟩;go_wp2_with fail;go_ret;refine ⟨by rw [HW.o]; rfl, ?_⟩;exact below_drewN (Zx Yl.o (Zq _ _)) _
  ·have n2 : (k != 2) = true := by simp [h2]
   have n5 : (k != 5) = true := by simp [h5]
   have HW : xQ (Pm ⟨k, x, li, co⟩ L = -1) := by rw [Pm, if_neg (by rintro (h | h); exact h2 h; exact h5 h)]; exact rfl
   clear h2 h5;go_enter func65, ntmps65;go_wp2_with fail;refine H.o.mono ?_;rintro e w1 ⟨rfl, Zt⟩;have Yl := Za Zt;clear Zt;go_wp2_with fail;go_ret;refine ⟨by rw [HW.o]; rfl, ?_⟩;exact Zx Yl.o (Zq _ _)
theorem mK (pb tb cap a xb xc : Nat) (ts : List Tok) (L : List (List UInt8)) (w : World) (h : Gk w pb tb cap ts a) (hL : Lp w xb L) (hl : L.length <= 100) :
  Calls prog 65 #[pP pb, .slice (some ⟨xb, 0, none⟩) L.length xc] w fun e w' => e = .returned (.int .i64 (Pm (Zk ts a) L)) /\ Below w.heap.size w w' :=
 eD xb xc _ L pb w (tW pb tb cap a ts w h) hL hl
theorem yS (ts : List Tok) (a : Nat) (L : List (List UInt8)) : decide (0 <= Pm (Zk ts a) L) = L.any fun s => Zh ts a s := by
 unfold Pm Zh
 by_cases hk : (Zk ts a).kind = 2 ∨ (Zk ts a).kind = 5
 ·rw [if_pos hk]
  have Lt : ((Zk ts a).kind == 2 || (Zk ts a).kind == 5) = true := by rcases hk with h | h <;> simp [h]
  simp only [Lt, Bool.true_and]
  cases he : L.any fun s => (Zk ts a).text == s with
  | true =>
   obtain ⟨s, hs, h2⟩ := List.any_eq_true.1 he
   have : (L.findIdx? (· == (Zk ts a).text)).isSome = true := by
    rw [List.findIdx?_isSome, List.any_eq_true];exact ⟨s, hs, by rw [beq_iff_eq.1 h2]; simp⟩
   obtain ⟨i, hi⟩ := Option.isSome_iff_exists.1 this;rw [Hn, hi];simp
  | false =>
   have : L.findIdx? (· == (Zk ts a).text) = none := List.findIdx?_eq_none_iff.2 fun x hx => by
    have := List.any_eq_false.1 he x hx
    exact beq_eq_false_iff_ne.2 fun e => this (by rw [e]; simp)
   rw [Hn, this];simp
 ·rw [if_neg hk]
  have Lt : ((Zk ts a).kind == 2 || (Zk ts a).kind == 5) = false := by simpa using hk
  simp [Lt]
theorem is_r (pb tb cap a xb xc : Nat) (ts : List Tok) (L : List (List UInt8)) (w : World) (h : Gk w pb tb cap ts a) (hL : Lp w xb L) (hl : L.length <= 100) :
  Calls prog 27 #[pP pb, .slice (some ⟨xb, 0, none⟩) L.length xc] w fun e w' => e = .returned (.bool (L.any fun s => Zh ts a s)) /\ Below w.heap.size w w' := by
 have HC := Za (mK pb tb cap a xb xc ts L w h hL hl)
 clear h hL
 go_enter func27, ntmps27
 go_wp2_with fail
 refine HC.o.mono ?_
 rintro e w1 ⟨rfl, Zt⟩
 go_wp2_with fail
 go_ret
 exact ⟨congrArg (fun b => Ending.returned (.bool b)) (yS ts a L), Zt⟩
theorem At (w : World) (L : List (List UInt8)) (t : TypeId) (xb : Nat) (hx : xb = w.heap.size) : Lp (w.alloc (.cells (L.map fun s => Value.string ⟨s.toArray⟩).toArray t)) xb L := by
 subst hx
 refine ⟨by simp, fun i hi => ?_⟩
 rw [cell_of_row _ _ _ _ _ _ (xL w _)]
 simp [hi]
theorem Vo (pb tb cap a xb xc : Nat) (ts : List Tok) (L : List (List UInt8)) (w : World) (t : TypeId) (h : Gk w pb tb cap ts a) (hx : xb = w.heap.size) (hl : L.length <= 100) :
  Calls prog 27 #[pP pb, .slice (some ⟨xb, 0, none⟩) L.length xc] (w.alloc (.cells (L.map fun s => Value.string ⟨s.toArray⟩).toArray t)) fun e w' => e = .returned (.bool (L.any fun s => Zh ts a s)) /\ Below w.heap.size w w' :=
 (is_r pb tb cap a xb xc ts L _ (h.below (Zq _ _)) (At w L t xb hx) hl).mono fun _ _ ⟨h1, h2⟩ => ⟨h1, Zx (Zq _ _) h2⟩
theorem mJ (pb tb cap a xb xc : Nat) (ts : List Tok) (L : List (List UInt8)) (w : World) (t : TypeId) (h : Gk w pb tb cap ts a) (hx : xb = w.heap.size) (hl : L.length <= 100) :
  Calls prog 65 #[pP pb, .slice (some ⟨xb, 0, none⟩) L.length xc] (w.alloc (.cells (L.map fun s => Value.string ⟨s.toArray⟩).toArray t)) fun e w' => e = .returned (.int .i64 (Pm (Zk ts a) L)) /\ Below w.heap.size w w' :=
 (mK pb tb cap a xb xc ts L _ (h.below (Zq _ _)) (At w L t xb hx) hl).mono fun _ _ ⟨h1, h2⟩ => ⟨h1, Zx (Zq _ _) h2⟩
theorem Ul (ts : List Tok) (a : Nat) (s : List UInt8) : ([s].any fun s => Zh ts a s) = Zh ts a s := by simp
theorem V6 (pb tb cap a d : Nat) (ts : List Tok) (s : List UInt8) (w : World) (h : Ps w pb tb cap ts a d) (ok : Yh ts) :
  Calls prog 69 #[pP pb, .string ⟨s.toArray⟩] w fun e w' => e = .returned (.bool (Zh ts a s)) /\ Zl pb w w' /\ Ps w' pb tb cap ts (if Zh ts a s then a + 1 else a) d := by
 have H := Za h
 have OK := Za ok
 clear h ok
 cases hs : Zh ts a s with
 | true =>
  have HS := Za hs;rw [if_pos rfl];clear hs;go_enter func69, ntmps69;go_wp2_with fail;refine (Vo pb tb cap a _ 1 ts [s] w _ H.o.rd rfl (by simp)).mono ?_;rw [Ul, HS.o];rintro e w1 ⟨rfl, Zt⟩;have P1 := Za (H.o.below Zt);have Yl := Za Zt;clear Zt;go_wp2_with fail;refine (Bq pb tb cap a d ts _ P1.o (Q4 OK.o.ends H.o.lt HS.o) OK.o.len).mono ?_;rintro e w2 ⟨rfl, Zb, Zc⟩;have HP := Za Zc;have Zu := Za Zb
  clear Zb Zc;go_wp2_with fail;go_ret;exact ⟨rfl, (Zl.of H.o.ltp Yl.o).trans Zu.o, HP.o⟩
 | false =>
  have HS := Za hs;rw [if_neg (by simp)];clear hs;go_enter func69, ntmps69;go_wp2_with fail;refine (Vo pb tb cap a _ 1 ts [s] w _ H.o.rd rfl (by simp)).mono ?_;rw [Ul, HS.o];rintro e w1 ⟨rfl, Zt⟩;have P1 := Za (H.o.below Zt);have Yl := Za Zt;clear Zt;go_wp2_with fail;go_ret;exact ⟨rfl, Zl.of H.o.ltp Yl.o, P1.o⟩
abbrev vH (t : Tok) (e : Int) : Ending := .returned (M6 t.line t.col e)
theorem aW {w w2 : World} {T : Tok} {x0 x1 x2 x3 : Value} (h : w2.heap[w.heap.size]? = some (.cells #[x0, x1, x2, x3] 81)) :
  ((((w2.setCell ⟨w.heap.size, 0, none⟩ (.int .i64 T.kind)).setCell ⟨w.heap.size, 1, none⟩ (.string ⟨T.text.toArray⟩)).setCell ⟨w.heap.size, 2, none⟩ (.int .i64 T.line)).setCell ⟨w.heap.size, 3, none⟩ (.int .i64 T.col)).heap[w.heap.size]? = some (.cells #[.int .i64 T.kind, .string ⟨T.text.toArray⟩, .int .i64 T.line, .int .i64 T.col] 81) := set4 h _ _ _ _
theorem Ta {w w2 : World} {pb b : Nat} (h : Zl pb w w2) (hp : pb < w.heap.size) (hb : w.heap.size <= b) (x0 x1 x2 x3 : Value) : Zl pb w ((((w2.setCell ⟨b, 0, none⟩ x0).setCell ⟨b, 1, none⟩ x1).setCell ⟨b, 2, none⟩ x2).setCell ⟨b, 3, none⟩ x3) :=
 (((h.own hp hb 0 _).own hp hb 1 _).own hp hb 2 _).own hp hb 3 _
theorem Br {w : World} {pb tb cap a d b : Nat} {ts : List Tok} (h : Ps w pb tb cap ts a d) (hb : pb < b) (x0 x1 x2 x3 : Value) : Ps ((((w.setCell ⟨b, 0, none⟩ x0).setCell ⟨b, 1, none⟩ x1).setCell ⟨b, 2, none⟩ x2).setCell ⟨b, 3, none⟩ x3) pb tb cap ts a d :=
 (((h.other hb 0 _).other hb 1 _).other hb 2 _).other hb 3 _
theorem Vw (pb tb cap a d : Nat) (ts : List Tok) (s : List UInt8) (w : World) (h : Ps w pb tb cap ts a d) (ok : Yh ts) :
  Calls prog 66 #[pP pb, .string ⟨s.toArray⟩] w (Z7 pb tb cap ts d w (fun _ _ v _ => v = F3 (Zk ts a)) (Ze ts a s)) := by
 have H := Za h
 have OK := Za ok
 clear h ok
 unfold Ze
 cases hs : Zh ts a s with
 | true =>
  have HS := Za hs;rw [if_pos rfl];clear hs;go_enter func66, ntmps66;go_wp2_with fail;refine (Vo pb tb cap a _ 1 ts [s] (w.alloc _) _ (H.o.alloc _).rd (by simp) (by simp)).mono ?_;rw [Ul, HS.o];rintro e w1 ⟨rfl, Zt⟩;have P1 := Za ((H.o.alloc _).below Zt);have Yl := Za (Zx (Zq _ _) Zt);have HR := Za ((Zt.block w.heap.size (by simp)).trans (xL w _));clear Zt;go_wp2_with fail;refine (Bq pb tb cap a d ts _ P1.o (Q4 OK.o.ends H.o.lt HS.o) OK.o.len).mono ?_
  rintro e w2 ⟨rfl, Zb, Zc⟩;have hr := (Zb.keep _ H.o.ltp (xB HR.o)).trans HR.o;obtain ⟨⟨r0, r1, r2, r3⟩, ⟨f0, f1, f2, f3⟩, Yn⟩ := Z6 hr;have Zz := Za hr;have HP := Za Zc;have Zu := Za ((Zl.of H.o.ltp Yl.o).trans Zb);clear Zb Zc hr;go_wp2_with fail;refine bodyPost_ret (results_cell_row rfl _ _ w.heap.size 81 _ (0, 0) _ rfl (aW Zz.o) underlying81 rfl (by kernel_rfl)) rfl ⟨?_, ?_, _, rfl, rfl⟩
  ·exact Ta Zu.o H.o.ltp (xR) _ _ _ _
  ·exact Br HP.o H.o.ltp _ _ _ _
 | false =>
  have HS := Za hs;rw [if_neg (by simp)];clear hs;go_enter func66, ntmps66;go_wp2_with fail;refine (Vo pb tb cap a _ 1 ts [s] (w.alloc _) _ (H.o.alloc _).rd (by simp) (by simp)).mono ?_;rw [Ul, HS.o];rintro e w1 ⟨rfl, Zt⟩;have P1 := Za ((H.o.alloc _).below Zt);have Yl := Za (Zx (Zq _ _) Zt);clear Zt;go_wp2_with fail;refine (Az pb tb cap a d ts _ P1.o 7).mono ?_;rintro e w2 ⟨rfl, Z0⟩;have Yx := Za (Zx Yl.o Z0)
  clear Z0;go_wp2_with fail;exact ⟨rfl, Zl.of H.o.ltp Yx.o, rfl⟩
theorem Jo (pb tb cap a d : Nat) (ts : List Tok) (w : World) (h : Ps w pb tb cap ts a d) (ok : Yh ts) :
  Calls prog 67 #[pP pb] w (Z7 pb tb cap ts d w (fun _ _ v x => v = .string ⟨x.toArray⟩) (Zr ts a)) := by
 have H := Za h
 have OK := Za ok
 have HK := Za (B9 pb tb cap a d ts w h)
 have HP := Za (fun wx (hx : Ps wx pb tb cap ts a d) (hb : a + 1 < ts.length) => Bq pb tb cap a d ts wx hx hb ok.len)
 have HN : xQ ((Zk ts a).kind = 1 -> a + 1 < ts.length) := fun e => ok.ends a h.lt (by rw [e]; decide)
 have HV : xQ (∀ wx (hx : Ps wx pb tb cap ts a d), Calls prog 64 #[pP pb, .int .i64 7] wx fun e w' => e = vH (Zk ts a) 7 /\ Below wx.heap.size wx w') := fun wx hx => Az pb tb cap a d ts wx hx 7
 clear h ok
 unfold Zr Wa
 obtain ⟨t, ht⟩ := xE (Zk ts a)
 rw [<- ht] at HK HP HV HN ⊢
 clear ht
 obtain ⟨k, x, li, co⟩ := t
 have hf0 := yM
 have hf1 := aX
 by_cases hk : k = 1
 ·have n1 : (k != 1) = false := by simp [hk]
  rw [if_pos (by simp [hk])];have T0 := Za (HN.o hk);clear hk;go_enter func67, ntmps67;go_wp2_with fail;refine HK.o.mono ?_;rintro e w1 ⟨rfl, Zt⟩;have Yl := Za Zt;clear Zt;go_wp2_with fail;refine (HP.o _ (by first | exact H.o.below Yl.o | exact (H.o.below Yl.o).alloc _) T0.o).mono ?_;rintro e w2 ⟨rfl, Zb, Zc⟩;have HP2 := Za Zc;have Zu := Za Zb;clear Zb Zc;go_wp2_with fail;go_ret;exact ⟨(Zl.of H.o.ltp Yl.o).trans Zu.o, HP2.o, _, rfl, rfl⟩
 ·have n1 : (k != 1) = true := by simp [hk]
  rw [if_neg (by simp [hk])];clear hk;go_enter func67, ntmps67;go_wp2_with fail;refine HK.o.mono ?_;rintro e w1 ⟨rfl, Zt⟩;have Yl := Za Zt;clear Zt;go_wp2_with fail;refine (HV.o _ (H.o.below Yl.o)).mono ?_;rintro e w2 ⟨rfl, Z0⟩;have Yx := Za (Zx Yl.o Z0);clear Z0;go_wp2_with fail;exact ⟨rfl, Zl.of H.o.ltp Yx.o, rfl⟩
theorem O2 (pb tb cap a d : Nat) (ts : List Tok) (w : World) (h : Ps w pb tb cap ts a d) :
  Calls prog 26 #[pP pb] w (Z7 pb tb cap ts d w (fun _ _ v _ => v = .tuple #[]) (if (Zk ts a).kind == 0 then .inl ((), a) else Wa ts 7 a : Pr Unit)) := by
 have H := Za h
 have HK := Za (B9 pb tb cap a d ts w h)
 have HV : xQ (∀ wx (hx : Ps wx pb tb cap ts a d), Calls prog 64 #[pP pb, .int .i64 7] wx fun e w' => e = vH (Zk ts a) 7 /\ Below wx.heap.size wx w') := fun wx hx => Az pb tb cap a d ts wx hx 7
 clear h
 unfold Wa
 obtain ⟨t, ht⟩ := xE (Zk ts a)
 rw [<- ht] at HK HV ⊢
 clear ht
 obtain ⟨k, x, li, co⟩ := t
 have hf0 := yM
 by_cases hk : k = 0
 ·have n1 : (k != 0) = false := by simp [hk]
  rw [if_pos (by simp [hk])];clear hk;go_enter func26, ntmps26;go_wp2_with fail;refine HK.o.mono ?_;rintro e w1 ⟨rfl, Zt⟩;have Yl := Za Zt;clear Zt;go_wp2_with fail
  go_end0
  exact ⟨Zl.of H.o.ltp Yl.o, H.o.below Yl.o, _, rfl, rfl⟩
 ·have n1 : (k != 0) = true := by simp [hk]
  rw [if_neg (by simp [hk])];clear hk;go_enter func26, ntmps26;go_wp2_with fail;refine HK.o.mono ?_;rintro e w1 ⟨rfl, Zt⟩;have Yl := Za Zt;clear Zt;go_wp2_with fail;refine (HV.o _ (H.o.below Yl.o)).mono ?_;rintro e w2 ⟨rfl, Z0⟩;have Yx := Za (Zx Yl.o Z0);clear Z0;go_wp2_with fail;exact ⟨rfl, Zl.of H.o.ltp Yx.o, rfl⟩
def Gq (ts : List Tok) (a : Nat) (f s : List UInt8) : Pr Bool := if Zh ts a f then .inl (true, a + 1) else (Ze ts a s).go fun _ b => .inl (false, b)
theorem vJ (pb tb cap a d : Nat) (ts : List Tok) (f s : List UInt8) (w : World) (h : Ps w pb tb cap ts a d) (ok : Yh ts) :
  Calls prog 159 #[pP pb, .string ⟨f.toArray⟩, .string ⟨s.toArray⟩] w (Z7 pb tb cap ts d w (fun _ _ v b => v = .bool b) (Gq ts a f s)) := by
 have H := Za h
 have HT := Za (V6 pb tb cap a d ts f w h ok)
 have HM := Za (fun wx (hx : Ps wx pb tb cap ts a d) => Vw pb tb cap a d ts s wx hx ok)
 clear h ok
 unfold Gq
 cases hs : Zh ts a f with
 | true =>
  rw [if_pos rfl];rw [hs, if_pos rfl] at HT;clear hs;go_enter func159, ntmps159;go_wp2_with fail;refine HT.o.mono ?_;rintro e w1 ⟨rfl, Zb, Zc⟩;have Zu := Za Zb;have HP := Za Zc;clear Zb Zc;go_wp2_with fail;go_ret;exact ⟨Zu.o, HP.o, _, rfl, rfl⟩
 | false =>
  rw [if_neg (by simp)];rw [hs, if_neg (by simp)] at HT;clear hs
  cases hw : Ze ts a s with
  | inl x =>
   obtain ⟨_, b⟩ := x;rw [hw] at HM;clear hw;go_enter func159, ntmps159;go_wp2_with fail;refine HT.o.mono ?_;rintro e w1 ⟨rfl, Zb, Zc⟩;have Zu := Za Zb;have HP := Za Zc;clear Zb Zc;go_wp2_with fail;refine (HM.o _ HP.o).mono ?_;rintro e w2 ⟨Zb, Zc, v, rfl, hv⟩;have Gi := Za (Zu.o.trans Zb);have HP2 := Za Zc;clear Zb Zc;go_wp2_with fail;go_ret;exact ⟨Gi.o, HP2.o, _, rfl, rfl⟩
  | inr x =>
   obtain ⟨er, li, co⟩ := x;rw [hw] at HM;clear hw;go_enter func159, ntmps159;go_wp2_with fail;refine HT.o.mono ?_;rintro e w1 ⟨rfl, Zb, Zc⟩;have Zu := Za Zb;have HP := Za Zc;clear Zb Zc;go_wp2_with fail;refine (HM.o _ HP.o).mono ?_;rintro e w2 ⟨Zb, rfl⟩;have Gi := Za (Zu.o.trans Zb);clear Zb;go_wp2_with fail;exact ⟨rfl, Gi.o, rfl⟩
theorem rd_new {w1 : World} {pb tb cap a d : Nat} {ts : List Tok} (h : Ps w1 pb tb cap ts a d) (hn : a + 1 < ts.length) :
  Gk ((w1.alloc (.cells #[.slice (some ⟨tb, 0, none⟩) ts.length cap, .int .i64 ((a : Int) + 1)] 72)).drew) w1.heap.size tb cap ts (a + 1) where
 c0 := by show (w1.alloc _).cell? _ = _; rw [cell_of_row _ _ _ _ _ _ (xL w1 _)]; rfl
 c1 := by show (w1.alloc _).cell? _ = _; rw [cell_of_row _ _ _ _ _ _ (xL w1 _)]; rfl
 ltp := by simp
 tlt := by have := h.rd.tlt; simp; omega
 toks := Qk h.toks (xA h.rd.tlt)
 lt := hn
theorem xX (pb tb cap a d : Nat) (ts : List Tok) (w : World) (h : Ps w pb tb cap ts a d) (ok : Yh ts) :
  Calls prog 186 #[pP pb] w fun e w' => e = .returned (.bool ((Zk ts a).kind == 1 && Zh ts (a + 1) [58])) /\ Below w.heap.size w w' := by
 have H := Za h
 have OK := Za ok
 have HK := Za (B9 pb tb cap a d ts w h)
 have HN : xQ ((Zk ts a).kind = 1 -> a + 1 < ts.length) := fun e => ok.ends a h.lt (by rw [e]; decide)
 clear h ok
 obtain ⟨t, ht⟩ := xE (Zk ts a)
 rw [<- ht] at HK HN ⊢
 clear ht
 obtain ⟨k, x, li, co⟩ := t
 have hf0 := yM
 by_cases hk : k = 1
 ·have n1 : (k != 1) = false := by simp [hk]
  have e1 : (k == 1) = true := by simp [hk]
  have T0 := Za (HN.o hk);clear hk;rw [e1, Bool.true_and];go_enter func186, ntmps186;go_wp2_with fail;refine HK.o.mono ?_;rintro e w1 ⟨rfl, Zt⟩;have P1 := Za (H.o.below Zt);have Yl := Za Zt;obtain ⟨c0, c1, c2⟩ := P1.o.cells;have Qi := P1.o.ltp
  have ha : a <= 8193 := by have := OK.o.len; have := H.o.lt; omega
  clear Zt;go_wp2_with fail;go_region
  all_goals
   go_wp2_with fail;refine (Vo w1.heap.size tb cap (a + 1) _ 1 ts [[58]] _ _ (rd_new P1.o T0.o) (by simp) (by simp)).mono ?_;rw [Ul];rintro e w2 ⟨rfl, Z0⟩;have Yx := Za Z0;clear Z0;go_wp2_with fail;go_ret;exact ⟨rfl, Zx Yl.o (Zx (Zq _ _).drew Yx.o)⟩
 ·have n1 : (k != 1) = true := by simp [hk]
  have e1 : (k == 1) = false := by simp [hk]
  clear hk;rw [e1, Bool.false_and];go_enter func186, ntmps186;go_wp2_with fail;refine HK.o.mono ?_;rintro e w1 ⟨rfl, Zt⟩;have Yl := Za Zt;clear Zt;go_wp2_with fail;go_ret;exact ⟨rfl, Yl.o⟩
structure Lo {α : Type} (rep : Nat -> World -> List Value -> α -> Prop) : Prop where
 keep : ∀ {lo w w' c x}, rep lo w c x -> w.heap.size <= w'.heap.size -> (∀ b, lo <= b -> b < w.heap.size -> w'.heap[b]? = w.heap[b]?) -> rep lo w' c x
 lower : ∀ {lo lo' w c x}, rep lo w c x -> lo' <= lo -> rep lo' w c x
section
variable {α : Type} {rep : Nat -> World -> List Value -> α -> Prop} {B et k pb : Nat} {w wx wy w4 : World} {v v' : Value} {cs : List (List Value)} {xs : List α} {c : List Value} {x : α} {g : Option Nat} {lo : Nat}
def Wz (rep : Nat -> World -> List Value -> α -> Prop) (B : Nat) (G : Nat -> Prop) (wx : World) (c : List Value) (x : α) : Prop :=
 ∃ wi lo, rep lo wi c x /\ B <= lo /\ wi.heap.size <= wx.heap.size /\ (∀ b, lo <= b -> b < wi.heap.size -> wx.heap[b]? = wi.heap[b]?) /\ ∀ k, G k -> k < lo ∨ wi.heap.size <= k
theorem Wz.now {G : Nat -> Prop} (h : Wz rep B G wx c x) (hk : Lo rep) : rep B wx c x := by
 obtain ⟨wi, lo, h1, h2, h3, h4, _⟩ := h
 exact hk.lower (hk.keep h1 h3 h4) h2
theorem Wz.stay {G : Nat -> Prop} (h : Wz rep B G wx c x) (hs : Zl pb wx wy) (hp : pb < B) : Wz rep B G wy c x := by
 obtain ⟨wi, lo, h1, h2, h3, h4, h5⟩ := h
 exact ⟨wi, lo, h1, h2, Nat.le_trans h3 hs.size, fun b hb hl => (hs.keep b (by omega) (by omega)).trans (h4 b hb hl), h5⟩
theorem Wz.grown {G G' : Nat -> Prop} (h : Wz rep B G wx c x) (hg : wx.grownBy w4 g) (hgG : ∀ q, g = some q -> G q) (hl : ∀ q, G' q -> G q ∨ wx.heap.size <= q) : Wz rep B G' w4 c x := by
 obtain ⟨wi, lo, h1, h2, h3, h4, h5⟩ := h
 refine ⟨wi, lo, h1, h2, Nat.le_trans h3 hg.size, fun b hb hl => (hg.block b (by omega) ?_).trans (h4 b hb hl), fun k hk => ?_⟩
 ·intro e
  rcases h5 b (hgG b e.symm) with h | h <;> omega
 ·rcases hl k hk with h | h
  ·exact h5 k h
  ·exact .inr (by omega)
theorem Wz.new {G : Nat -> Prop} (h : rep lo wx c x) (hB : B <= lo) (hg : ∀ k, G k -> k < lo) : Wz rep B G wx c x := ⟨wx, lo, h, hB, xR, fun _ _ _ => rfl, fun k hk => .inl (hg k hk)⟩
structure Ym (rep : Nat -> World -> List Value -> α -> Prop) (B et k : Nat) (o : Option Nat) (wx : World) (v : Value) (cs : List (List Value)) (xs : List α) : Prop where
 len : cs.length = xs.length
 each : ∀ c ∈ cs, c.length = k
 ow : wx.ownsRow B et k v xs.length cs.flatten
 apart : ∀ q, v.ownBlock = some q -> o ≠ some q
 olt : ∀ q, o = some q -> B <= q /\ q < wx.heap.size
 made : ∀ i (h1 : i < cs.length) (h2 : i < xs.length), Wz rep B (fun q => v.ownBlock = some q ∨ o = some q) wx cs[i] xs[i]
theorem Lb (rep : Nat -> World -> List Value -> α -> Prop) (B et k : Nat) (w : World) : Ym rep B et k none w (.slice none 0 0) [] [] :=
 ⟨rfl, (fun _ h => nomatch h), World.ownsRow_nil _ _ _ _, (fun _ h => nomatch h), (fun _ h => nomatch h), (fun _ h _ => nomatch h)⟩
variable {o o' : Option Nat}
theorem Ym.own (h : Ym rep B et k o wx v cs xs) : ∀ q, v.ownBlock = some q -> B <= q /\ q < wx.heap.size := h.ow.lt
theorem Ym.all (h : Ym rep B et k o wx v cs xs) : ∀ q, v.ownBlock = some q ∨ o = some q -> q < wx.heap.size := fun q hq => hq.elim (fun e => (h.own q e).2) fun e => (h.olt q e).2
theorem Ym.stay (h : Ym rep B et k o wx v cs xs) (hs : Zl pb wx wy) (hp : pb < B) : Ym rep B et k o wy v cs xs := by
 refine ⟨h.len, h.each, ?_, h.apart, fun q hq => ⟨(h.olt q hq).1, xT (h.olt q hq).2 hs.size⟩, fun i h1 h2 => (h.made i h1 h2).stay hs hp⟩
 obtain ⟨o1, o2⟩ := h.ow
 refine ⟨o1, ?_⟩
 rcases o2 with o2 | ⟨g, cap, cur, e, hg, hh, r⟩
 ·exact .inl o2
 ·exact .inr ⟨g, cap, cur, e, hg, (hs.keep g (by omega) (xB hh)).trans hh, r⟩
theorem Ym.beside (h : Ym rep B et k o wx v cs xs) (hg : wx.grownBy w4 o) (hl : o' = o ∨ ∃ q, o' = some q /\ wx.heap.size <= q /\ q < w4.heap.size) (hB : B <= wx.heap.size) : Ym rep B et k o' w4 v cs xs := by
 refine ⟨h.len, h.each, h.ow.kept hg ?_, fun q hq e => ?_, fun q hq => ?_, fun i h1 h2 => (h.made i h1 h2).grown hg (fun q hq => .inr hq) fun q hq => ?_⟩
 ·cases hv : v.ownBlock with
  | none => exact .inl rfl
  | some q => exact .inr fun e => h.apart q hv e.symm
 ·rcases hl with rfl | ⟨r, rfl, hr, _⟩
  ·exact h.apart q hq e
  ·injection e with e
   have := (h.own q hq).2;omega
 ·rcases hl with rfl | ⟨r, rfl, hr, Hj⟩
  ·exact ⟨(h.olt q hq).1, xT (h.olt q hq).2 hg.size⟩
  ·injection hq with hq
   exact ⟨by omega, by omega⟩
 ·rcases hq with hq | hq
  ·exact .inl (.inl hq)
  ·rcases hl with rfl | ⟨r, rfl, hr, _⟩
   ·exact .inl (.inr hq)
   ·injection hq with hq
    exact .inr (by omega)
theorem Ym.put (h : Ym rep B et k o wx v cs xs) (hw : w4.ownsRow B et k v' (xs.length + 1) (cs.flatten ++ c)) (hg : wy.grownBy w4 v.ownBlock) (hl' : v'.ownBlock = v.ownBlock ∨ ∃ k, v'.ownBlock = some k /\ wy.heap.size <= k)
  (hxy : Zl pb wx wy) (hp : pb < B) (hc : c.length = k) (hm : Wz rep B (fun q => v.ownBlock = some q ∨ o = some q) wy c x) : Ym rep B et k o w4 v' (cs ++ [c]) (xs ++ [x]) := by
 have hG : ∀ q, v'.ownBlock = some q ∨ o = some q -> (v.ownBlock = some q ∨ o = some q) ∨ wy.heap.size <= q := by
  intro q hq;rcases hq with hq | hq
  ·rcases hl' with e | ⟨r, e, hr⟩
   ·exact .inl (.inl (e ▸ hq))
   ·rw [e] at hq
    injection hq with hq;exact .inr (by omega)
  ·exact .inl (.inr hq)
 refine ⟨by simp [h.len], ?_, ?_, fun q hq e => ?_, fun q hq => ⟨(h.olt q hq).1, ?_⟩, fun i h1 h2 => ?_⟩
 ·intro y hy
  rcases List.mem_append.1 hy with hy | hy
  ·exact h.each y hy
  ·rw [List.mem_singleton.1 hy]
   exact hc
 ·rw [List.length_append, List.flatten_append]
  simpa using hw
 ·rcases hl' with e' | ⟨r, e', hr⟩
  ·exact h.apart q (e' ▸ hq) e
  ·rw [e'] at hq
   injection hq with hq;have := (h.olt q e).2;have := hxy.size;omega
 ·have := (h.olt q hq).2
  have := hxy.size;have := hg.size;omega
 ·by_cases hi : i < cs.length
  ·rw [List.getElem_append_left hi, List.getElem_append_left (by rw [<- h.len]; exact hi)]
   exact ((h.made i hi (by rw [<- h.len]; exact hi)).stay hxy hp).grown hg (fun q hq => .inl hq) hG
  ·have Qs : i = cs.length := by simp at h1; omega
   have e1 : (cs ++ [c])[i] = c := by
    rw [List.getElem_append_right (by omega)];simp
   have e2 : (xs ++ [x])[i] = x := by
    rw [List.getElem_append_right (by rw [<- h.len]; omega)];simp
   rw [e1, e2];exact hm.grown hg (fun q hq => .inl hq) hG
theorem Zl.grown {w : World} (h : Zl pb w wx) (hg : wx.grownBy w4 g) (hp : pb < w.heap.size) (hr : ∀ k, g = some k -> w.heap.size <= k) : Zl pb w w4 where
 below := h.below.grown hg (by have := h.size; omega) fun k hk => by have := hr k hk; omega
 keep := fun b hb hl => (hg.block b (by have := h.size; omega) (fun e => by have := hr b e.symm; omega)).trans (h.keep b hb hl)
theorem Ps.grown {tb cap a d : Nat} {ts : List Tok} (h : Ps wx pb tb cap ts a d) (hg : wx.grownBy w4 g) (hr : ∀ k, g = some k -> pb < k) : Ps w4 pb tb cap ts a d :=
 ⟨(hg.block _ h.ltp (fun e => by have := hr _ e.symm; omega)).trans h.blk, h.tlt, Qk h.toks (hg.block _ (Nat.lt_trans h.tlt h.ltp) (fun e => by have := hr _ e.symm; have := h.tlt; omega)), h.lt⟩
theorem Aq (h : rep lo wx c x) (hB : B <= lo) (hBw : B <= wx.heap.size) (hc : c.length = k) : Ym rep B et k none (wx.alloc (.cells c.toArray et)) (.slice (some ⟨wx.heap.size, 0, none⟩) 1 1) [c] [x] := by
 refine ⟨rfl, fun y hy => by rw [List.mem_singleton.1 hy]; exact hc, ⟨by simp [hc], .inr ⟨_, 1, c.toArray, rfl, hBw, xL _ _, xR, by unfold maxLen; omega, by simp [hc], by simp [<- hc]⟩⟩, (fun _ _ h => nomatch h), (fun _ h => nomatch h), fun i h1 h2 => ?_⟩
 have hi : i = 0 := by simp at h1; exact h1
 subst hi
 exact ⟨wx, lo, h, hB, by simp, fun b _ hl => xA hl, fun q hq => by
  rcases hq with hq | hq
  ·simp [Value.ownBlock] at hq
   exact .inr (by omega)
  ·cases hq⟩
theorem U9 {n z : Nat} {ys : List Value} (h : wx.ownsRow B et z v n ys) : ∃ a cap, v = .slice a n cap := by
 rcases h.2 with ⟨h1, h2⟩ | ⟨g, cap, cur, h1, _⟩
 ·exact ⟨none, 0, by rw [h1, h2]⟩
 ·exact ⟨_, _, h1⟩
theorem Pt (W : World) (c : List Value) (t : TypeId) : ∀ j u, c[j]? = some u -> (W.alloc (.cells c.toArray t)).cell? ((⟨W.heap.size, 0, none⟩ : Addr).add j) = some u := by
 intro j u hj
 have Fq : (⟨W.heap.size, 0, none⟩ : Addr).add j = ⟨W.heap.size, j, none⟩ := by unfold Addr.add; split <;> simp_all
 rw [Fq, cell_of_row _ _ j _ t (0, 0) (xL W _)]
 simpa using hj
theorem Cw : ∀ (cs : List (List Value)), (∀ c ∈ cs, c.length = k) -> ∀ (i : Nat) (hi : i < cs.length) (j : Nat), j < k -> cs.flatten[i * k + j]? = cs[i][j]?
 | [], _, _, hi, _, _ => by cases hi
 | c :: cs, h, 0, _, j, hj => by
  rw [List.flatten_cons, List.getElem?_append_left (by rw [h c (xM ..)]; omega)];simp
 | c :: cs, h, i + 1, hi, j, hj => by
  have hc := h c (xM ..)
  have e : (i + 1) * k + j = k + (i * k + j) := by rw [Nat.add_mul, Nat.one_mul]; omega
  rw [List.flatten_cons, List.getElem?_append_right (by rw [hc, e]; omega), hc, e, Nat.add_sub_cancel_left];exact Cw cs (fun c hc => h c (xW _ hc)) i (by simpa using hi) j hj
theorem Ym.form (h : Ym rep B et k o wx v cs xs) (hk : Lo rep) : ∃ (a : Option Addr) (cap : Nat), v = .slice a xs.length cap /\ xs.length <= cap /\ (xs = [] ∨ ∃ g, a = some ⟨g, 0, none⟩ /\ B <= g /\ N0 wx g /\
  ∀ i (hi : i < xs.length), ∃ c : List Value, c.length = k /\ (∀ j, j < k -> wx.cell? ⟨g, i * k + j, none⟩ = c[j]?) /\ rep B wx c xs[i]) := by
 rcases h.ow.2 with ⟨rfl, h0⟩ | ⟨g, cap, cur, rfl, hg, hh, S7, _, _, hcur⟩
 ·exact ⟨none, 0, by rw [h0], by omega, .inl (List.length_eq_zero_iff.1 h0)⟩
 ·refine ⟨_, cap, rfl, S7, .inr ⟨g, rfl, hg, ⟨_, _, hh⟩, fun i hi => ?_⟩⟩
  have Qs : i < cs.length := by rw [h.len]; exact hi
  refine ⟨cs[i], h.each _ (List.getElem_mem Qs), fun j hj => ?_, (h.made i Qs hi).now hk⟩
  have Zo : i * k + j < xs.length * k := by
   have : (i + 1) * k <= xs.length * k := Nat.mul_le_mul_right _ hi;rw [Nat.add_mul, Nat.one_mul] at this;omega
  rw [h.ow.cellAt (i * k + j) Zo];exact Cw cs h.each i Qs j hj
end
def Yb (lo : Nat) (w : World) (v : Value) (D : Ty) : Prop := ∃ m, Bc w lo m v D
def Nq (lo : Nat) (w : World) (c : List Value) (D : Ty) : Prop := Yb lo w (.agg c.toArray) D
theorem Om : Lo Nq where
 keep := fun ⟨m, h⟩ hs hk => ⟨m, On h hs hk⟩
 lower := fun ⟨m, h⟩ hl => ⟨m, yP h hl⟩
theorem Yb.cells {lo : Nat} {w : World} {v : Value} {D : Ty} (h : Yb lo w v D) : ∃ (k : Int) (nm : ByteArray) (na : Option Addr) (nl nc : Nat) (ka : Option Addr) (kl kc : Nat), v = .agg #[.int .i64 k, .string nm, .slice na nl nc, .slice ka kl kc] := by
 obtain ⟨m, h⟩ := h
 obtain ⟨k, nm, na, nl, nc, ka, kl, kc, e, _⟩ := pV h
 exact ⟨k, nm, na, nl, nc, ka, kl, kc, e⟩
theorem wG {lo : Nat} {w : World} : ∀ (l : List (Value × Ty)), (∀ p ∈ l, Yb lo w p.1 p.2) -> ∃ m, ∀ p ∈ l, Bc w lo m p.1 p.2
 | [], _ => ⟨0, fun _ h => nomatch h⟩
 | p :: l, h => by
  obtain ⟨m1, h1⟩ := h p (xM ..)
  obtain ⟨m2, h2⟩ := wG l fun q hq => h q (xW _ hq)
  refine ⟨max m1 m2, fun q hq => ?_⟩;rcases List.mem_cons.1 hq with rfl | hq
  ·exact Gg h1 (Nat.le_max_left _ _)
  ·exact Gg (h2 q hq) (Nat.le_max_right _ _)
theorem G3 {B et : Nat} {wx : World} {v : Value} {cs : List (List Value)} {xs : List Ty} {o : Option Nat} (h : Ym Nq B et 4 o wx v cs xs) : ∃ (a : Option Addr) (cap m : Nat), v = .slice a xs.length cap /\ xs.length <= cap /\ Ut wx B m a xs := by
 obtain ⟨a, cap, e, S7, hr⟩ := h.form Om
 have Ux : ∀ p ∈ (cs.map fun c => (Value.agg c.toArray)).zip xs, Yb B wx p.1 p.2 := by
  intro p hp;obtain ⟨i, hi, rfl⟩ := List.mem_iff_getElem.1 hp;simp only [List.getElem_zip, List.getElem_map];simp only [List.length_zip, List.length_map] at hi;exact (h.made i (by omega) (by omega)).now Om
 obtain ⟨m, hm⟩ := wG _ Ux
 refine ⟨a, cap, m, e, S7, ?_⟩
 rcases h.ow.2 with ⟨e2, h0⟩ | ⟨g, cap2, cur, e2, hg, hh, _⟩
 ·exact .inl (List.length_eq_zero_iff.1 h0)
 ·rw [e] at e2
  injection e2 with e3 e4 e5;refine .inr ⟨g, 0, e3, hg, ⟨_, _, hh⟩, fun i hi => ?_⟩
  have Qs : i < cs.length := by rw [h.len]; exact hi
  have hc4 := h.each _ (List.getElem_mem Qs)
  have hT : Bc wx B m (.agg cs[i].toArray) xs[i] := by
   refine hm (.agg cs[i].toArray, xs[i]) (List.mem_iff_getElem.2 ⟨i, by simp; omega, by simp⟩)
  have U6 : ∀ j, j < 4 -> wx.cell? ⟨g, 0 + i * 4 + j, none⟩ = cs[i][j]? := by
   intro j hj;have ho := h.ow;rw [e, e3] at ho;rw [show 0 + i * 4 + j = i * 4 + j by omega, ho.cellAt (i * 4 + j) (by omega)];exact Cw cs h.each i Qs j hj
  match hcs : cs[i], hc4 with
  | [c0, c1, c2, c3], _ =>
   rw [hcs] at U6 hT;exact ⟨c0, c1, c2, c3, U6 0 (by omega), U6 1 (by omega), U6 2 (by omega), U6 3 (by omega), hT⟩
def K3 {α : Type} (ts : List Tok) (one : Nat -> Pr α) (sep : List UInt8) (R : Pr (List α)) (acc : List α) (f a : Nat) : Prop :=
 R = if Zh ts a sep then (Yd ts one sep f (a + 1)).go fun l b => .inl (acc ++ l, b) else .inl (acc, a)
theorem Iw {α : Type} {ts : List Tok} {one : Nat -> Pr α} {sep : List UInt8} {f a b : Nat} {x : α} (h : one a = .inl (x, b)) : K3 ts one sep (Yd ts one sep (f + 1) a) [x] f b := by
 unfold K3
 rw [Yd, h]
 rfl
theorem Iq {α : Type} {ts : List Tok} {one : Nat -> Pr α} {sep : List UInt8} {f a : Nat} {e : Int × Nat × Nat} (h : one a = .inr e) : Yd ts one sep (f + 1) a = .inr e := by
 rw [Yd, h]
 rfl
theorem Iv {α : Type} {ts : List Tok} {one : Nat -> Pr α} {sep : List UInt8} {R : Pr (List α)} {acc : List α} {f a b : Nat} {x : α} (h : K3 ts one sep R acc (f + 1) a) (hs : Zh ts a sep = true) (ho : one (a + 1) = .inl (x, b)) : K3 ts one sep R (acc ++ [x]) f b := by
 unfold K3 at h ⊢
 rw [h, if_pos hs, Yd, ho]
 show Pr.go (Pr.go (.inl (x, b)) _) _ = _
 unfold Pr.go
 by_cases hb : Zh ts b sep = true
 ·rw [if_pos hb]
  simp only [hb, if_true]
  cases Yd ts one sep f (b + 1) with
  | inl p => simp
  | inr e => rfl
 ·simp only [hb]
  simp
theorem Iu {α : Type} {ts : List Tok} {one : Nat -> Pr α} {sep : List UInt8} {R : Pr (List α)} {acc : List α} {f a : Nat} {e : Int × Nat × Nat} (h : K3 ts one sep R acc (f + 1) a) (hs : Zh ts a sep = true) (ho : one (a + 1) = .inr e) : R = .inr e := by
 unfold K3 at h
 rw [h, if_pos hs, Yd, ho]
 rfl
theorem Ir {α : Type} {ts : List Tok} {one : Nat -> Pr α} {sep : List UInt8} {R : Pr (List α)} {acc : List α} {f a : Nat} (h : K3 ts one sep R acc f a) (hs : Zh ts a sep = false) : R = .inl (acc, a) := by
 unfold K3 at h
 rw [h, if_neg (by simp [hs])]
abbrev Mx (g pb : Nat) : Prop := ∀ w, (callFunc g #[pP pb]).run prog w = .ok (.enter g #[pP pb]) w
def TysE (lo : Nat) (w : World) (v : Value) (xs : List Ty) : Prop := ∃ cs, Ym Nq lo 42 4 none w v cs xs
structure Xg {α : Type} (pb tb cap d : Nat) (ts : List Tok) (rep : Nat -> World -> Value -> α -> Prop) (g : Nat) (one : Nat -> Pr α) : Prop where
 calls : ∀ a w, Ps w pb tb cap ts a d -> Calls prog g #[pP pb] w (Z7 pb tb cap ts d w rep (one a))
 enters : Mx g pb
 up : ∀ a x b, one a = .inl (x, b) -> a <= b
theorem uO (pb tb cap d : Nat) (ts : List Tok) (sep : List UInt8) (g : Nat) (one : Nat -> Pr Ty) (hg : Xg pb tb cap d ts Yb g one)
  (f a : Nat) (hf : ts.length <= a + (f + 1)) (w : World) (h : Ps w pb tb cap ts a d) (ok : Yh ts) :
  Calls prog 126 #[pP pb, .string ⟨sep.toArray⟩, .func (.func g) #[] #[]] w (Z7 pb tb cap ts d w TysE (Yd ts one sep (f + 1) a)) := by
 have H := Za h
 have OK := Za ok
 have HG := Za hg
 have Vv := hg.enters
 clear h ok hg
 have HO := Za (HG.o.calls a w H.o)
 have HF := Za hf
 clear hf
 cases ho : one a with
 | inr x =>
  obtain ⟨er, li, co⟩ := x;rw [Iq ho];rw [ho] at HO;clear ho;go_enter func126, ntmps126;go_wp2_with fail;refine HO.o.mono ?_;rintro e w1 ⟨Zb, rfl⟩;have Zu := Za Zb;clear Zb;go_wp2_with fail;exact ⟨rfl, Zu.o, rfl⟩
 | inl x =>
  obtain ⟨D0, a1⟩ := x;have HM := Za (Iw (ts := ts) (sep := sep) (f := f) ho);have HU := Za (HG.o.up _ _ _ ho);rw [ho] at HO;clear ho;obtain ⟨R, hR⟩ := xE (Yd ts one sep (f + 1) a);rw [<- hR] at HM ⊢;clear hR;obtain ⟨i0, hi, Wp, Xy, Wr⟩ := info_parts Dp;go_enter func126, ntmps126;go_wp2_with fail;refine HO.o.mono ?_;rintro e w1 ⟨Zb, Zc, v, rfl, hv⟩;obtain ⟨k1, nm1, na1, nl1, nc1, ka1, kl1, kc1, rfl⟩ := hv.cells
  have Yk := Za (Aq (B := w.heap.size) (et := 42) (k := 4) (rep := Nq) (c := [.int .i64 k1, .string nm1, .slice na1 nl1 nc1, .slice ka1 kl1 kc1]) hv (xR) Zb.size rfl);have Zu := Za (Zb.alloc H.o.ltp (.cells #[.int .i64 k1, .string nm1, .slice na1 nl1 nc1, .slice ka1 kl1 kc1] 42));have HP := Za (Zc.alloc (.cells #[.int .i64 k1, .string nm1, .slice na1 nl1 nc1, .slice ka1 kl1 kc1] 42));clear Zb Zc hv
  have N6 : xQ (ts.length <= a1 + (f + 1)) := by have := HF.o; have := HU.o; show _ <= _; omega
  go_wp2_with fail
  go_loopg [7] (ts.length - a1) (fun gk s wr => ∃ (b m : Nat) (cs : List (List Value)) (acc : List Ty), xQ (Ym Nq w.heap.size 42 4 none wr s cs acc) /\ xQ (Zl pb w wr) /\ xQ (Ps wr pb tb cap ts b d) /\ xQ (K3 ts one sep R acc m b) /\ xQ (ts.length <= b + (m + 1)) /\ xQ (acc.length <= b + 1) /\ ts.length - b <= gk)
  case atStart => exact ⟨a1, f, _, _, Yk, Zu, HP, HM, N6, (show 1 <= a1 + 1 by omega), xR⟩
  case round =>
   clear Yk Zu HP HM N6 HU HO;obtain ⟨b, m, cs, acc, HRw, Wy, Vy, HMa, U1, Pn, Ts⟩ := hrel;have HT := Za (V6 pb tb cap b d ts sep wr Vy.o OK.o)
   cases hs : Zh ts b sep with
   | false =>
    have HE := Za (Ir HMa.o hs);rw [hs, if_neg (by simp)] at HT;clear hs;go_wp2_with fail;refine HT.o.mono ?_;rintro e w2 ⟨rfl, Zb, Zc⟩;have Zu := Za (Wy.o.trans Zb);have Q7 := Za Zc;have Vp := Za (HRw.o.stay Zb H.o.ltp);clear Zb Zc;go_wp2_with fail;go_ret;rw [HE.o];exact ⟨Zu.o, Q7.o, _, rfl, _, Vp.o⟩
   | true =>
    have Z8 : b + 1 < ts.length := Q4 OK.o.ends Vy.o.lt hs
    obtain ⟨m, rfl⟩ : ∃ q, m = q + 1 := ⟨m - 1, by have := U1.o; omega⟩
    have Ub := Za hs;rw [hs, if_pos rfl] at HT;clear hs;go_wp2_with fail;refine HT.o.mono ?_;rintro e w2 ⟨rfl, Zb, Zc⟩;have Zu := Za (Wy.o.trans Zb);have Q7 := Za Zc;have Vp := Za (HRw.o.stay Zb H.o.ltp);clear Zb Zc;have HO := Za (HG.o.calls (b + 1) w2 Q7.o)
    cases ho : one (b + 1) with
    | inr x =>
     obtain ⟨er, li, co⟩ := x;have HE := Za (Iu HMa.o Ub.o ho);rw [ho] at HO;clear ho;go_wp2_with fail;refine HO.o.mono ?_;rintro e w3 ⟨Zb, rfl⟩;have V8 := Za (Zu.o.trans Zb);clear Zb;go_wp2_with fail;rw [HE.o];exact ⟨rfl, V8.o, rfl⟩
    | inl x =>
     obtain ⟨D1, b1⟩ := x;have HM2 := Za (Iv HMa.o Ub.o ho);have HU2 := Za (HG.o.up _ _ _ ho);rw [ho] at HO;clear ho;obtain ⟨av, cv, rfl⟩ := U9 Vp.o.ow;go_wp2_with fail;refine HO.o.mono ?_;rintro e w3 ⟨Zb, Zc, v, rfl, hv⟩;obtain ⟨k1, nm1, na1, nl1, nc1, ka1, kl1, kc1, rfl⟩ := hv.cells;have V8 := Za (Zu.o.trans Zb);have Kz := Za Zc;have HS23 := Za Zb;have HV := Za hv;have Kb := Za (Vp.o.stay Zb H.o.ltp)
     clear Zb Zc hv
     have M9 : acc.length <= 8193 := by have := Pn.o; have := OK.o.len; omega
     go_wp2_with (at_builtin; refine wpList_append_own_at _ rfl (.tmp 17) (.tmp 21) 34 rfl w.heap.size 42 i0 _ 4 72 underlying34 hi Wp Xy Wr rfl (by decide) _ _ _ rfl (Kb.o.ow.alloc _) ⟨_, 0, none⟩ 1 1 [.int .i64 k1, .string nm1, .slice na1 nl1 nc1, .slice ka1 kl1 kc1] rfl rfl (Pt _ _ _) (by simp [Value.oneCell']) (by unfold maxLen; omega) (by omega) (by have := V8.o.size; simp; omega) ?_)
     intro v' w4 Z1 Zy _ Ys
     have Xi : xQ (Ym Nq w.heap.size 42 4 none w4 v' (cs ++ [[.int .i64 k1, .string nm1, .slice na1 nl1 nc1, .slice ka1 kl1 kc1]]) (acc ++ [D1])) :=
      Kb.o.put Z1 Zy (Ys.imp_right fun e => ⟨_, e, by simp⟩) ((Zl.refl pb w3).alloc Kz.o.ltp _) H.o.ltp rfl ((Wz.new (rep := Nq) HV.o Zu.o.size fun q hq => Vp.o.all q hq).stay ((Zl.refl pb w3).alloc Kz.o.ltp _) H.o.ltp)
     have Qa : xQ (Zl pb w w4) := (V8.o.alloc H.o.ltp _).grown Zy H.o.ltp fun q hq => (Kb.o.own q hq).1
     have Ju : xQ (Ps w4 pb tb cap ts b1 d) := (Kz.o.alloc _).grown Zy fun q hq => xT H.o.ltp (Kb.o.own q hq).1
     clear Z1 Zy Ys;go_wp2_with fail
     go_roundg (ts.length - b1)
     case measure => have := HU2.o; have := Ju.o.lt; omega
     case rel => exact ⟨b1, m, _, _, Xi, Qa, Ju, HM2, (by have := U1.o; have := HU2.o; show _ <= _; omega), (by have := Pn.o; have := HU2.o; show (acc ++ [D1]).length <= _; simp; omega), xR⟩
def Mo {α : Type} (ts : List Tok) (K : Nat -> Pr α) (f a : Nat) : Pr (List (List UInt8 × α)) :=
 if Zh ts a [125] then .inl ([], a + 1) else (Yd ts (Tg ts K) [44] f a).go fun l b => (Ze ts b [125]).go fun _ b => .inl (l, b)
def N3 {α : Type} (ts : List Tok) (K : Nat -> Pr α) (R : Pr (List (List UInt8 × α))) (acc : List (List UInt8 × α)) (f a : Nat) : Prop :=
 R = (Yd ts (Tg ts K) [44] f a).go fun l b => (Ze ts b [125]).go fun _ b => .inl (acc ++ l, b)
section
variable {α : Type} {ts : List Tok} {K : Nat -> Pr α} {R : Pr (List (List UInt8 × α))} {acc : List (List UInt8 × α)} {f a b c e' : Nat} {s : List UInt8} {x : α} {e : Int × Nat × Nat} {u : Unit}
theorem wU (h : Zh ts a [125] = false) : N3 ts K (Mo ts K f a) [] f a := by
 unfold N3 Mo
 rw [if_neg (by simp [h])]
 rfl
theorem O6 (h : Zh ts a [125] = true) : Mo ts K f a = .inl ([], a + 1) := by
 unfold Mo
 rw [if_pos h]
theorem wT (h : N3 ts K R acc (f + 1) a) (hn : Zr ts a = .inr e) : R = .inr e := by
 unfold N3 at h
 rw [h, Yd, Tg, hn]
 rfl
theorem wR (h : N3 ts K R acc (f + 1) a) (hn : Zr ts a = .inl (s, b)) (hc : Ze ts b [58] = .inr e) : R = .inr e := by
 unfold N3 at h
 rw [h, Yd, Tg, hn]
 show Pr.go (Pr.go (Pr.go (Ze ts b [58]) _) _) _ = _
 rw [hc]
 rfl
theorem wV (h : N3 ts K R acc (f + 1) a) (hn : Zr ts a = .inl (s, b)) (hc : Ze ts b [58] = .inl (u, c)) (hv : K c = .inr e) : R = .inr e := by
 unfold N3 at h
 rw [h, Yd, Tg, hn]
 show Pr.go (Pr.go (Pr.go (Ze ts b [58]) _) _) _ = _
 rw [hc]
 show Pr.go (Pr.go (Pr.go (K c) _) _) _ = _
 rw [hv]
 rfl
theorem O7 (h : N3 ts K R acc (f + 1) a) (hn : Zr ts a = .inl (s, b)) (hc : Ze ts b [58] = .inl (u, c)) (hv : K c = .inl (x, e')) :
  R = if Zh ts e' [44] then (Yd ts (Tg ts K) [44] f (e' + 1)).go fun l b => (Ze ts b [125]).go fun _ b => .inl (acc ++ (s, x) :: l, b) else (Ze ts e' [125]).go fun _ b => .inl (acc ++ [(s, x)], b) := by
 unfold N3 at h
 rw [h, Yd, Tg, hn]
 show Pr.go (Pr.go (Pr.go (Ze ts b [58]) _) _) _ = _
 rw [hc]
 show Pr.go (Pr.go (Pr.go (K c) _) _) _ = _
 rw [hv]
 show Pr.go (if Zh ts e' [44] then _ else _) _ = _
 by_cases hs : Zh ts e' [44] = true
 ·rw [if_pos hs, if_pos hs]
  cases Yd ts (Tg ts K) [44] f (e' + 1) with
  | inl p => rfl
  | inr p => rfl
 ·rw [if_neg hs, if_neg hs]
  rfl
theorem Ie (h : N3 ts K R acc (f + 1) a) (hn : Zr ts a = .inl (s, b)) (hc : Ze ts b [58] = .inl (u, c)) (hv : K c = .inl (x, e')) {y : Nat} (hg : Gq ts e' [44] [125] = .inl (true, y)) : N3 ts K R (acc ++ [(s, x)]) f y /\ y = e' + 1 := by
 have h1 := O7 h hn hc hv
 unfold Gq at hg
 by_cases hs : Zh ts e' [44] = true
 ·rw [if_pos hs] at hg h1
  injection hg with hg;injection hg with _ hg;subst hg;refine ⟨?_, rfl⟩;unfold N3;rw [h1];simp
 ·rw [if_neg hs] at hg
  cases hw : Ze ts e' [125] with
  | inl p => rw [hw] at hg; injection hg with hg; injection hg with hg; cases hg
  | inr p => rw [hw] at hg; cases hg
theorem Id (h : N3 ts K R acc (f + 1) a) (hn : Zr ts a = .inl (s, b)) (hc : Ze ts b [58] = .inl (u, c)) (hv : K c = .inl (x, e')) {y : Nat} (hg : Gq ts e' [44] [125] = .inl (false, y)) : R = .inl (acc ++ [(s, x)], y) /\ e' <= y := by
 have h1 := O7 h hn hc hv
 unfold Gq at hg
 by_cases hs : Zh ts e' [44] = true
 ·rw [if_pos hs] at hg
  injection hg with hg;injection hg with hg;cases hg
 ·rw [if_neg hs] at hg h1
  rw [h1];unfold Ze at hg ⊢;by_cases ht : Zh ts e' [125] = true
  ·rw [if_pos ht] at hg ⊢
   injection hg with hg;injection hg with _ hg;subst hg;exact ⟨rfl, by omega⟩
  ·rw [if_neg ht] at hg
   cases hg
theorem wS (h : N3 ts K R acc (f + 1) a) (hn : Zr ts a = .inl (s, b)) (hc : Ze ts b [58] = .inl (u, c)) (hv : K c = .inl (x, e')) (hg : Gq ts e' [44] [125] = .inr e) : R = .inr e := by
 have h1 := O7 h hn hc hv
 unfold Gq at hg
 by_cases hs : Zh ts e' [44] = true
 ·rw [if_pos hs] at hg
  cases hg
 ·rw [if_neg hs] at hg h1
  rw [h1]
  cases hw : Ze ts e' [125] with
  | inl p => rw [hw] at hg; cases hg
  | inr p =>
   rw [hw] at hg;injection hg with hg;rw [hg];rfl
end
theorem Gw {ts : List Tok} {a b : Nat} {s : List UInt8} (h : Zr ts a = .inl (s, b)) : b = a + 1 := by
 unfold Zr at h
 split at h
 ·injection h with h; injection h with _ h; exact h.symm
 ·cases h
theorem Ck {ts : List Tok} {a b : Nat} {s : List UInt8} {u : Unit} (h : Ze ts a s = .inl (u, b)) : b = a + 1 := by
 unfold Ze at h
 split at h
 ·injection h with h; injection h with _ h; exact h.symm
 ·cases h
theorem qI {fn : Func} {t u : Tmp} (h : fn.results = #[.tmp t, .tmp u]) (tmps : Array Value) (P : Program) (w : World) : (results fn tmps).run P w = .ok (.tuple #[tmps.getD t undef, tmps.getD u undef]) w := by
 simp [results, h]
def Qc (_ : Nat) (_ : World) (c : List Value) (s : List UInt8) : Prop := c = [.string ⟨s.toArray⟩]
theorem strC_k : Lo Qc where
 keep := fun h _ _ => h
 lower := fun h _ => h
def yY (lo : Nat) (w : World) (v : Value) (l : List (List UInt8 × Ty)) : Prop := ∃ vn vv cn cv, v = .tuple #[vn, vv] /\ Ym Qc lo 9 1 vv.ownBlock w vn cn (l.map (·.1)) /\ Ym Nq lo 42 4 vn.ownBlock w vv cv (l.map (·.2))
theorem wQ (pb tb cap d : Nat) (ts : List Tok) (g : Nat) (K : Nat -> Pr Ty) (hg : Xg pb tb cap d ts Yb g K)
  (f a : Nat) (hf : ts.length <= a + (f + 1)) (w : World) (h : Ps w pb tb cap ts a d) (ok : Yh ts) :
  Calls prog 148 #[pP pb, .func (.func g) #[] #[]] w (Z7 pb tb cap ts d w yY (Mo ts K (f + 1) a)) := by
 have H := Za h
 have OK := Za ok
 have HG := Za hg
 have Vv := hg.enters
 clear h ok hg
 have HT := Za (V6 pb tb cap a d ts [125] w H.o OK.o)
 have HF := Za hf
 clear hf
 obtain ⟨R, hR⟩ := xE (Mo ts K (f + 1) a)
 rw [<- hR]
 obtain ⟨sb, Ws⟩ := xE (Zh ts a [125])
 rw [<- Ws] at HT
 have HR := Za hR
 have HSB := Za Ws
 clear hR Ws
 have hnot : ∀ (x : Bool) (w : World), (Op.unary .not (.bool x)).run prog w = .ok (.bool (!x)) w := fun _ _ => rfl
 obtain ⟨i0, hi, Wp, Xy, Wr⟩ := info_parts Dp
 obtain ⟨s0, si, sz0, sz1, sz2⟩ := info_parts Ri
 go_enter func148, ntmps148
 go_wp2_with fail
 refine HT.o.mono ?_
 rintro e w1 ⟨rfl, Zb, Zc⟩
 have Zu := Za Zb
 have HP := Za Zc
 clear Zb Zc
 go_wp2_with fail
 go_loopg [6, 7, 8] (ts.length + 2) (fun gk vn vv mo wr => ∃ (b m : Nat) (cn cv : List (List Value)) (acc : List (List UInt8 × Ty)) (ns : List (List UInt8)) (ks : List Ty) (mb : Bool), mo = .bool mb /\ xQ (ns = acc.map (·.1) /\ ks = acc.map (·.2)) /\ xQ (Ym Qc w.heap.size 9 1 vv.ownBlock wr vn cn ns) /\ xQ (Ym Nq w.heap.size 42 4 vn.ownBlock wr vv cv ks) /\ xQ (Zl pb w wr) /\ xQ (Ps wr pb tb cap ts b d) /\ xQ (acc.length <= b) /\ xQ (ts.length <= b + (m + 1)) /\ xQ (mb = true -> N3 ts K R acc (m + 1) b /\ ts.length - b + 1 <= gk) /\ xQ (mb = false -> R = .inl (acc, b)))
 case atStart =>
  refine ⟨_, f, [], [], [], [], [], _, rfl, ⟨rfl, rfl⟩, Lb _ _ _ _ _, Lb _ _ _ _ _, Zu, HP, xZ _, ?_, fun h => ?_, fun h => ?_⟩
  ·have := HF.o
   show _ <= _
   split <;> omega
  ·have hs : sb = false := by simpa using h
   rw [hs] at HSB ⊢;exact ⟨by rw [HR.o]; exact wU HSB.o.symm, by have := HF.o; simp; omega⟩
  ·have hs : sb = true := by simpa using h
   rw [hs] at HSB ⊢;rw [HR.o];exact O6 HSB.o.symm
 case round =>
  clear Zu HP HT HR HSB;obtain ⟨b, m, cn, cv, acc, ns, ks, mb, rfl, Tp, HN, HV, Wy, Vy, Pn, U1, HTr, HFa⟩ := hrel
  cases mb with
  | false =>
   have HE := Za (HFa.o rfl);clear HFa HTr;go_wp2_with fail;refine bodyPost_ret (qI rfl _ _ _) rfl ?_;rw [HE.o];exact ⟨Wy.o, Vy.o, _, rfl, _, _, cn, cv, rfl, Tp.o.1 ▸ HN.o, Tp.o.2 ▸ HV.o⟩
  | true =>
   have Px := Za (HTr.o rfl).1;have Ts := (HTr.o rfl).2;clear HFa HTr;obtain ⟨av, lv, rfl⟩ := U9 HN.o.ow;obtain ⟨av2, lv2, rfl⟩ := U9 HV.o.ow;have HO := Za (Jo pb tb cap b d ts wr Vy.o OK.o)
   cases hn : Zr ts b with
   | inr x =>
    obtain ⟨er, li, co⟩ := x;have HE := Za (wT Px.o hn);rw [hn] at HO;clear hn;go_wp2_with fail;refine HO.o.mono ?_;rintro e w2 ⟨Zb, rfl⟩;have Zu := Za (Wy.o.trans Zb);clear Zb;go_wp2_with fail;rw [HE.o];exact ⟨rfl, Zu.o, rfl⟩
   | inl x =>
    obtain ⟨s, b1⟩ := x;have Li := Za hn;have Zt := Gw hn;rw [hn] at HO;clear hn
    have M9 : acc.length <= 8193 := by have := Pn.o; have := OK.o.len; have := Vy.o.lt; omega
    have A8 : ns.length <= 8193 := by rw [Tp.o.1]; simpa using M9
    have hac2 : ks.length <= 8193 := by rw [Tp.o.2]; simpa using M9
    go_wp2_with fail;refine HO.o.mono ?_;rintro e w2 ⟨Zb, Zc, v, rfl, rfl⟩;have Zu := Za (Wy.o.trans Zb);have Q7 := Za Zc;have Xz := Za (HN.o.stay Zb H.o.ltp);have M2 := Za (HV.o.stay Zb H.o.ltp);clear Zb Zc
    go_wp2_with (at_builtin; refine wpList_append_own_at _ rfl (.tmp 19) (.tmp 24) 35 rfl w.heap.size 9 s0 _ 1 16 underlying35 si sz0 sz1 sz2 rfl (by decide) _ _ _ rfl (Xz.o.ow.alloc _) ⟨_, 0, none⟩ 1 1 [.string ⟨s.toArray⟩] rfl rfl (Pt _ _ _) (by simp [Value.oneCell']) (by unfold maxLen; omega) (by omega) (by have := Zu.o.size; simp; omega) ?_)
    intro vn' w4 Z1 Zy _ Ys;have Lg := Za (Xz.o.put (x := s) (rep := Qc) Z1 Zy (Ys.imp_right fun e => ⟨_, e, by simp⟩) ((Zl.refl pb w2).alloc Q7.o.ltp _) H.o.ltp rfl ((Wz.new (rep := Qc) (lo := w2.heap.size) rfl Zu.o.size fun q hq => Xz.o.all q hq).stay ((Zl.refl pb w2).alloc Q7.o.ltp _) H.o.ltp));have P4 := Za ((M2.o.stay ((Zl.refl pb w2).alloc Q7.o.ltp _) H.o.ltp).beside (o' := vn'.ownBlock) Zy (Ys.imp_right fun e => ⟨_, e, by simp, (Z1.lt _ e).2⟩) (by have := Zu.o.size; simp; omega))
    have Qa : xQ (Zl pb w w4) := (Zu.o.alloc H.o.ltp _).grown Zy H.o.ltp fun q hq => (Xz.o.own q hq).1
    have Ju : xQ (Ps w4 pb tb cap ts b1 d) := (Q7.o.alloc _).grown Zy fun q hq => xT H.o.ltp (Xz.o.own q hq).1
    obtain ⟨av3, lv3, rfl⟩ := U9 Z1;clear Z1 Zy Ys Xz M2 Zu Q7;have HM := Za (Vw pb tb cap b1 d ts [58] w4 Ju.o OK.o)
    cases hm : Ze ts b1 [58] with
    | inr x =>
     obtain ⟨er, li, co⟩ := x;have HE := Za (wR Px.o Li.o hm);rw [hm] at HM;clear hm;go_wp2_with fail;refine HM.o.mono ?_;rintro e w5 ⟨Zb, rfl⟩;have Lj := Za (Qa.o.trans Zb);clear Zb;go_wp2_with fail;rw [HE.o];exact ⟨rfl, Lj.o, rfl⟩
    | inl x =>
     obtain ⟨u, b2⟩ := x;have N8 := Za hm;have Z0 := Ck hm;rw [hm] at HM;clear hm;go_wp2_with fail;refine HM.o.mono ?_;rintro e w5 ⟨Zb, Zc, v, rfl, _⟩;have Lj := Za (Qa.o.trans Zb);have HPS5 := Za Zc;have N7 := Za (Lg.o.stay Zb H.o.ltp);have M3 := Za (P4.o.stay Zb H.o.ltp);clear Zb Zc HM;have Ky := Za (HG.o.calls b2 w5 HPS5.o)
     cases ho : K b2 with
     | inr x =>
      obtain ⟨er, li, co⟩ := x;have HE := Za (wV Px.o Li.o N8.o ho);rw [ho] at Ky;clear ho;go_wp2_with fail;refine Ky.o.mono ?_;rintro e w6 ⟨Zb, rfl⟩;have Hw := Za (Lj.o.trans Zb);clear Zb;go_wp2_with fail;rw [HE.o];exact ⟨rfl, Hw.o, rfl⟩
     | inl x =>
      obtain ⟨D1, b3⟩ := x;have HKo := Za ho;have Q1 := HG.o.up _ _ _ ho;rw [ho] at Ky;clear ho;go_wp2_with fail;refine Ky.o.mono ?_;rintro e w6 ⟨Zb, Zc, v, rfl, hv⟩;obtain ⟨k1, nm1, na1, nl1, nc1, ka1, kl1, kc1, rfl⟩ := hv.cells;have Hw := Za (Lj.o.trans Zb);have Fc := Za Zc;have Lh := Za (N7.o.stay Zb H.o.ltp);have Lk := Za (M3.o.stay Zb H.o.ltp);have Hx := Za hv;clear Zb Zc hv
      go_wp2_with (at_builtin; refine wpList_append_own_at _ rfl (.tmp 30) (.tmp 34) 34 rfl w.heap.size 42 i0 _ 4 72 underlying34 hi Wp Xy Wr rfl (by decide) _ _ _ rfl (Lk.o.ow.alloc _) ⟨_, 0, none⟩ 1 1 [.int .i64 k1, .string nm1, .slice na1 nl1 nc1, .slice ka1 kl1 kc1] rfl rfl (Pt _ _ _) (by simp [Value.oneCell']) (by unfold maxLen; omega) (by omega) (by have := Hw.o.size; simp; omega) ?_)
      intro vv' w7 Z1 Zy _ Ys;have J0 := Za (Lk.o.put (x := D1) (rep := Nq) Z1 Zy (Ys.imp_right fun e => ⟨_, e, by simp⟩) ((Zl.refl pb w6).alloc Fc.o.ltp _) H.o.ltp rfl ((Wz.new (rep := Nq) Hx.o Lj.o.size fun q hq => M3.o.all q hq).stay ((Zl.refl pb w6).alloc Fc.o.ltp _) H.o.ltp));have Kw := Za ((Lh.o.stay ((Zl.refl pb w6).alloc Fc.o.ltp _) H.o.ltp).beside (o' := vv'.ownBlock) Zy (Ys.imp_right fun e => ⟨_, e, by simp, (Z1.lt _ e).2⟩) (by have := Hw.o.size; simp; omega))
      have HST7 : xQ (Zl pb w w7) := (Hw.o.alloc H.o.ltp _).grown Zy H.o.ltp fun q hq => (Lk.o.own q hq).1
      have HPS7 : xQ (Ps w7 pb tb cap ts b3 d) := (Fc.o.alloc _).grown Zy fun q hq => xT H.o.ltp (Lk.o.own q hq).1
      clear Z1 Zy Ys Ky;have HGo := Za (vJ pb tb cap b3 d ts [44] [125] w7 HPS7.o OK.o)
      cases hg : Gq ts b3 [44] [125] with
      | inr x =>
       obtain ⟨er, li, co⟩ := x;have HE := Za (wS Px.o Li.o N8.o HKo.o hg);rw [hg] at HGo;clear hg;go_wp2_with fail;refine HGo.o.mono ?_;rintro e w8 ⟨Zb, rfl⟩;have Sg := Za (HST7.o.trans Zb);clear Zb;go_wp2_with fail;rw [HE.o];exact ⟨rfl, Sg.o, rfl⟩
      | inl x =>
       obtain ⟨gb, b4⟩ := x;have Fa := Za hg;rw [hg] at HGo;clear hg;go_wp2_with fail;refine HGo.o.mono ?_;rintro e w8 ⟨Zb, Zc, v, rfl, rfl⟩;have Sg := Za (HST7.o.trans Zb);have Se := Za Zc;have Kx := Za (Kw.o.stay Zb H.o.ltp);have Ll := Za (J0.o.stay Zb H.o.ltp);clear Zb Zc HGo;go_wp2_with fail
       have Ha : b3 <= b4 := by
        cases gb with
        | true => have := (Ie Px.o Li.o N8.o HKo.o Fa.o).2; omega
        | false => exact (Id Px.o Li.o N8.o HKo.o Fa.o).2
       go_roundg (ts.length - b4 + 1)
       case measure => have := Se.o.lt; omega
       case rel =>
        refine ⟨b4, m - 1, _, _, acc ++ [(s, D1)], _, _, gb, rfl, ⟨?_, ?_⟩, Kx, Ll, Sg, Se, ?_, ?_, fun h => ?_, fun h => ?_⟩
        ·rw [Tp.o.1]; simp
        ·rw [Tp.o.2]; simp
        ·have := Pn.o
         show (acc ++ [(s, D1)]).length <= b4;simp;omega
        ·have := U1.o
         show _ <= _;omega
        ·subst h
         have h1 := (Ie Px.o Li.o N8.o HKo.o Fa.o)
         have := Se.o.lt;have := U1.o
         obtain ⟨q, rfl⟩ : ∃ q, m = q + 1 := ⟨m - 1, by omega⟩
         exact ⟨h1.1, xR⟩
        ·subst h
         exact (Id Px.o Li.o N8.o HKo.o Fa.o).1
end Go.Proofs.YtfoejkhfdiodhaaGreatDoor
