/- Part. -/
import Derived.Test.YtbnjllkkhhkkaaaGreatDoorPart24
set_option maxRecDepth 100000
set_option maxHeartbeats 4000000
namespace Go.Proofs.YtbnjllkkhhkkaaaGreatDoor
open Go.Proofs.Tryz
open Go.RowKit
attribute [local go_sem ↓] Go.wp_at_zero Go.wp_at_succ
def NdQ (lo : Nat) (w : World) (c : List Value) (x : Option Ty) : Prop := (∃ y : NV, c = [.int .i64 y.k, .string y.tx, .int .i64 y.N, .int .i64 y.li, .int .i64 y.co, .slice y.ta y.tl y.tc, .slice y.na y.nl y.nc, .slice y.ka y.kl y.kc]) ∧ ∀ t, x = some t → Po lo w c t
theorem ndQ_of {lo : Nat} {w : World} {y : NV} {R : Pr Ty} (h : Yq lo w y R) : NdQ lo w [.int .i64 y.k, .string y.tx, .int .i64 y.N, .int .i64 y.li, .int .i64 y.co, .slice y.ta y.tl y.tc, .slice y.na y.nl y.nc, .slice y.ka y.kl y.kc] (Wc R) :=
 ⟨⟨y, rfl⟩, fun t e => by
  cases R with
  | inr p => cases e
  | inl q =>
   obtain ⟨x, b⟩ := q
   injection e with e
   rw [← e]
   exact Re (h x b rfl)⟩
theorem zab {B et : Nat} {o : Option Nat} {wx : World} {v : Value} {cs : List (List Value)} {l : List Ty} (h : Z8 NdQ B et 8 o wx v cs (l.map some)) : Z8 Po B et 8 o wx v cs l := by
 refine ⟨by rw [h.len, List.length_map], h.each, by have := h.ow; rwa [List.length_map] at this, h.apart, h.olt, fun i h1 h2 => ?_⟩
 obtain ⟨wi, lo, m1, m2⟩ := h.made i h1 (by rw [List.length_map]; exact h2)
 exact ⟨wi, lo, m1.2 _ (by rw [List.getElem_map]), m2⟩
theorem RX.drewN {pb tb cap d : Nat} {ts : List Tok} {w0 w : World} {S : Z3} {bx : List (Nat × Obj)} (h : RX pb tb cap ts w0 w d S bx) (n : Nat) : RX pb tb cap ts w0 (w.drewN n) d S bx :=
 h.step (Zj.of h.at_.ltp (below_drewN (Below.refl _ _) n)) (h.at_.below (below_drewN (Below.refl _ _) n))
section
variable (ts : List Tok) (E : Nat → Pr Ty) (f a : Nat)
def rcF : Pr Ty := (Z1 ts (Xy ts E) [44] f (a + 1)).go fun l b => (Zb ts b [125]).go fun _ b => .inl (Zi 8 [] 0 (Zx ts a) (Zz ts a) [] (l.map (·.1)) (l.map (·.2)), b)
def P4 : Pr Ty := (E (a + 1)).go fun x b => (Zb ts b [119, 105, 116, 104]).go fun _ b => (Zm ts b).go fun s b => (Zb ts b [58]).go fun _ b => (E b).go fun y b => (Zb ts b [125]).go fun _ b => .inl (Zi 10 s 0 (Zx ts a) (Zz ts a) [] [] [x, y], b)
end
theorem Jx {ts : List Tok} {E : Nat → Pr Ty} {a : Nat} {R R3 R7 : Pr Ty} {R5 : Pr (List UInt8)} {S4 S6 : Z3} (h0 : R = P4 ts E a) (h3 : R3 = Zf E (.inl (a + 1))) (h4 : S4 = Zd (Zf (fun a => Zb ts a [119, 105, 116, 104]) (Zd R3))) (h5 : R5 = Zf (Zm ts) S4) (h6 : S6 = Zd (Zf (fun a => Zb ts a [58]) (Zd R5))) (h7 : R7 = Zf E S6) {S8 : Z3} (h8 : S8 = Zd (Zf (fun a => Zb ts a [125]) (Zd R7))) : Zd R = S8 := by
 rw [h0, h8, h7, h6, h5, h4, h3]
 unfold P4
 refine Ut _ _ (fun S => Zd (Zf (fun a => Zb ts a [125]) (Zd (Zf E (Zd (Zf (fun a => Zb ts a [58]) (Zd (Zf (Zm ts) (Zd (Zf (fun a => Zb ts a [119, 105, 116, 104]) S)))))))))) (fun _ => rfl) fun x b _ => ?_
 refine Ut _ _ (fun S => Zd (Zf (fun a => Zb ts a [125]) (Zd (Zf E (Zd (Zf (fun a => Zb ts a [58]) (Zd (Zf (Zm ts) S)))))))) (fun _ => rfl) fun _ b _ => ?_
 refine Ut _ _ (fun S => Zd (Zf (fun a => Zb ts a [125]) (Zd (Zf E (Zd (Zf (fun a => Zb ts a [58]) S)))))) (fun _ => rfl) fun s b _ => ?_
 refine Ut _ _ (fun S => Zd (Zf (fun a => Zb ts a [125]) (Zd (Zf E S)))) (fun _ => rfl) fun _ b _ => ?_
 refine Ut _ _ (fun S => Zd (Zf (fun a => Zb ts a [125]) S)) (fun _ => rfl) fun y b _ => ?_
 exact Lz (Zb ts b [125]) fun _ => Zi 10 s 0 (Zx ts a) (Zz ts a) [] [] [x, y]
theorem Hc {ts : List Tok} {E : Nat → Pr Ty} {a : Nat} {R R3 R7 : Pr Ty} {R5 : Pr (List UInt8)} {S4 S6 : Z3} (h0 : R = P4 ts E a) (h3 : R3 = Zf E (.inl (a + 1))) (h4 : S4 = Zd (Zf (fun a => Zb ts a [119, 105, 116, 104]) (Zd R3))) (h5 : R5 = Zf (Zm ts) S4) (h6 : S6 = Zd (Zf (fun a => Zb ts a [58]) (Zd R5))) (h7 : R7 = Zf E S6) {D : Ty} {c : Nat} (e : R = .inl (D, c)) : ∃ x b3 s' b5 y b7, R3 = .inl (x, b3) ∧ R5 = .inl (s', b5) ∧ R7 = .inl (y, b7) ∧ D = Zi 10 s' 0 (Zx ts a) (Zz ts a) [] [] [x, y] := by
 rw [h0] at e
 unfold P4 at e
 obtain ⟨x, b3, k3, e⟩ := Vd e
 obtain ⟨_, b4, k4, e⟩ := Vd e
 obtain ⟨s', b5, k5, e⟩ := Vd e
 obtain ⟨_, b6, k6, e⟩ := Vd e
 obtain ⟨y, b7, k7, e⟩ := Vd e
 obtain ⟨_, b8, _, e⟩ := Vd e
 injection e with e
 injection e with e _
 have g3 : R3 = .inl (x, b3) := by rw [h3]; exact k3
 have g4 : S4 = .inl b4 := by rw [h4, g3]; show Zd (Zb ts b3 [119, 105, 116, 104]) = _; rw [k4]; rfl
 have g5 : R5 = .inl (s', b5) := by rw [h5, g4]; exact k5
 have g6 : S6 = .inl b6 := by rw [h6, g5]; show Zd (Zb ts b5 [58]) = _; rw [k6]; rfl
 exact ⟨x, b3, s', b5, y, b7, g3, g5, by rw [h7, g6]; exact k7, e.symm⟩
theorem rrec_c (pb tb cap d : Nat) (ts : List Tok) (ok : Z0 ts) (E : Nat → Pr Ty) (f : Nat) (hf : ts.length ≤ f + 1) (hu : ∀ a x b, E a = .inl (x, b) → a ≤ b)
  (hE : ∀ S w, Zp w pb tb cap ts d S → Calls prog 25 #[.pointer (some ⟨pb, 0, none⟩)] w (Y4 pb tb cap ts d w (Zf E S)))
  (a li co : Nat) (w : World) (hli : li = Zx ts a) (hco : co = Zz ts a) (h : Zp w pb tb cap ts d (.inl (a + 1))) :
  Calls prog 214 #[.pointer (some ⟨pb, 0, none⟩), (Zu 2 li co).val] w (Y4 pb tb cap ts d w (Q1 ts E (f + 1) a)) := by
 have OK := Za ok
 have HE := Za hE
 have HU := Za hu
 have HLc := Za (And.intro hli hco)
 have hp := h.ltp
 obtain ⟨R, hR⟩ := xE (Q1 ts E (f + 1) a)
 rw [← hR]
 have HR := Za hR
 have H0 := Za h
 clear h hR hE hu hli hco
 go_enter func214, ntmps214
 go_wp2_with fail
 obtain ⟨nb, hnb⟩ := xE w.heap.size
 obtain ⟨W0, hW0⟩ := xE ((w.alloc (.cells #[.int .i64 8, .string ⟨#[]⟩, .int .i64 0, .int .i64 li, .int .i64 co, .slice none 0 0, .slice none 0 0, .slice none 0 0] 27)).alloc (.cells #[.int .i64 0, .string ⟨#[]⟩, .int .i64 0, .int .i64 0, .int .i64 0, .slice none 0 0, .slice none 0 0, .slice none 0 0] 27))
 rw [← hW0, ← hnb]
 have X0 : xQ (RX pb tb cap ts w W0 d (.inl (a + 1)) [(nb, (Zu 8 li co).obj), (nb + 1, Ze.obj)]) := by
  have h1 := (U4 H0.o (Zu 8 li co).obj).alloc Ze.obj
  rw [xS, ← hnb] at h1
  rw [hW0]
  exact h1.perm (by simp)
 obtain ⟨rb, hrb⟩ := xE (nb + 1)
 rw [← hrb] at X0 ⊢
 have hwn : w.heap.size ≤ nb := by omega
 have hnr : nb < rb := by omega
 have HRB : xQ (rb = w.heap.size + 1) := by rw [hrb, hnb]; exact rfl
 clear hnb hrb hW0 H0
 refine (Y5 pb tb cap d ts (.inl (a + 1)) [125] _ X0.o.at_ OK.o).mono ?_
 rintro e wt ⟨rfl, hst, hat⟩
 have X := Za (X0.o.step hst hat)
 clear hst hat X0
 cases hs : Yd ts (.inl (a + 1)) [125] with
 | true =>
  rw [hs, if_pos rfl] at X
  have HRt : xQ (R = .inl (Zi 8 [] 0 (Zx ts a) (Zz ts a) [] [] [], a + 2)) := by
   rw [HR.o]
   exact if_pos hs
  clear hs HR
  obtain ⟨⟨n0, n1, n2, n3, n4, n5, n6, n7⟩, ⟨g0, g1, g2, g3, g4, g5, g6, g7⟩, hnl⟩ := Zh (X.o.box (p := (nb, (Zu 8 li co).obj)) (by simp))
  obtain ⟨⟨r0, r1, r2, r3, r4, r5, r6, r7⟩, ⟨f0, f1, f2, f3, f4, f5, f6, f7⟩, hrl⟩ := Zh (X.o.box (p := (rb, Ze.obj)) (by simp))
  have hne1 : ¬ nb = rb := by omega
  have hne2 : ¬ rb = nb := by omega
  go_wp2_with fail
  obtain ⟨Wf, hWf⟩ := xE ((((((((wt.setCell ⟨rb, 0, none⟩ (.int .i64 8)).setCell ⟨rb, 1, none⟩ (.string ⟨#[]⟩)).setCell ⟨rb, 2, none⟩ (.int .i64 0)).setCell ⟨rb, 3, none⟩ (.int .i64 li)).setCell ⟨rb, 4, none⟩ (.int .i64 co)).setCell ⟨rb, 5, none⟩ (.slice none 0 0)).setCell ⟨rb, 6, none⟩ (.slice none 0 0)).setCell ⟨rb, 7, none⟩ (.slice none 0 0))
  rw [← hWf]
  obtain ⟨HXF, zhp, hsF⟩ : Left pb tb cap ts w d (.inl (a + 2)) rb nb wt Wf ⟨8, ⟨#[]⟩, 0, li, co, none, 0, 0, none, 0, 0, none, 0, 0⟩ 0 := by rw [hWf]; exact Mh (rb := rb) X.o (by simp) nb ⟨8, ⟨#[]⟩, 0, li, co, none, 0, 0, none, 0, 0, none, 0, 0⟩
  clear hWf
  replace HXF := Za HXF
  refine Vh rfl rfl (HXF.o.box xM) rfl ⟨HXF.o.st, ?_, ⟨8, ⟨#[]⟩, 0, li, co, none, 0, 0, none, 0, 0, none, 0, 0⟩, rfl, fun D c e => ?_⟩
  ·rw [HRt.o]; exact HXF.o.at_
  ·rw [HRt.o] at e
   injection e with e
   injection e with e _
   rw [← e, ← HLc.o.1, ← HLc.o.2]
   exact ⟨1, [], [], [], rfl, ⟨rfl, rfl, rfl⟩, ⟨xZ _, xZ _, xZ _⟩, .inl rfl, .inl rfl, .inl rfl⟩
 | false =>
 rw [hs, if_neg (by simp)] at X
 have HR2 : xQ (R = if (Zg ts (a + 1)).kind == 1 && ((Zg ts (a + 2)).kind == 5 && (Zg ts (a + 2)).text == [58]) then rcF ts E (f + 1) a else P4 ts E a) := by
  rw [HR.o]
  exact if_neg (by rw [show Zc ts (a + 1) [125] = false from hs]; simp)
 clear hs HR
 obtain ⟨a', ha⟩ := X.o.at_
 obtain rfl : a + 1 = a' := ha.live (a + 1) rfl
 have hal : ((a + 1 : Nat) : Int) < (ts.length : Int) := by have := ha.lt; omega
 have haL := ha.lt
 obtain ⟨t, ht⟩ := xE (Zg ts (a + 1))
 have HT := Za ht
 have HS : xQ (∀ W, Below wt.heap.size wt W → W.cell? ⟨pb, 0, none⟩ = some (.slice (some ⟨tb, 0, none⟩) ts.length cap) ∧ W.cell? ⟨pb, 1, none⟩ = some (.int .i64 ((a + 1 : Nat) : Int)) ∧ W.cell? ⟨tb, (a + 1) * 4, none⟩ = some (.int .i64 t.kind) ∧ W.cell? ⟨tb, (a + 1) * 4 + 1, none⟩ = some (.string ⟨t.text.toArray⟩) ∧ W.cell? ⟨tb, (a + 1) * 4 + 2, none⟩ = some (.int .i64 t.line) ∧ W.cell? ⟨tb, (a + 1) * 4 + 3, none⟩ = some (.int .i64 t.col)) := fun W hW => by
  have h1 := ha.below hW
  rw [ht]
  obtain ⟨q0, q1, q2, q3⟩ := h1.toks (a + 1) h1.lt
  exact ⟨h1.cells.1.1, h1.cells.1.2.1, q0, q1, q2, q3⟩
 obtain ⟨a1, ha1⟩ := xE (a + 1)
 rw [← ha1] at HS hal haL
 have hSS := HS.o wt.drew (Below.refl _ _).drew
 have HS1 : xQ (∀ o, _) := fun o => HS.o ((wt.alloc o).drew) (Zl _ o).drew
 have HA1 := Za ha1
 clear ha ht ha1
 go_wp2_with fail
 go_region_held (fun W => W.cell? ⟨pb, 0, none⟩ = some (.slice (some ⟨tb, 0, none⟩) ts.length cap) ∧ W.cell? ⟨pb, 1, none⟩ = some (.int .i64 a1) ∧ W.cell? ⟨tb, a1 * 4, none⟩ = some (.int .i64 t.kind) ∧ W.cell? ⟨tb, a1 * 4 + 1, none⟩ = some (.string ⟨t.text.toArray⟩) ∧ W.cell? ⟨tb, a1 * 4 + 2, none⟩ = some (.int .i64 t.line) ∧ W.cell? ⟨tb, a1 * 4 + 3, none⟩ = some (.int .i64 t.col)) (first | with_reducible assumption | with_reducible exact HS1.o _) (fail)
 obtain ⟨W2, hW2⟩ := xE ((wt.alloc (.cells #[.int .i64 t.kind, .string ⟨t.text.toArray⟩, .int .i64 t.line, .int .i64 t.col] 108)).drew)
 rw [← hW2]
 obtain ⟨qb, hqb⟩ := xE wt.heap.size
 have X2 : xQ (RX pb tb cap ts w W2 d (.inl (a + 1)) [(qb, Zk t), (nb, (Zu 8 li co).obj), (rb, Ze.obj)]) := by
  rw [hW2, hqb]
  exact (X.o.alloc (Zk t)).drew
 rw [← hqb]
 have hrq : rb < qb := by have := xB (X.o.box (p := (rb, Ze.obj)) (by simp)); omega
 clear hW2 HS HS1 hSS X hqb
 obtain ⟨⟨t0, t1, t2, t3⟩, _, htl1⟩ := Zr (X2.o.box (p := (qb, Zk t)) (by simp))
 obtain ⟨a2, h2⟩ := X2.o.at_
 obtain rfl : a + 1 = a2 := h2.live (a + 1) rfl
 obtain ⟨⟨c0, c1, c2, c3, c4, c5⟩, _⟩ := h2.cells
 rw [← HA1.o] at c1
 have c3' : W2.cell? ⟨pb, 3, none⟩ = some (.int .i64 0) := c3
 have HTk : xQ (∀ j, j < ts.length → W2.cell? ⟨tb, j * 4, none⟩ = some (.int .i64 (Zg ts j).kind) ∧ W2.cell? ⟨tb, j * 4 + 1, none⟩ = some (.string ⟨(Zg ts j).text.toArray⟩)) := fun j hj => by
  obtain ⟨q0, q1, _⟩ := h2.toks j hj
  exact ⟨q0, q1⟩
 have hpl2 := h2.ltp
 have htl2 := Nat.lt_trans h2.tlt h2.ltp
 clear h2 c2 c3 c4 c5
 have HX2 : xQ (RX pb tb cap ts w W2 d (.inl (a + 1)) [(nb, (Zu 8 li co).obj), (rb, Ze.obj)]) := X2.o.perm (by simp)
 cases hk : (t.kind == 1) with
 | false =>
  have hkb : (t.kind != 1) = true := by rw [bne, hk]; rfl
  have HRt : xQ (R = P4 ts E a) := by
   rw [HR2.o]
   rw [HT.o] at hk
   exact if_neg (by rw [hk]; simp)
  clear hk HR2 X2 HTk
  go_wp2_with fail
  go_quiet (fail)
  have HX3 : xQ (RX pb tb cap ts w (W2.drewN nq) d (.inl (a + 1)) [(nb, (Zu 8 li co).obj), (rb, Ze.obj)]) := HX2.o.drewN nq
  generalize W2.drewN nq = W3 at HX3 ⊢
  clear HX2 t0 t1 t2 t3 htl1 c0 c1 c3' htl2
  obtain ⟨⟨n0, n1, n2, n3, n4, n5, n6, n7⟩, ⟨g0, g1, g2, g3, g4, g5, g6, g7⟩, hnl⟩ := Zh (HX3.o.box (p := (nb, (Zu 8 li co).obj)) (by simp))
  have hne1 : ¬ nb = rb := by omega
  have hne2 : ¬ rb = nb := by omega
  have X3 : xQ (RX pb tb cap ts w (W3.setCell ⟨nb, 0, none⟩ (.int .i64 10)) d (.inl (a + 1)) [(nb, NV.obj ⟨10, ⟨#[]⟩, 0, li, co, none, 0, 0, none, 0, 0, none, 0, 0⟩), (rb, Ze.obj)]) := HX3.o.setB (by simp; omega) 0 (.int .i64 10)
  go_wp2_with fail
  refine (HE.o _ _ X3.o.at_).mono ?_
  rintro e wv ⟨hst, hat, z, rfl, hv⟩
  have X4 := Za ((X3.o.step hst hat).alloc z.obj)
  have hnv := xB (X3.o.box (p := (rb, Ze.obj)) (by simp))
  have HZz : xQ (Yq (rb + 1) (wv.alloc z.obj) z (Zf E (.inl (a + 1)))) := (Yq.lower hv hnv).below (Zl _ _)
  have hsv := hst.size
  clear hst hat hv X3 HX3 n0 n1 n2 n3 n4 n5 n6 n7 g0 g1 g2 g3 g4 g5 g6 g7 hnl
  obtain ⟨R3, hR3⟩ := xE (Zf E (.inl (a + 1)))
  rw [← hR3] at X4 HZz
  have HR3 := Za hR3
  clear hR3
  go_wp2_with fail
  obtain ⟨kb, hkb⟩ := xE wv.heap.size
  rw [← hkb] at X4 hsv ⊢
  clear hkb
  generalize wv.alloc (.cells #[.int .i64 z.k, .string z.tx, .int .i64 z.N, .int .i64 z.li, .int .i64 z.co, .slice z.ta z.tl z.tc, .slice z.na z.nl z.nc, .slice z.ka z.kl z.kc] 27) = W4 at X4 HZz  ⊢
  have hnkb : rb < kb := by omega
  clear hnv hsv
  go_wp2_with fail
  refine (Xx pb tb cap d ts (Zd R3) [119, 105, 116, 104] _ X4.o.at_ OK.o).mono ?_
  rintro e w5 ⟨rfl, hst, hat⟩
  have X5 := Za (X4.o.step hst hat)
  replace HZz := Za (HZz.o.stay hst (by omega))
  clear hst hat X4
  obtain ⟨S4, hS4⟩ := xE (Zd (Zf (fun a => Zb ts a [119, 105, 116, 104]) (Zd R3)))
  rw [← hS4] at X5
  have HS4 := Za hS4
  clear hS4
  go_wp2_with fail
  refine (Qm pb tb cap d ts S4 _ X5.o.at_ OK.o).mono ?_
  rintro e w6 ⟨rfl, hst, hat⟩
  have X6 := Za (X5.o.step hst hat)
  replace HZz := Za (HZz.o.stay hst (by omega))
  clear hst hat X5
  obtain ⟨R5, hR5⟩ := xE (Zf (Zm ts) S4)
  rw [← hR5] at X6 ⊢
  have HR5 := Za hR5
  obtain ⟨s, hs⟩ := xE (Y1 R5)
  rw [← hs]
  have HSn := Za hs
  clear hs hR5
  obtain ⟨⟨n0, n1, n2, n3, n4, n5, n6, n7⟩, ⟨g0, g1, g2, g3, g4, g5, g6, g7⟩, hnl⟩ := Zh (X6.o.box (p := (nb, NV.obj ⟨10, ⟨#[]⟩, 0, li, co, none, 0, 0, none, 0, 0, none, 0, 0⟩)) (by simp))
  have X7 : xQ (RX pb tb cap ts w (w6.setCell ⟨nb, 1, none⟩ (.string ⟨s.toArray⟩)) d (Zd R5) [(nb, NV.obj ⟨10, ⟨s.toArray⟩, 0, li, co, none, 0, 0, none, 0, 0, none, 0, 0⟩), (kb, z.obj), (rb, Ze.obj)]) := RX.setB (X6.o.perm (bx' := [(nb, NV.obj ⟨10, ⟨#[]⟩, 0, li, co, none, 0, 0, none, 0, 0, none, 0, 0⟩), (kb, z.obj), (rb, Ze.obj)]) (by simp)) (by simp; omega) 1 (.string ⟨s.toArray⟩)
  replace HZz := Za (Yq.stay HZz.o (Uf w6 nb 1 (.string ⟨s.toArray⟩)) (by omega))
  go_wp2_with fail
  refine (Xx pb tb cap d ts (Zd R5) [58] _ X7.o.at_ OK.o).mono ?_
  rintro e w7 ⟨rfl, hst, hat⟩
  have X8 := Za (X7.o.step hst hat)
  replace HZz := Za (HZz.o.stay hst (by omega))
  clear hst hat X6 X7 n0 n1 n2 n3 n4 n5 n6 n7 g0 g1 g2 g3 g4 g5 g6 g7 hnl
  obtain ⟨S6, hS6⟩ := xE (Zd (Zf (fun a => Zb ts a [58]) (Zd R5)))
  rw [← hS6] at X8
  have HS6 := Za hS6
  clear hS6
  go_wp2_with fail
  refine (HE.o _ _ X8.o.at_).mono ?_
  rintro e wv ⟨hst, hat, u, rfl, hv⟩
  have X9 := Za ((X8.o.step hst hat).alloc u.obj)
  have hnv := xB (X8.o.box (p := (rb, Ze.obj)) (by simp))
  replace HZz := Za ((HZz.o.stay hst (by omega)).below (Zl _ u.obj))
  have HZu : xQ (Yq (rb + 1) (wv.alloc u.obj) u (Zf E S6)) := (Yq.lower hv hnv).below (Zl _ _)
  have hsv := hst.size
  clear hst hat hv X8
  obtain ⟨R7, hR7⟩ := xE (Zf E S6)
  rw [← hR7] at X9 HZu
  have HR7 := Za hR7
  clear hR7
  go_wp2_with fail
  obtain ⟨mb, hkb⟩ := xE wv.heap.size
  rw [← hkb] at X9 hsv ⊢
  clear hkb
  generalize wv.alloc (.cells #[.int .i64 u.k, .string u.tx, .int .i64 u.N, .int .i64 u.li, .int .i64 u.co, .slice u.ta u.tl u.tc, .slice u.na u.nl u.nc, .slice u.ka u.kl u.kc] 27) = W9 at X9 HZu HZz ⊢
  have hnmb : rb < mb := by omega
  clear hnv hsv
  go_wp2_with fail
  refine (Xx pb tb cap d ts (Zd R7) [125] _ X9.o.at_ OK.o).mono ?_
  rintro e w9 ⟨rfl, hst, hat⟩
  have X10 := Za (X9.o.step hst hat)
  replace HZz := Za (HZz.o.stay hst (by omega))
  replace HZu := Za (HZu.o.stay hst (by omega))
  clear hst hat X9
  obtain ⟨S8, hS8⟩ := xE (Zd (Zf (fun a => Zb ts a [125]) (Zd R7)))
  rw [← hS8] at X10
  have HS8 := Za hS8
  clear hS8
  have HSt := Za (Jx HRt.o HR3.o HS4.o HR5.o HS6.o HR7.o HS8.o)
  have HVl := Za (fun D c e => Hc (D := D) (c := c) HRt.o HR3.o HS4.o HR5.o HS6.o HR7.o e)
  obtain ⟨⟨z0, z1, z2, z3, z4, z5, z6, z7⟩, _, hkl⟩ := Zh (X10.o.box (p := (kb, z.obj)) (by simp))
  obtain ⟨⟨u0, u1, u2, u3, u4, u5, u6, u7⟩, _, hml⟩ := Zh (X10.o.box (p := (mb, u.obj)) (by simp))
  have hne9 : ¬ kb = nb := by omega
  have hne8 : ¬ mb = nb := by omega
  have hne7 : ¬ kb = rb := by omega
  have hne6 : ¬ mb = rb := by omega
  obtain ⟨⟨n0, n1, n2, n3, n4, n5, n6, n7⟩, ⟨g0, g1, g2, g3, g4, g5, g6, g7⟩, hnl⟩ := Zh (X10.o.box (p := (nb, NV.obj ⟨10, ⟨s.toArray⟩, 0, li, co, none, 0, 0, none, 0, 0, none, 0, 0⟩)) (by simp))
  obtain ⟨⟨r0, r1, r2, r3, r4, r5, r6, r7⟩, ⟨f0, f1, f2, f3, f4, f5, f6, f7⟩, hrl⟩ := Zh (X10.o.box (p := (rb, Ze.obj)) (by simp))
  have zib : ¬ nb = rb := by omega
  have zic : ¬ rb = nb := by omega
  go_wp2_with fail
  obtain ⟨Wf, hWf⟩ := xE ((((((((((w9.setCell ⟨nb, 7, none⟩ (.slice (some ⟨w9.heap.size, 0, none⟩) 2 2)).setCell ⟨rb, 0, none⟩ (.int .i64 10)).setCell ⟨rb, 1, none⟩ (.string ⟨s.toArray⟩)).setCell ⟨rb, 2, none⟩ (.int .i64 0)).setCell ⟨rb, 3, none⟩ (.int .i64 li)).setCell ⟨rb, 4, none⟩ (.int .i64 co)).setCell ⟨rb, 5, none⟩ (.slice none 0 0)).setCell ⟨rb, 6, none⟩ (.slice none 0 0)).setCell ⟨rb, 7, none⟩ (.slice (some ⟨w9.heap.size, 0, none⟩) 2 2)).alloc (.cells #[.int .i64 z.k, .string z.tx, .int .i64 z.N, .int .i64 z.li, .int .i64 z.co, .slice z.ta z.tl z.tc, .slice z.na z.nl z.nc, .slice z.ka z.kl z.kc, .int .i64 u.k, .string u.tx, .int .i64 u.N, .int .i64 u.li, .int .i64 u.co, .slice u.ta u.tl u.tc, .slice u.na u.nl u.nc, .slice u.ka u.kl u.kc] 27))
  rw [← hWf]
  obtain ⟨HXF, zhp, hsF⟩ : Left pb tb cap ts w d S8 rb nb w9 Wf ⟨10, ⟨s.toArray⟩, 0, li, co, none, 0, 0, none, 0, 0, (some ⟨w9.heap.size, 0, none⟩), 2, 2⟩ 1 := by rw [hWf]; exact Tp (Us (rb := rb) X10.o (by simp) (by omega) (by omega) 7 (.slice (some ⟨w9.heap.size, 0, none⟩) 2 2) ⟨10, ⟨s.toArray⟩, 0, li, co, none, 0, 0, none, 0, 0, (some ⟨w9.heap.size, 0, none⟩), 2, 2⟩) (Ve z u)
  have hrow : Wf.heap[w9.heap.size]? = some (Ve z u) := by rw [hWf]; exact M8 (Us (rb := rb) X10.o (by simp) (by omega) (by omega) 7 (.slice (some ⟨w9.heap.size, 0, none⟩) 2 2) ⟨10, ⟨s.toArray⟩, 0, li, co, none, 0, 0, none, 0, 0, (some ⟨w9.heap.size, 0, none⟩), 2, 2⟩) (Ve z u) rfl
  clear hWf
  replace HXF := Za HXF
  refine Vh rfl rfl (HXF.o.box xM) rfl ⟨HXF.o.st, ?_, ⟨10, ⟨s.toArray⟩, 0, li, co, none, 0, 0, none, 0, 0, (some ⟨w9.heap.size, 0, none⟩), 2, 2⟩, rfl, fun D c e => ?_⟩
  ·rw [HSt.o]; exact HXF.o.at_
  ·obtain ⟨x, b3, s', b5, y, b7, h3, h5, h7, hD⟩ := HVl.o D c e
   have hss : s = s' := by rw [HSn.o, h5]; rfl
   have hz : Zv (rb + 1) Wf z x := (HZz.o x b3 h3).keep (by omega) fun c h6 h7 => zhp c (by omega) (by omega) h7
   have hu : Zv (rb + 1) Wf u y := (HZu.o y b7 h7).keep (by omega) fun c h6 h7 => zhp c (by omega) (by omega) h7
   have := (To (kb := w9.heap.size) hz hu hrow (by omega) ⟨10, ⟨s.toArray⟩, 0, li, co, none, 0, 0, none, 0, 0, (some ⟨w9.heap.size, 0, none⟩), 2, 2⟩ [] [] ⟨rfl, rfl⟩ ⟨rfl, xZ _, 0, .inl rfl⟩ ⟨rfl, xZ _, .inl rfl⟩).lower (show w.heap.size ≤ rb + 1 by omega)
   rw [hD, ← hss, ← HLc.o.1, ← HLc.o.2]
   exact this
 | true =>
  have hkb : (t.kind != 1) = false := by rw [bne, hk]; rfl
  have hn2 : a1 + 1 < ts.length := OK.o.ends a1 haL (by rw [HA1.o, ← HT.o]; intro h0; rw [h0] at hk; simp at hk)
  have hn2' : (a1 : Int) + 1 < (ts.length : Int) := by omega
  have ha9 : a1 < 8193 := by have := OK.o.len; omega
  obtain ⟨q0, q1⟩ := HTk.o (a1 + 1) hn2
  obtain ⟨k2, hk2e⟩ := xE ((Zg ts (a1 + 1)).kind)
  obtain ⟨S2, hS2e⟩ : ∃ S2 : ByteArray, S2 = ⟨(Zg ts (a1 + 1)).text.toArray⟩ := ⟨_, rfl⟩
  rw [← hk2e] at q0
  rw [← hS2e] at q1
  have HK2 := Za hk2e
  have HS2 := Za hS2e
  have e12 : a1 + 1 = a + 2 := by rw [HA1.o]
  have HE12 := Za e12
  clear hk2e hS2e e12 HTk
  cases hk5 : (k2 == 5) with
  | false =>
   have hk5b : (k2 != 5) = true := by rw [bne, hk5]; rfl
   have HRt : xQ (R = P4 ts E a) := by
    rw [HR2.o]
    rw [HK2.o, HE12.o] at hk5
    exact if_neg (by rw [hk5]; simp)
   clear hk5 hk HR2 X2
   go_wp2_with fail
   go_quiet (fail)
   have HX3 : xQ (RX pb tb cap ts w (W2.drewN nq) d (.inl (a + 1)) [(nb, (Zu 8 li co).obj), (rb, Ze.obj)]) := HX2.o.drewN nq
   generalize W2.drewN nq = W3 at HX3 ⊢
   clear HX2 t0 t1 t2 t3 htl1 c0 c1 c3' htl2 q0 q1
   obtain ⟨⟨n0, n1, n2, n3, n4, n5, n6, n7⟩, ⟨g0, g1, g2, g3, g4, g5, g6, g7⟩, hnl⟩ := Zh (HX3.o.box (p := (nb, (Zu 8 li co).obj)) (by simp))
   have hne1 : ¬ nb = rb := by omega
   have hne2 : ¬ rb = nb := by omega
   have X3 : xQ (RX pb tb cap ts w (W3.setCell ⟨nb, 0, none⟩ (.int .i64 10)) d (.inl (a + 1)) [(nb, NV.obj ⟨10, ⟨#[]⟩, 0, li, co, none, 0, 0, none, 0, 0, none, 0, 0⟩), (rb, Ze.obj)]) := HX3.o.setB (by simp; omega) 0 (.int .i64 10)
   go_wp2_with fail
   refine (HE.o _ _ X3.o.at_).mono ?_
   rintro e wv ⟨hst, hat, z, rfl, hv⟩
   have X4 := Za ((X3.o.step hst hat).alloc z.obj)
   have hnv := xB (X3.o.box (p := (rb, Ze.obj)) (by simp))
   have HZz : xQ (Yq (rb + 1) (wv.alloc z.obj) z (Zf E (.inl (a + 1)))) := (Yq.lower hv hnv).below (Zl _ _)
   have hsv := hst.size
   clear hst hat hv X3 HX3 n0 n1 n2 n3 n4 n5 n6 n7 g0 g1 g2 g3 g4 g5 g6 g7 hnl
   obtain ⟨R3, hR3⟩ := xE (Zf E (.inl (a + 1)))
   rw [← hR3] at X4 HZz
   have HR3 := Za hR3
   clear hR3
   go_wp2_with fail
   obtain ⟨kb, hkb⟩ := xE wv.heap.size
   rw [← hkb] at X4 hsv ⊢
   clear hkb
   generalize wv.alloc (.cells #[.int .i64 z.k, .string z.tx, .int .i64 z.N, .int .i64 z.li, .int .i64 z.co, .slice z.ta z.tl z.tc, .slice z.na z.nl z.nc, .slice z.ka z.kl z.kc] 27) = W4 at X4 HZz  ⊢
   have hnkb : rb < kb := by omega
   clear hnv hsv
   go_wp2_with fail
   refine (Xx pb tb cap d ts (Zd R3) [119, 105, 116, 104] _ X4.o.at_ OK.o).mono ?_
   rintro e w5 ⟨rfl, hst, hat⟩
   have X5 := Za (X4.o.step hst hat)
   replace HZz := Za (HZz.o.stay hst (by omega))
   clear hst hat X4
   obtain ⟨S4, hS4⟩ := xE (Zd (Zf (fun a => Zb ts a [119, 105, 116, 104]) (Zd R3)))
   rw [← hS4] at X5
   have HS4 := Za hS4
   clear hS4
   go_wp2_with fail
   refine (Qm pb tb cap d ts S4 _ X5.o.at_ OK.o).mono ?_
   rintro e w6 ⟨rfl, hst, hat⟩
   have X6 := Za (X5.o.step hst hat)
   replace HZz := Za (HZz.o.stay hst (by omega))
   clear hst hat X5
   obtain ⟨R5, hR5⟩ := xE (Zf (Zm ts) S4)
   rw [← hR5] at X6 ⊢
   have HR5 := Za hR5
   obtain ⟨s, hs⟩ := xE (Y1 R5)
   rw [← hs]
   have HSn := Za hs
   clear hs hR5
   obtain ⟨⟨n0, n1, n2, n3, n4, n5, n6, n7⟩, ⟨g0, g1, g2, g3, g4, g5, g6, g7⟩, hnl⟩ := Zh (X6.o.box (p := (nb, NV.obj ⟨10, ⟨#[]⟩, 0, li, co, none, 0, 0, none, 0, 0, none, 0, 0⟩)) (by simp))
   have X7 : xQ (RX pb tb cap ts w (w6.setCell ⟨nb, 1, none⟩ (.string ⟨s.toArray⟩)) d (Zd R5) [(nb, NV.obj ⟨10, ⟨s.toArray⟩, 0, li, co, none, 0, 0, none, 0, 0, none, 0, 0⟩), (kb, z.obj), (rb, Ze.obj)]) := RX.setB (X6.o.perm (bx' := [(nb, NV.obj ⟨10, ⟨#[]⟩, 0, li, co, none, 0, 0, none, 0, 0, none, 0, 0⟩), (kb, z.obj), (rb, Ze.obj)]) (by simp)) (by simp; omega) 1 (.string ⟨s.toArray⟩)
   replace HZz := Za (Yq.stay HZz.o (Uf w6 nb 1 (.string ⟨s.toArray⟩)) (by omega))
   go_wp2_with fail
   refine (Xx pb tb cap d ts (Zd R5) [58] _ X7.o.at_ OK.o).mono ?_
   rintro e w7 ⟨rfl, hst, hat⟩
   have X8 := Za (X7.o.step hst hat)
   replace HZz := Za (HZz.o.stay hst (by omega))
   clear hst hat X6 X7 n0 n1 n2 n3 n4 n5 n6 n7 g0 g1 g2 g3 g4 g5 g6 g7 hnl
   obtain ⟨S6, hS6⟩ := xE (Zd (Zf (fun a => Zb ts a [58]) (Zd R5)))
   rw [← hS6] at X8
   have HS6 := Za hS6
   clear hS6
   go_wp2_with fail
   refine (HE.o _ _ X8.o.at_).mono ?_
   rintro e wv ⟨hst, hat, u, rfl, hv⟩
   have X9 := Za ((X8.o.step hst hat).alloc u.obj)
   have hnv := xB (X8.o.box (p := (rb, Ze.obj)) (by simp))
   replace HZz := Za ((HZz.o.stay hst (by omega)).below (Zl _ u.obj))
   have HZu : xQ (Yq (rb + 1) (wv.alloc u.obj) u (Zf E S6)) := (Yq.lower hv hnv).below (Zl _ _)
   have hsv := hst.size
   clear hst hat hv X8
   obtain ⟨R7, hR7⟩ := xE (Zf E S6)
   rw [← hR7] at X9 HZu
   have HR7 := Za hR7
   clear hR7
   go_wp2_with fail
   obtain ⟨mb, hkb⟩ := xE wv.heap.size
   rw [← hkb] at X9 hsv ⊢
   clear hkb
   generalize wv.alloc (.cells #[.int .i64 u.k, .string u.tx, .int .i64 u.N, .int .i64 u.li, .int .i64 u.co, .slice u.ta u.tl u.tc, .slice u.na u.nl u.nc, .slice u.ka u.kl u.kc] 27) = W9 at X9 HZu HZz ⊢
   have hnmb : rb < mb := by omega
   clear hnv hsv
   go_wp2_with fail
   refine (Xx pb tb cap d ts (Zd R7) [125] _ X9.o.at_ OK.o).mono ?_
   rintro e w9 ⟨rfl, hst, hat⟩
   have X10 := Za (X9.o.step hst hat)
   replace HZz := Za (HZz.o.stay hst (by omega))
   replace HZu := Za (HZu.o.stay hst (by omega))
   clear hst hat X9
   obtain ⟨S8, hS8⟩ := xE (Zd (Zf (fun a => Zb ts a [125]) (Zd R7)))
   rw [← hS8] at X10
   have HS8 := Za hS8
   clear hS8
   have HSt := Za (Jx HRt.o HR3.o HS4.o HR5.o HS6.o HR7.o HS8.o)
   have HVl := Za (fun D c e => Hc (D := D) (c := c) HRt.o HR3.o HS4.o HR5.o HS6.o HR7.o e)
   obtain ⟨⟨z0, z1, z2, z3, z4, z5, z6, z7⟩, _, hkl⟩ := Zh (X10.o.box (p := (kb, z.obj)) (by simp))
   obtain ⟨⟨u0, u1, u2, u3, u4, u5, u6, u7⟩, _, hml⟩ := Zh (X10.o.box (p := (mb, u.obj)) (by simp))
   have hne9 : ¬ kb = nb := by omega
   have hne8 : ¬ mb = nb := by omega
   have hne7 : ¬ kb = rb := by omega
   have hne6 : ¬ mb = rb := by omega
   obtain ⟨⟨n0, n1, n2, n3, n4, n5, n6, n7⟩, ⟨g0, g1, g2, g3, g4, g5, g6, g7⟩, hnl⟩ := Zh (X10.o.box (p := (nb, NV.obj ⟨10, ⟨s.toArray⟩, 0, li, co, none, 0, 0, none, 0, 0, none, 0, 0⟩)) (by simp))
   obtain ⟨⟨r0, r1, r2, r3, r4, r5, r6, r7⟩, ⟨f0, f1, f2, f3, f4, f5, f6, f7⟩, hrl⟩ := Zh (X10.o.box (p := (rb, Ze.obj)) (by simp))
   have zib : ¬ nb = rb := by omega
   have zic : ¬ rb = nb := by omega
   go_wp2_with fail
   obtain ⟨Wf, hWf⟩ := xE ((((((((((w9.setCell ⟨nb, 7, none⟩ (.slice (some ⟨w9.heap.size, 0, none⟩) 2 2)).setCell ⟨rb, 0, none⟩ (.int .i64 10)).setCell ⟨rb, 1, none⟩ (.string ⟨s.toArray⟩)).setCell ⟨rb, 2, none⟩ (.int .i64 0)).setCell ⟨rb, 3, none⟩ (.int .i64 li)).setCell ⟨rb, 4, none⟩ (.int .i64 co)).setCell ⟨rb, 5, none⟩ (.slice none 0 0)).setCell ⟨rb, 6, none⟩ (.slice none 0 0)).setCell ⟨rb, 7, none⟩ (.slice (some ⟨w9.heap.size, 0, none⟩) 2 2)).alloc (.cells #[.int .i64 z.k, .string z.tx, .int .i64 z.N, .int .i64 z.li, .int .i64 z.co, .slice z.ta z.tl z.tc, .slice z.na z.nl z.nc, .slice z.ka z.kl z.kc, .int .i64 u.k, .string u.tx, .int .i64 u.N, .int .i64 u.li, .int .i64 u.co, .slice u.ta u.tl u.tc, .slice u.na u.nl u.nc, .slice u.ka u.kl u.kc] 27))
   rw [← hWf]
   obtain ⟨HXF, zhp, hsF⟩ : Left pb tb cap ts w d S8 rb nb w9 Wf ⟨10, ⟨s.toArray⟩, 0, li, co, none, 0, 0, none, 0, 0, (some ⟨w9.heap.size, 0, none⟩), 2, 2⟩ 1 := by rw [hWf]; exact Tp (Us (rb := rb) X10.o (by simp) (by omega) (by omega) 7 (.slice (some ⟨w9.heap.size, 0, none⟩) 2 2) ⟨10, ⟨s.toArray⟩, 0, li, co, none, 0, 0, none, 0, 0, (some ⟨w9.heap.size, 0, none⟩), 2, 2⟩) (Ve z u)
   have hrow : Wf.heap[w9.heap.size]? = some (Ve z u) := by rw [hWf]; exact M8 (Us (rb := rb) X10.o (by simp) (by omega) (by omega) 7 (.slice (some ⟨w9.heap.size, 0, none⟩) 2 2) ⟨10, ⟨s.toArray⟩, 0, li, co, none, 0, 0, none, 0, 0, (some ⟨w9.heap.size, 0, none⟩), 2, 2⟩) (Ve z u) rfl
   clear hWf
   replace HXF := Za HXF
   refine Vh rfl rfl (HXF.o.box xM) rfl ⟨HXF.o.st, ?_, ⟨10, ⟨s.toArray⟩, 0, li, co, none, 0, 0, none, 0, 0, (some ⟨w9.heap.size, 0, none⟩), 2, 2⟩, rfl, fun D c e => ?_⟩
   ·rw [HSt.o]; exact HXF.o.at_
   ·obtain ⟨x, b3, s', b5, y, b7, h3, h5, h7, hD⟩ := HVl.o D c e
    have hss : s = s' := by rw [HSn.o, h5]; rfl
    have hz : Zv (rb + 1) Wf z x := (HZz.o x b3 h3).keep (by omega) fun c h6 h7 => zhp c (by omega) (by omega) h7
    have hu : Zv (rb + 1) Wf u y := (HZu.o y b7 h7).keep (by omega) fun c h6 h7 => zhp c (by omega) (by omega) h7
    have := (To (kb := w9.heap.size) hz hu hrow (by omega) ⟨10, ⟨s.toArray⟩, 0, li, co, none, 0, 0, none, 0, 0, (some ⟨w9.heap.size, 0, none⟩), 2, 2⟩ [] [] ⟨rfl, rfl⟩ ⟨rfl, xZ _, 0, .inl rfl⟩ ⟨rfl, xZ _, .inl rfl⟩).lower (show w.heap.size ≤ rb + 1 by omega)
    rw [hD, ← hss, ← HLc.o.1, ← HLc.o.2]
    exact this
  | true =>
   have hk5b : (k2 != 5) = false := by rw [bne, hk5]; rfl
   have HQ : xQ (((Zg ts (a + 2)).text == [58]) = (S2.toList == (⟨#[58]⟩ : ByteArray).toList)) := by
    show _ = _
    rw [HS2.o, HE12.o]
    cases hq : ((⟨(Zg ts (a + 2)).text.toArray⟩ : ByteArray).toList == (⟨#[58]⟩ : ByteArray).toList) with
    | true =>
     have := congrArg (fun s : ByteArray => s.data.toList) (Qn.1 hq)
     simp at this
     rw [this]
     rfl
    | false =>
     cases h9 : ((Zg ts (a + 2)).text == [58]) with
     | false => rfl
     | true =>
      have h8 : (Zg ts (a + 2)).text = [58] := by simpa using h9
      rw [h8] at hq
      simp at hq
   have e58 : (⟨#[58]⟩ : ByteArray).toList = [58] := by kernel_rfl
   rw [e58] at HQ
   clear e58
   cases hq : (S2.toList == [58]) with
   | false =>
    have HRt : xQ (R = P4 ts E a) := by
     rw [HR2.o]
     exact if_neg (by rw [HQ.o, hq]; simp)
    clear hk5 hk HR2 X2 HQ
    go_wp2_with fail
    go_quiet (fail)
    have HX3 : xQ (RX pb tb cap ts w (W2.drewN nq) d (.inl (a + 1)) [(nb, (Zu 8 li co).obj), (rb, Ze.obj)]) := HX2.o.drewN nq
    generalize W2.drewN nq = W3 at HX3 ⊢
    clear HX2 t0 t1 t2 t3 htl1 c0 c1 c3' htl2 q0 q1
    obtain ⟨⟨n0, n1, n2, n3, n4, n5, n6, n7⟩, ⟨g0, g1, g2, g3, g4, g5, g6, g7⟩, hnl⟩ := Zh (HX3.o.box (p := (nb, (Zu 8 li co).obj)) (by simp))
    have hne1 : ¬ nb = rb := by omega
    have hne2 : ¬ rb = nb := by omega
    have X3 : xQ (RX pb tb cap ts w (W3.setCell ⟨nb, 0, none⟩ (.int .i64 10)) d (.inl (a + 1)) [(nb, NV.obj ⟨10, ⟨#[]⟩, 0, li, co, none, 0, 0, none, 0, 0, none, 0, 0⟩), (rb, Ze.obj)]) := HX3.o.setB (by simp; omega) 0 (.int .i64 10)
    go_wp2_with fail
    refine (HE.o _ _ X3.o.at_).mono ?_
    rintro e wv ⟨hst, hat, z, rfl, hv⟩
    have X4 := Za ((X3.o.step hst hat).alloc z.obj)
    have hnv := xB (X3.o.box (p := (rb, Ze.obj)) (by simp))
    have HZz : xQ (Yq (rb + 1) (wv.alloc z.obj) z (Zf E (.inl (a + 1)))) := (Yq.lower hv hnv).below (Zl _ _)
    have hsv := hst.size
    clear hst hat hv X3 HX3 n0 n1 n2 n3 n4 n5 n6 n7 g0 g1 g2 g3 g4 g5 g6 g7 hnl
    obtain ⟨R3, hR3⟩ := xE (Zf E (.inl (a + 1)))
    rw [← hR3] at X4 HZz
    have HR3 := Za hR3
    clear hR3
    go_wp2_with fail
    obtain ⟨kb, hkb⟩ := xE wv.heap.size
    rw [← hkb] at X4 hsv ⊢
    clear hkb
    generalize wv.alloc (.cells #[.int .i64 z.k, .string z.tx, .int .i64 z.N, .int .i64 z.li, .int .i64 z.co, .slice z.ta z.tl z.tc, .slice z.na z.nl z.nc, .slice z.ka z.kl z.kc] 27) = W4 at X4 HZz  ⊢
    have hnkb : rb < kb := by omega
    clear hnv hsv
    go_wp2_with fail
    refine (Xx pb tb cap d ts (Zd R3) [119, 105, 116, 104] _ X4.o.at_ OK.o).mono ?_
    rintro e w5 ⟨rfl, hst, hat⟩
    have X5 := Za (X4.o.step hst hat)
    replace HZz := Za (HZz.o.stay hst (by omega))
    clear hst hat X4
    obtain ⟨S4, hS4⟩ := xE (Zd (Zf (fun a => Zb ts a [119, 105, 116, 104]) (Zd R3)))
    rw [← hS4] at X5
    have HS4 := Za hS4
    clear hS4
    go_wp2_with fail
    refine (Qm pb tb cap d ts S4 _ X5.o.at_ OK.o).mono ?_
    rintro e w6 ⟨rfl, hst, hat⟩
    have X6 := Za (X5.o.step hst hat)
    replace HZz := Za (HZz.o.stay hst (by omega))
    clear hst hat X5
    obtain ⟨R5, hR5⟩ := xE (Zf (Zm ts) S4)
    rw [← hR5] at X6 ⊢
    have HR5 := Za hR5
    obtain ⟨s, hs⟩ := xE (Y1 R5)
    rw [← hs]
    have HSn := Za hs
    clear hs hR5
    obtain ⟨⟨n0, n1, n2, n3, n4, n5, n6, n7⟩, ⟨g0, g1, g2, g3, g4, g5, g6, g7⟩, hnl⟩ := Zh (X6.o.box (p := (nb, NV.obj ⟨10, ⟨#[]⟩, 0, li, co, none, 0, 0, none, 0, 0, none, 0, 0⟩)) (by simp))
    have X7 : xQ (RX pb tb cap ts w (w6.setCell ⟨nb, 1, none⟩ (.string ⟨s.toArray⟩)) d (Zd R5) [(nb, NV.obj ⟨10, ⟨s.toArray⟩, 0, li, co, none, 0, 0, none, 0, 0, none, 0, 0⟩), (kb, z.obj), (rb, Ze.obj)]) := RX.setB (X6.o.perm (bx' := [(nb, NV.obj ⟨10, ⟨#[]⟩, 0, li, co, none, 0, 0, none, 0, 0, none, 0, 0⟩), (kb, z.obj), (rb, Ze.obj)]) (by simp)) (by simp; omega) 1 (.string ⟨s.toArray⟩)
    replace HZz := Za (Yq.stay HZz.o (Uf w6 nb 1 (.string ⟨s.toArray⟩)) (by omega))
    go_wp2_with fail
    refine (Xx pb tb cap d ts (Zd R5) [58] _ X7.o.at_ OK.o).mono ?_
    rintro e w7 ⟨rfl, hst, hat⟩
    have X8 := Za (X7.o.step hst hat)
    replace HZz := Za (HZz.o.stay hst (by omega))
    clear hst hat X6 X7 n0 n1 n2 n3 n4 n5 n6 n7 g0 g1 g2 g3 g4 g5 g6 g7 hnl
    obtain ⟨S6, hS6⟩ := xE (Zd (Zf (fun a => Zb ts a [58]) (Zd R5)))
    rw [← hS6] at X8
    have HS6 := Za hS6
    clear hS6
    go_wp2_with fail
    refine (HE.o _ _ X8.o.at_).mono ?_
    rintro e wv ⟨hst, hat, u, rfl, hv⟩
    have X9 := Za ((X8.o.step hst hat).alloc u.obj)
    have hnv := xB (X8.o.box (p := (rb, Ze.obj)) (by simp))
    replace HZz := Za ((HZz.o.stay hst (by omega)).below (Zl _ u.obj))
    have HZu : xQ (Yq (rb + 1) (wv.alloc u.obj) u (Zf E S6)) := (Yq.lower hv hnv).below (Zl _ _)
    have hsv := hst.size
    clear hst hat hv X8
    obtain ⟨R7, hR7⟩ := xE (Zf E S6)
    rw [← hR7] at X9 HZu
    have HR7 := Za hR7
    clear hR7
    go_wp2_with fail
    obtain ⟨mb, hkb⟩ := xE wv.heap.size
    rw [← hkb] at X9 hsv ⊢
    clear hkb
    generalize wv.alloc (.cells #[.int .i64 u.k, .string u.tx, .int .i64 u.N, .int .i64 u.li, .int .i64 u.co, .slice u.ta u.tl u.tc, .slice u.na u.nl u.nc, .slice u.ka u.kl u.kc] 27) = W9 at X9 HZu HZz ⊢
    have hnmb : rb < mb := by omega
    clear hnv hsv
    go_wp2_with fail
    refine (Xx pb tb cap d ts (Zd R7) [125] _ X9.o.at_ OK.o).mono ?_
    rintro e w9 ⟨rfl, hst, hat⟩
    have X10 := Za (X9.o.step hst hat)
    replace HZz := Za (HZz.o.stay hst (by omega))
    replace HZu := Za (HZu.o.stay hst (by omega))
    clear hst hat X9
    obtain ⟨S8, hS8⟩ := xE (Zd (Zf (fun a => Zb ts a [125]) (Zd R7)))
    rw [← hS8] at X10
    have HS8 := Za hS8
    clear hS8
    have HSt := Za (Jx HRt.o HR3.o HS4.o HR5.o HS6.o HR7.o HS8.o)
    have HVl := Za (fun D c e => Hc (D := D) (c := c) HRt.o HR3.o HS4.o HR5.o HS6.o HR7.o e)
    obtain ⟨⟨z0, z1, z2, z3, z4, z5, z6, z7⟩, _, hkl⟩ := Zh (X10.o.box (p := (kb, z.obj)) (by simp))
    obtain ⟨⟨u0, u1, u2, u3, u4, u5, u6, u7⟩, _, hml⟩ := Zh (X10.o.box (p := (mb, u.obj)) (by simp))
    have hne9 : ¬ kb = nb := by omega
    have hne8 : ¬ mb = nb := by omega
    have hne7 : ¬ kb = rb := by omega
    have hne6 : ¬ mb = rb := by omega
    obtain ⟨⟨n0, n1, n2, n3, n4, n5, n6, n7⟩, ⟨g0, g1, g2, g3, g4, g5, g6, g7⟩, hnl⟩ := Zh (X10.o.box (p := (nb, NV.obj ⟨10, ⟨s.toArray⟩, 0, li, co, none, 0, 0, none, 0, 0, none, 0, 0⟩)) (by simp))
    obtain ⟨⟨r0, r1, r2, r3, r4, r5, r6, r7⟩, ⟨f0, f1, f2, f3, f4, f5, f6, f7⟩, hrl⟩ := Zh (X10.o.box (p := (rb, Ze.obj)) (by simp))
    have zib : ¬ nb = rb := by omega
    have zic : ¬ rb = nb := by omega
    go_wp2_with fail
    obtain ⟨Wf, hWf⟩ := xE ((((((((((w9.setCell ⟨nb, 7, none⟩ (.slice (some ⟨w9.heap.size, 0, none⟩) 2 2)).setCell ⟨rb, 0, none⟩ (.int .i64 10)).setCell ⟨rb, 1, none⟩ (.string ⟨s.toArray⟩)).setCell ⟨rb, 2, none⟩ (.int .i64 0)).setCell ⟨rb, 3, none⟩ (.int .i64 li)).setCell ⟨rb, 4, none⟩ (.int .i64 co)).setCell ⟨rb, 5, none⟩ (.slice none 0 0)).setCell ⟨rb, 6, none⟩ (.slice none 0 0)).setCell ⟨rb, 7, none⟩ (.slice (some ⟨w9.heap.size, 0, none⟩) 2 2)).alloc (.cells #[.int .i64 z.k, .string z.tx, .int .i64 z.N, .int .i64 z.li, .int .i64 z.co, .slice z.ta z.tl z.tc, .slice z.na z.nl z.nc, .slice z.ka z.kl z.kc, .int .i64 u.k, .string u.tx, .int .i64 u.N, .int .i64 u.li, .int .i64 u.co, .slice u.ta u.tl u.tc, .slice u.na u.nl u.nc, .slice u.ka u.kl u.kc] 27))
    rw [← hWf]
    obtain ⟨HXF, zhp, hsF⟩ : Left pb tb cap ts w d S8 rb nb w9 Wf ⟨10, ⟨s.toArray⟩, 0, li, co, none, 0, 0, none, 0, 0, (some ⟨w9.heap.size, 0, none⟩), 2, 2⟩ 1 := by rw [hWf]; exact Tp (Us (rb := rb) X10.o (by simp) (by omega) (by omega) 7 (.slice (some ⟨w9.heap.size, 0, none⟩) 2 2) ⟨10, ⟨s.toArray⟩, 0, li, co, none, 0, 0, none, 0, 0, (some ⟨w9.heap.size, 0, none⟩), 2, 2⟩) (Ve z u)
    have hrow : Wf.heap[w9.heap.size]? = some (Ve z u) := by rw [hWf]; exact M8 (Us (rb := rb) X10.o (by simp) (by omega) (by omega) 7 (.slice (some ⟨w9.heap.size, 0, none⟩) 2 2) ⟨10, ⟨s.toArray⟩, 0, li, co, none, 0, 0, none, 0, 0, (some ⟨w9.heap.size, 0, none⟩), 2, 2⟩) (Ve z u) rfl
    clear hWf
    replace HXF := Za HXF
    refine Vh rfl rfl (HXF.o.box xM) rfl ⟨HXF.o.st, ?_, ⟨10, ⟨s.toArray⟩, 0, li, co, none, 0, 0, none, 0, 0, (some ⟨w9.heap.size, 0, none⟩), 2, 2⟩, rfl, fun D c e => ?_⟩
    ·rw [HSt.o]; exact HXF.o.at_
    ·obtain ⟨x, b3, s', b5, y, b7, h3, h5, h7, hD⟩ := HVl.o D c e
     have hss : s = s' := by rw [HSn.o, h5]; rfl
     have hz : Zv (rb + 1) Wf z x := (HZz.o x b3 h3).keep (by omega) fun c h6 h7 => zhp c (by omega) (by omega) h7
     have hu : Zv (rb + 1) Wf u y := (HZu.o y b7 h7).keep (by omega) fun c h6 h7 => zhp c (by omega) (by omega) h7
     have := (To (kb := w9.heap.size) hz hu hrow (by omega) ⟨10, ⟨s.toArray⟩, 0, li, co, none, 0, 0, none, 0, 0, (some ⟨w9.heap.size, 0, none⟩), 2, 2⟩ [] [] ⟨rfl, rfl⟩ ⟨rfl, xZ _, 0, .inl rfl⟩ ⟨rfl, xZ _, .inl rfl⟩).lower (show w.heap.size ≤ rb + 1 by omega)
     rw [hD, ← hss, ← HLc.o.1, ← HLc.o.2]
     exact this
   | true =>
    have HRt : xQ (R = rcF ts E (f + 1) a) := by
     rw [HR2.o]
     rw [HT.o] at hk
     rw [HK2.o, HE12.o] at hk5
     exact if_pos (by rw [hk, hk5, HQ.o, hq]; rfl)
    clear hk5 hk HR2 X2 HQ
    go_wp2_with fail
    go_quiet (fail)
    have HX3 : xQ (RX pb tb cap ts w (W2.drewN nq) d (.inl (a + 1)) [(nb, (Zu 8 li co).obj), (rb, Ze.obj)]) := HX2.o.drewN nq
    generalize W2.drewN nq = W3 at HX3 ⊢
    clear HX2 t0 t1 t2 t3 htl1 c0 c1 c3' htl2 q0 q1
    obtain ⟨Rm, hRm⟩ := xE (Z1 ts (Xy ts E) [44] (f + 1) (a + 1))
    have HF0 : xQ (Qq ts E Rm [] (f + 1) (a + 1)) := by rw [hRm]; exact Gm
    have HRb : xQ (R = Rm.go fun l b => (Zb ts b [125]).go fun _ b => .inl (Zi 8 [] 0 (Zx ts a) (Zz ts a) [] (l.map (·.1)) (l.map (·.2)), b)) := by rw [HRt.o, hRm]; exact rfl
    have HRm := Za hRm
    have X5 := HX3
    clear hRm HRt HX3
    obtain ⟨i0, hi, hz0, hz1, hz2⟩ := info_parts Fk
    obtain ⟨s0, si, sz0, sz1, sz2⟩ := info_parts B5
    go_wp2_with fail
    go_loopg [] (ts.length) (fun gk wr => ∃ (c m : Nat) (acc : List (List UInt8 × Ty)) (na ka : Option Addr) (nc kc : Nat) (cn ck : List (List Value)) (ns : List (List UInt8)) (ks : List (Option Ty)), xQ (ns = acc.map (·.1) ∧ ks = acc.map (fun p => some p.2)) ∧ xQ (RX pb tb cap ts w wr d (.inl c) [(nb, NV.obj ⟨8, ⟨#[]⟩, 0, li, co, none, 0, 0, na, ns.length, nc, ka, ks.length, kc⟩), (rb, Ze.obj)]) ∧ xQ (Z8 Va (rb + 1) 9 1 (Value.slice ka ks.length kc).ownBlock wr (.slice na ns.length nc) cn ns) ∧ xQ (Z8 NdQ (rb + 1) 27 8 (Value.slice na ns.length nc).ownBlock wr (.slice ka ks.length kc) ck ks) ∧ xQ (Qq ts E Rm acc m c) ∧ xQ (ts.length ≤ c + m) ∧ xQ (acc.length ≤ c) ∧ xQ (ts.length - c ≤ gk))
    case atStart =>
     exact ⟨a + 1, f + 1, [], none, none, 0, 0, [], [], [], [], ⟨rfl, rfl⟩, X5, T0 _ _ _ _ _, T0 _ _ _ _ _, HF0, (by show _ ≤ _; omega), xZ _, (by show _ ≤ _; omega)⟩
    case round =>
     clear X5 HF0
     obtain ⟨c', m, acc, na, ka, nc, kc, cn, ck, ns, ks, HNS, X, HN, HV, HF, HM, HA, HG⟩ := hrel
     have hcl : c' < ts.length := by
      obtain ⟨a', ha⟩ := X.o.at_
      have e1 := ha.live c' rfl
      have := ha.lt
      omega
     obtain ⟨m, rfl⟩ : ∃ q, m = q + 1 := ⟨m - 1, by have := HM.o; omega⟩
     have hlen : ts.length ≤ 8193 := OK.o.len
     have hnl : ns.length ≤ 8193 := by have := HA.o; rw [HNS.o.1, List.length_map]; omega
     have hkl : ks.length ≤ 8193 := by have := HA.o; rw [HNS.o.2, List.length_map]; omega
     have htb : rb < wr.heap.size := xB (X.o.box (p := (rb, Ze.obj)) (by simp))
     have hwtb : pb < rb + 1 := by omega
     obtain ⟨nmv, hnmv⟩ := xE (Y1 (Zm ts c'))
     obtain ⟨R3, hR3⟩ := xE (Th ts E c')
     have HNm := Za hnmv
     have HR3 := Za hR3
     clear hnmv hR3
     have HC1 : xQ (Calls prog 116 #[.pointer (some ⟨pb, 0, none⟩)] wr fun r w' => r = .returned (.string ⟨nmv.toArray⟩) ∧ Zj pb wr w' ∧ Zp w' pb tb cap ts d (Zd (Zm ts c'))) := by
      rw [HNm.o]
      exact Qm pb tb cap d ts (.inl c') wr X.o.at_ OK.o
     go_wp2_with fail
     refine HC1.o.mono ?_
     rintro e w1 ⟨rfl, hst, hat⟩
     have X1 := Za (X.o.step hst hat)
     have HN1 := Za (HN.o.stay hst hwtb)
     have HV1 := Za (HV.o.stay hst hwtb)
     have htb1 : rb < w1.heap.size := xT htb hst.size
     clear hst hat X HN HV HC1
     go_wp2_with fail
     refine (Xx pb tb cap d ts _ [58] _ X1.o.at_ OK.o).mono ?_
     rintro e w2 ⟨rfl, hst, hat⟩
     have X2 := Za (X1.o.step hst hat)
     have HN2 := Za (HN1.o.stay hst hwtb)
     have HV2 := Za (HV1.o.stay hst hwtb)
     have hrb2 : rb < w2.heap.size := xT htb1 hst.size
     clear hst hat X1 HN1 HV1
     have HC3 := Za (HE.o _ _ X2.o.at_)
     rw [show Zf E (Zd (Zf (fun a => Zb ts a [58]) (Zd (Zm ts c')))) = R3 from HR3.o.symm] at HC3
     go_wp2_with fail
     refine HC3.o.mono ?_
     rintro e w3 ⟨hst, hat, z, rfl, hv⟩
     have hnO : ∀ q, (Value.slice na ns.length nc).ownBlock = some q → rb + 1 ≤ q ∧ q < w3.heap.size := fun q hq => (HN2.o.stay hst hwtb).own q hq
     have hkO : ∀ q, (Value.slice ka ks.length kc).ownBlock = some q → rb + 1 ≤ q ∧ q < w3.heap.size := fun q hq => (HV2.o.stay hst hwtb).own q hq
     have HNO := Za hnO
     have HKO := Za hkO
     have hst3 := hst.trans ((Zj.refl pb w3).alloc (xT X2.o.at_.ltp hst.size) z.obj)
     have X3 := Za ((X2.o.step hst hat).alloc z.obj)
     have HN3 := Za (HN2.o.stay hst3 hwtb)
     have HV3 := Za (HV2.o.stay hst3 hwtb)
     have HMd := Za ((Xg.new (rep := NdQ) (B := rb + 1) (ndQ_of hv) hrb2 (G := fun q => (Value.slice ka ks.length kc).ownBlock = some q ∨ (Value.slice na ns.length nc).ownBlock = some q) fun q hq => HV2.o.all q hq).stay ((Zj.refl pb w3).alloc (xT X2.o.at_.ltp hst.size) z.obj) hwtb)
     have htb3 : rb < w3.heap.size := xT hrb2 hst.size
     clear hst hat hv HC3 X2 HN2 HV2 hnO hkO hst3
     have hwl : w3.heap.size < (w3.alloc z.obj).heap.size := by simp
     obtain ⟨⟨t0, t1, t2, t3, t4, t5, t6, t7⟩, ⟨f0, f1, f2, f3, f4, f5, f6, f7⟩, htl⟩ := Zh (X3.o.box (p := (nb, NV.obj ⟨8, ⟨#[]⟩, 0, li, co, none, 0, 0, na, ns.length, nc, ka, ks.length, kc⟩)) (by simp))
     have HCN : xQ (∀ j u, ([.string ⟨nmv.toArray⟩] : List Value)[j]? = some u → ((w3.alloc z.obj).alloc (.cells #[.string ⟨nmv.toArray⟩] 9)).cell? ((⟨w3.heap.size + 1, 0, none⟩ : Addr).add j) = some u) := fun j u h => by
      have := Uq (w3.alloc z.obj) [.string ⟨nmv.toArray⟩] 9 j u h
      rw [xS] at this
      exact this
     go_wp2_with (at_builtin; refine wpList_append_own_at _ rfl (.tmp 91) (.tmp 93) 24 rfl (rb + 1) 9 s0 _ 1 16 underlying24 si sz0 sz1 sz2 rfl (by decide) _ _ _ rfl (HN3.o.ow.alloc _) ⟨_, 0, none⟩ 1 1 [.string ⟨nmv.toArray⟩] rfl rfl HCN.o (by simp [Value.oneCell']) (by unfold maxLen; omega) (by omega) (by simp; omega) ?_)
     intro vn' w4 zho zhn _ hloc
     have hptl : pb < (w3.alloc z.obj).heap.size := X3.o.at_.ltp
     have HN4 := Za (HN3.o.put (x := nmv) (rep := Va) zho zhn (hloc.imp_right fun e => ⟨_, e, by simp⟩) ((Zj.refl pb _).alloc hptl _) hwtb rfl ((Xg.new (rep := Va) (lo := w3.heap.size + 1) (wx := w3.alloc z.obj) rfl (by omega) fun q hq => by have := HN3.o.all q hq; simpa using this).stay ((Zj.refl pb _).alloc hptl _) hwtb))
     have HV4 := Za ((HV3.o.stay ((Zj.refl pb _).alloc hptl (.cells #[.string ⟨nmv.toArray⟩] 9)) hwtb).beside (o' := vn'.ownBlock) zhn (hloc.imp_right fun e => ⟨_, e, by simp, (zho.lt _ e).2⟩) (by simp; omega))
     have HMd4 := Za ((HMd.o.stay ((Zj.refl pb _).alloc hptl (.cells #[.string ⟨nmv.toArray⟩] 9)) hwtb).grown (G' := fun q => (Value.slice ka ks.length kc).ownBlock = some q ∨ vn'.ownBlock = some q) zhn (fun q hq => .inr hq) fun q hq => by
      rcases hq with hq | hq
      ·exact .inl (.inl hq)
      ·rcases hloc with e | e
       ·exact .inl (.inr (e ▸ hq))
       ·rw [e] at hq; injection hq with hq; exact .inr (by rw [← hq]; simp))
     have X4 := Za ((X3.o.alloc (.cells #[.string ⟨nmv.toArray⟩] 9)).drop.grown zhn (fun q hq => by have := HNO.o q hq; omega) fun p hp q hq => by
      have := HNO.o q hq
      simp only [List.mem_cons, List.not_mem_nil, or_false] at hp
      rcases hp with rfl | rfl | rfl
      ·show q ≠ w3.heap.size; omega
      ·show q ≠ nb; omega
      ·show q ≠ rb; omega)
     obtain ⟨na4, nc4, rfl⟩ := Vb zho
     clear zho zhn hloc HCN t0 t1 t2 t3 t4 t5 t6 t7 f0 f1 f2 f3 f4 f5 f6 f7 htl hwl hptl HN3 HV3 HMd X3 HNO HKO
     generalize w3.heap.size = kb at X4 htb3 ⊢
     obtain ⟨⟨t0, t1, t2, t3, t4, t5, t6, t7⟩, ⟨f0, f1, f2, f3, f4, f5, f6, f7⟩, htl⟩ := Zh (X4.o.box (p := (nb, NV.obj ⟨8, ⟨#[]⟩, 0, li, co, none, 0, 0, na, ns.length, nc, ka, ks.length, kc⟩)) (by simp))
     obtain ⟨⟨b0, b1, b2, b3, b4, b5, b6, b7⟩, _, hbl⟩ := Zh (X4.o.box (p := (kb, z.obj)) (by simp))
     have hne : ¬ kb = nb := by omega
     have hne' : ¬ nb = kb := by omega
     have X5 : xQ (RX pb tb cap ts w (w4.setCell ⟨nb, 6, none⟩ (.slice na4 (ns.length + 1) nc4)) d (Zd R3) [(nb, NV.obj ⟨8, ⟨#[]⟩, 0, li, co, none, 0, 0, na4, (ns.length + 1), nc4, ka, ks.length, kc⟩), (kb, z.obj), (rb, Ze.obj)]) := by
      exact RX.setB (X4.o.perm (bx' := [(nb, NV.obj ⟨8, ⟨#[]⟩, 0, li, co, none, 0, 0, na, ns.length, nc, ka, ks.length, kc⟩), (kb, z.obj), (rb, Ze.obj)]) (by simp)) (by simp; omega) 6 (.slice na4 (ns.length + 1) nc4)
     have HN5 := Za (HN4.o.stay (Uf w4 nb 6 (.slice na4 (ns.length + 1) nc4)) (by omega))
     have HV5 := Za (HV4.o.stay (Uf w4 nb 6 (.slice na4 (ns.length + 1) nc4)) (by omega))
     have HMd5 := Za (HMd4.o.stay (Uf w4 nb 6 (.slice na4 (ns.length + 1) nc4)) (by omega))
     clear HN4 HV4 HMd4 X4
     have HCN : xQ (∀ j u, ([.int .i64 z.k, .string z.tx, .int .i64 z.N, .int .i64 z.li, .int .i64 z.co, .slice z.ta z.tl z.tc, .slice z.na z.nl z.nc, .slice z.ka z.kl z.kc] : List Value)[j]? = some u → ((w4.setCell ⟨nb, 6, none⟩ (.slice na4 (ns.length + 1) nc4)).alloc (.cells #[.int .i64 z.k, .string z.tx, .int .i64 z.N, .int .i64 z.li, .int .i64 z.co, .slice z.ta z.tl z.tc, .slice z.na z.nl z.nc, .slice z.ka z.kl z.kc] 27)).cell? ((⟨w4.heap.size, 0, none⟩ : Addr).add j) = some u) := fun j u h => by
      have := Uq (w4.setCell ⟨nb, 6, none⟩ (.slice na4 (ns.length + 1) nc4)) [.int .i64 z.k, .string z.tx, .int .i64 z.N, .int .i64 z.li, .int .i64 z.co, .slice z.ta z.tl z.tc, .slice z.na z.nl z.nc, .slice z.ka z.kl z.kc] 27 j u h
      rw [Zw] at this
      exact this
     go_wp2_with (at_builtin; refine wpList_append_own_at _ rfl (.tmp 97) (.tmp 99) 25 rfl (rb + 1) 27 i0 _ 8 120 underlying25 hi hz0 hz1 hz2 rfl (by decide) _ _ _ rfl (HV5.o.ow.alloc _) ⟨_, 0, none⟩ 1 1 [.int .i64 z.k, .string z.tx, .int .i64 z.N, .int .i64 z.li, .int .i64 z.co, .slice z.ta z.tl z.tc, .slice z.na z.nl z.nc, .slice z.ka z.kl z.kc] rfl rfl HCN.o (by simp [Value.oneCell']) (by unfold maxLen; omega) (by omega) (by simp; omega) ?_)
     intro vk' w6 zho zhn _ hloc
     have hptl : pb < (w4.setCell ⟨nb, 6, none⟩ (.slice na4 (ns.length + 1) nc4)).heap.size := X5.o.at_.ltp
     have HV6 := Za (HV5.o.put (x := Wc R3) (rep := NdQ) zho zhn (hloc.imp_right fun e => ⟨_, e, by simp⟩) ((Zj.refl pb _).alloc hptl _) hwtb rfl (HMd5.o.stay ((Zj.refl pb _).alloc hptl _) hwtb))
     have HN6 := Za ((HN5.o.stay ((Zj.refl pb _).alloc hptl (.cells #[.int .i64 z.k, .string z.tx, .int .i64 z.N, .int .i64 z.li, .int .i64 z.co, .slice z.ta z.tl z.tc, .slice z.na z.nl z.nc, .slice z.ka z.kl z.kc] 27)) hwtb).beside (o' := vk'.ownBlock) zhn (hloc.imp_right fun e => ⟨_, e, by simp, (zho.lt _ e).2⟩) (by simp; omega))
     have X6 : xQ (RX pb tb cap ts w w6 d (Zd R3) [(nb, NV.obj ⟨8, ⟨#[]⟩, 0, li, co, none, 0, 0, na4, (ns.length + 1), nc4, ka, ks.length, kc⟩), (rb, Ze.obj)]) := by
      refine RX.grown ((X5.o.alloc (.cells #[.int .i64 z.k, .string z.tx, .int .i64 z.N, .int .i64 z.li, .int .i64 z.co, .slice z.ta z.tl z.tc, .slice z.na z.nl z.nc, .slice z.ka z.kl z.kc] 27)).drop.perm (bx' := [(nb, NV.obj ⟨8, ⟨#[]⟩, 0, li, co, none, 0, 0, na4, (ns.length + 1), nc4, ka, ks.length, kc⟩), (rb, Ze.obj)]) (by simp)) zhn (fun q hq => by have := HV5.o.own q hq; omega) fun p hp q hq => ?_
      have := HV5.o.own q hq
      simp only [List.mem_cons, List.not_mem_nil, or_false] at hp
      rcases hp with rfl | rfl
      ·show q ≠ nb; omega
      ·show q ≠ rb; omega
     obtain ⟨ka6, kc6, rfl⟩ := Vb zho
     clear zho zhn hloc HCN t0 t1 t2 t3 t4 t5 t6 t7 f0 f1 f2 f3 f4 f5 f6 f7 htl hptl b0 b1 b2 b3 b4 b5 b6 b7 hbl HN5 HV5 HMd5 X5
     obtain ⟨⟨t0, t1, t2, t3, t4, t5, t6, t7⟩, ⟨f0, f1, f2, f3, f4, f5, f6, f7⟩, htl⟩ := Zh (X6.o.box (p := (nb, NV.obj ⟨8, ⟨#[]⟩, 0, li, co, none, 0, 0, na4, (ns.length + 1), nc4, ka, ks.length, kc⟩)) (by simp))
     have X7 : xQ (RX pb tb cap ts w (w6.setCell ⟨nb, 7, none⟩ (.slice ka6 (ks.length + 1) kc6)) d (Zd R3) [(nb, NV.obj ⟨8, ⟨#[]⟩, 0, li, co, none, 0, 0, na4, (ns.length + 1), nc4, ka6, (ks.length + 1), kc6⟩), (rb, Ze.obj)]) := by
      exact RX.setB X6.o (by simp; omega) 7 (.slice ka6 (ks.length + 1) kc6)
     have HN7 := Za (HN6.o.stay (Uf w6 nb 7 (.slice ka6 (ks.length + 1) kc6)) (by omega))
     have HV7 := Za (HV6.o.stay (Uf w6 nb 7 (.slice ka6 (ks.length + 1) kc6)) (by omega))
     clear HN6 HV6 X6
     go_wp2_with fail
     refine (Y5 pb tb cap d ts (Zd R3) [44] _ X7.o.at_ OK.o).mono ?_
     rintro e w8 ⟨rfl, hst, hat⟩
     have X8 := Za (X7.o.step hst hat)
     have HN8 := Za (HN7.o.stay hst hwtb)
     have HV8 := Za (HV7.o.stay hst hwtb)
     clear hst hat X7 HN7 HV7 t0 t1 t2 t3 t4 t5 t6 t7 f0 f1 f2 f3 f4 f5 f6 f7 htl
     have hl1 : (ns ++ [nmv]).length = ns.length + 1 := by simp
     have hl2 : (ks ++ [Wc R3]).length = ks.length + 1 := by simp
     cases hs : Yd ts (Zd R3) [44] with
     | true =>
      rw [hs, if_pos rfl] at X8
      rw [HR3.o] at hs
      obtain ⟨t, b, hRb, zhs⟩ := Fw HF.o hs
      have HNx := Za zhs
      have hup := G2 HU.o hRb
      have hS : Wy (Zd R3) = .inl (b + 1) := by rw [HR3.o, hRb]; rfl
      have hk3 : Wc R3 = some t := by rw [HR3.o, hRb]; rfl
      rw [hS, ← hl1, ← hl2] at X8
      rw [← hl1, ← hl2] at HN8 HV8
      have HNS2 : xQ (ns ++ [nmv] = (acc ++ [(Y1 (Zm ts c'), t)]).map (·.1) ∧ ks ++ [Wc R3] = (acc ++ [(Y1 (Zm ts c'), t)]).map (fun p => some p.2)) := ⟨by rw [HNS.o.1, HNm.o]; simp, by rw [HNS.o.2, hk3]; simp⟩
      clear hs hRb zhs hS hk3 hl1 hl2
      go_wp2_with fail
      go_roundg (ts.length - (b + 1))
      case measure => have := HG.o; omega
      case rel => exact ⟨b + 1, m, _, na4, ka6, nc4, kc6, _, _, _, _, HNS2, X8, HN8, HV8, HNx, (by have := HM.o; show _ ≤ _; omega), (by have := HA.o; show _ ≤ _; simp; omega), xR⟩
     | false =>
      rw [hs, if_neg (by simp)] at X8
      rw [HR3.o] at hs
      have HEn := Za (Fy HF.o hs)
      clear hs
      go_wp2_with fail
      refine (Xx pb tb cap d ts (Zd R3) [125] _ X8.o.at_ OK.o).mono ?_
      rintro e w9 ⟨rfl, hst, hat⟩
      have X9 := Za (X8.o.step hst hat)
      have HN9 := Za (HN8.o.stay hst hwtb)
      have HV9 := Za (HV8.o.stay hst hwtb)
      clear hst hat X8 HN8 HV8
      have HL1 := Za hl1
      have HL2 := Za hl2
      clear hl1 hl2
      obtain ⟨S9, hS9⟩ := xE (Zd (Zf (fun a => Zb ts a [125]) (Zd R3)))
      rw [← hS9] at X9
      have HSt : xQ (Zd R = S9) := by
       show _ = _
       rw [hS9, HRb.o, HR3.o]
       rcases HEn.o with ⟨t, b, e1, e2⟩ | ⟨e, e1, e2⟩
       ·rw [e1, e2]
        show Zd ((Zb ts b [125]).go _) = Zd (Zb ts b [125])
        cases Zb ts b [125] <;> rfl
       ·rw [e1, e2]
        rfl
      clear hS9
      obtain ⟨⟨n0, n1, n2, n3, n4, n5, n6, n7⟩, ⟨g0, g1, g2, g3, g4, g5, g6, g7⟩, hnl⟩ := Zh (X9.o.box (p := (nb, NV.obj ⟨8, ⟨#[]⟩, 0, li, co, none, 0, 0, na4, (ns.length + 1), nc4, ka6, (ks.length + 1), kc6⟩)) (by simp))
      obtain ⟨⟨r0, r1, r2, r3, r4, r5, r6, r7⟩, ⟨f0, f1, f2, f3, f4, f5, f6, f7⟩, hrl⟩ := Zh (X9.o.box (p := (rb, Ze.obj)) (by simp))
      have hne1 : ¬ nb = rb := by omega
      have hne2 : ¬ rb = nb := by omega
      go_wp2_with fail
      obtain ⟨Wf, hWf⟩ := xE ((((((((w9.setCell ⟨rb, 0, none⟩ (.int .i64 8)).setCell ⟨rb, 1, none⟩ (.string ⟨#[]⟩)).setCell ⟨rb, 2, none⟩ (.int .i64 0)).setCell ⟨rb, 3, none⟩ (.int .i64 li)).setCell ⟨rb, 4, none⟩ (.int .i64 co)).setCell ⟨rb, 5, none⟩ (.slice none 0 0)).setCell ⟨rb, 6, none⟩ (.slice na4 (ns.length + 1) nc4)).setCell ⟨rb, 7, none⟩ (.slice ka6 (ks.length + 1) kc6))
      rw [← hWf]
      obtain ⟨HXF, zhp, hsF⟩ : Left pb tb cap ts w d S9 rb nb w9 Wf ⟨8, ⟨#[]⟩, 0, li, co, none, 0, 0, na4, (ns.length + 1), nc4, ka6, (ks.length + 1), kc6⟩ 0 := by rw [hWf]; exact Mh (rb := rb) X9.o (by simp) nb ⟨8, ⟨#[]⟩, 0, li, co, none, 0, 0, na4, (ns.length + 1), nc4, ka6, (ks.length + 1), kc6⟩
      clear hWf
      replace HXF := Za HXF
      refine Vh rfl rfl (HXF.o.box xM) rfl ⟨HXF.o.st, ?_, ⟨8, ⟨#[]⟩, 0, li, co, none, 0, 0, na4, (ns.length + 1), nc4, ka6, (ks.length + 1), kc6⟩, rfl, fun D c e => ?_⟩
      ·rw [HSt.o]; exact HXF.o.at_
      ·rw [HRb.o] at e
       rcases HEn.o with ⟨t, b, e1, e2⟩ | ⟨e9, e1, e2⟩
       ·rw [e2] at e
        obtain ⟨_, b', hw, e⟩ := Vd (R := Zb ts b [125]) e
        injection e with e
        injection e with e _
        have hk3 : Wc R3 = some t := by rw [HR3.o, e1]; rfl
        have en : ns ++ [nmv] = (acc ++ [(Y1 (Zm ts c'), t)]).map (·.1) := by rw [HNS.o.1, HNm.o]; simp
        have ek : ks ++ [Wc R3] = ((acc ++ [(Y1 (Zm ts c'), t)]).map (·.2)).map some := by rw [HNS.o.2, hk3]; simp
        have hN := HN9.o
        have hV := HV9.o
        rw [← HL1.o, ← HL2.o] at hN hV
        rw [en] at hN
        rw [ek] at hV
        obtain ⟨an, cn', ean, _, hnames⟩ := Le hN
        obtain ⟨ak, ck', m', eak, _, hnodes⟩ := Dd (zab hV)
        have hlk : ((acc ++ [(Y1 (Zm ts c'), t)]).map (·.2)).length ≤ 8193 := by have := HA.o; simp; omega
        injection ean with ean _ _
        injection eak with eak _ _
        subst ean eak
        have hnm2 : Uc Wf (rb + 1) na4 ((acc ++ [(Y1 (Zm ts c'), t)]).map (·.1)) := Pj hnames (by omega) fun c h6 h7 => zhp c (by omega) (by omega) h7
        have hnd2 : Mu Wf (rb + 1) m' ka6 ((acc ++ [(Y1 (Zm ts c'), t)]).map (·.2)) := A9 hnodes (by omega) fun c h6 h7 => zhp c (by omega) (by omega) h7
        rw [← e, ← HLc.o.1, ← HLc.o.2]
        have hl1' : ns.length + 1 = ((acc ++ [(Y1 (Zm ts c'), t)]).map (·.1)).length := by rw [← en]; exact HL1.o.symm
        have hl2' : ks.length + 1 = ((acc ++ [(Y1 (Zm ts c'), t)]).map (·.2)).length := by
         have := congrArg List.length ek
         rw [HL2.o, List.length_map] at this
         exact this
        refine Zv.lower (lo := rb + 1) ⟨m' + 1, [], _, _, rfl, ⟨rfl, hl1', hl2'⟩, ⟨xZ _, ?_, by omega⟩, .inl rfl, hnm2, hnd2⟩ (by omega)
        rw [← hl1']
        omega
       ·rw [e2] at e
        cases e
end Go.Proofs.YtbnjllkkhhkkaaaGreatDoor
