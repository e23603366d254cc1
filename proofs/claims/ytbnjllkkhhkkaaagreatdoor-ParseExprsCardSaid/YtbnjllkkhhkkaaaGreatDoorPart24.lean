/- Part. -/
import Derived.Test.YtbnjllkkhhkkaaaGreatDoorPart23
set_option maxRecDepth 100000
set_option maxHeartbeats 4000000
namespace Go.Proofs.YtbnjllkkhhkkaaaGreatDoor
open Go.Proofs.Tryz
open Go.RowKit
attribute [local go_sem ↓] Go.wp_at_zero Go.wp_at_succ
theorem O0 (pb tb cap d : Nat) (ts : List Tok) (ok : Z0 ts) (p : Int × Nat × Nat) (w : World) (h : Zp w pb tb cap ts d (.inr p)) :
  Calls prog 207 #[.pointer (some ⟨pb, 0, none⟩)] w (Y4 pb tb cap ts d w (.inr p)) := by
 have OK := Za ok
 have X0 := Za (U4 h Ze.obj)
 have hp := h.ltp
 clear h
 go_enter func207, ntmps207
 go_wp2_with fail
 refine (Mo pb tb cap d ts (.inr p) 2 _ X0.o.at_).mono ?_
 rintro e w1 ⟨li, co, rfl, hlc, hst, hat⟩
 have X1 := Za ((X0.o.step hst hat).alloc (Zu 2 li co).obj)
 have hs1 := hst.size
 rw [xS] at hs1
 clear hst hat hlc X0
 obtain ⟨nb, hnb⟩ := xE w1.heap.size
 rw [← hnb] at X1 hs1
 obtain ⟨a, ha⟩ := X1.o.at_
 have hal : (a : Int) < (ts.length : Int) := by have := ha.lt; omega
 obtain ⟨t, ht⟩ := xE (Zg ts a)
 have hp0 : (p.1 == 0) = false := by have := ha.bad p rfl; simpa using this
 have HA := Za ha
 have HS : xQ (∀ W, Below (w1.alloc (Zu 2 li co).obj).heap.size (w1.alloc (Zu 2 li co).obj) W → W.cell? ⟨pb, 0, none⟩ = some (.slice (some ⟨tb, 0, none⟩) ts.length cap) ∧ W.cell? ⟨pb, 1, none⟩ = some (.int .i64 a) ∧ W.cell? ⟨tb, a * 4, none⟩ = some (.int .i64 t.kind) ∧ W.cell? ⟨tb, a * 4 + 1, none⟩ = some (.string ⟨t.text.toArray⟩) ∧ W.cell? ⟨tb, a * 4 + 2, none⟩ = some (.int .i64 t.line) ∧ W.cell? ⟨tb, a * 4 + 3, none⟩ = some (.int .i64 t.col)) := fun W hW => by
  have h1 := ha.below hW
  rw [ht]
  obtain ⟨q0, q1, q2, q3⟩ := h1.toks a h1.lt
  exact ⟨h1.cells.1.1, h1.cells.1.2.1, q0, q1, q2, q3⟩
 have hSS := HS.o (w1.alloc (Zu 2 li co).obj).drew (Below.refl _ _).drew
 have HS1 : xQ (∀ o, _) := fun o => HS.o (((w1.alloc (Zu 2 li co).obj).alloc o).drew) (Zl _ o).drew
 have HNB := Za hnb
 clear ha ht hnb
 go_wp2_with fail
 go_region_held (fun W => W.cell? ⟨pb, 0, none⟩ = some (.slice (some ⟨tb, 0, none⟩) ts.length cap) ∧ W.cell? ⟨pb, 1, none⟩ = some (.int .i64 a) ∧ W.cell? ⟨tb, a * 4, none⟩ = some (.int .i64 t.kind) ∧ W.cell? ⟨tb, a * 4 + 1, none⟩ = some (.string ⟨t.text.toArray⟩) ∧ W.cell? ⟨tb, a * 4 + 2, none⟩ = some (.int .i64 t.line) ∧ W.cell? ⟨tb, a * 4 + 3, none⟩ = some (.int .i64 t.col)) (first | with_reducible assumption | with_reducible exact HS1.o _) (fail)
 obtain ⟨W2, hW2⟩ := xE (((w1.alloc (.cells #[.int .i64 2, .string ⟨#[]⟩, .int .i64 0, .int .i64 li, .int .i64 co, .slice none 0 0, .slice none 0 0, .slice none 0 0] 27)).alloc (.cells #[.int .i64 t.kind, .string ⟨t.text.toArray⟩, .int .i64 t.line, .int .i64 t.col] 108)).drew)
 rw [← hW2]
 have X2 : xQ (RX pb tb cap ts w W2 d (.inr p) [(nb + 1, Zk t), (nb, (Zu 2 li co).obj), (w.heap.size, Ze.obj)]) := by
  have h1 := (X1.o.alloc (Zk t)).drew
  rw [xS, ← HNB.o] at h1
  rw [hW2]
  exact h1
 rw [← HNB.o]
 have hwn : w.heap.size < nb := hs1
 clear hW2 HS HS1 hSS X1 HNB HA
 obtain ⟨⟨t0, t1, t2, t3⟩, _, htl1⟩ := Zr (X2.o.box (p := (nb + 1, Zk t)) (by simp))
 have e0 : W2.cell? ⟨pb, 3, none⟩ = some (.int .i64 p.1) := by
  obtain ⟨a2, h2⟩ := X2.o.at_
  exact h2.cells.1.2.2.2.1
 have hpl2 := X2.o.at_.ltp
 go_wp2_with fail
 clear e0 t0 t1 t2 t3
 refine (Y5 pb tb cap d ts (.inr p) [116, 114, 117, 101] _ X2.o.at_ OK.o).mono ?_
 rintro e W10 ⟨rfl, hst, hat⟩
 have X10 : xQ (RX pb tb cap ts w W10 d (.inr p) [(nb + 1, Zk t), (nb, (Zu 2 li co).obj), (w.heap.size, Ze.obj)]) := X2.o.step hst hat
 have hs1 : Yd ts (.inr p) [116, 114, 117, 101] = false := rfl
 rw [hs1]
 clear hst hat X2 hs1
 go_wp2_with fail
 refine (Y5 pb tb cap d ts (.inr p) [102, 97, 108, 115, 101] _ X10.o.at_ OK.o).mono ?_
 rintro e W11 ⟨rfl, hst, hat⟩
 have X11 : xQ (RX pb tb cap ts w W11 d (.inr p) [(nb + 1, Zk t), (nb, (Zu 2 li co).obj), (w.heap.size, Ze.obj)]) := X10.o.step hst hat
 have hs2 : Yd ts (.inr p) [102, 97, 108, 115, 101] = false := rfl
 rw [hs2]
 clear hst hat X10 hs2
 go_wp2_with fail
 refine (Y5 pb tb cap d ts (.inr p) [110, 117, 108, 108] _ X11.o.at_ OK.o).mono ?_
 rintro e W12 ⟨rfl, hst, hat⟩
 have X12 : xQ (RX pb tb cap ts w W12 d (.inr p) [(nb + 1, Zk t), (nb, (Zu 2 li co).obj), (w.heap.size, Ze.obj)]) := X11.o.step hst hat
 have hs3 : Yd ts (.inr p) [110, 117, 108, 108] = false := rfl
 rw [hs3]
 clear hst hat X11 hs3
 go_wp2_with fail
 refine (Y5 pb tb cap d ts (.inr p) [114, 101, 97, 100] _ X12.o.at_ OK.o).mono ?_
 rintro e W13 ⟨rfl, hst, hat⟩
 have X13 : xQ (RX pb tb cap ts w W13 d (.inr p) [(nb + 1, Zk t), (nb, (Zu 2 li co).obj), (w.heap.size, Ze.obj)]) := X12.o.step hst hat
 have hs4 : Yd ts (.inr p) [114, 101, 97, 100] = false := rfl
 rw [hs4]
 clear hst hat X12 hs4
 go_wp2_with fail
 refine (Y5 pb tb cap d ts (.inr p) [112, 114, 105, 110, 116] _ X13.o.at_ OK.o).mono ?_
 rintro e W14 ⟨rfl, hst, hat⟩
 have X14 : xQ (RX pb tb cap ts w W14 d (.inr p) [(nb + 1, Zk t), (nb, (Zu 2 li co).obj), (w.heap.size, Ze.obj)]) := X13.o.step hst hat
 have hs5 : Yd ts (.inr p) [112, 114, 105, 110, 116] = false := rfl
 rw [hs5]
 clear hst hat X13 hs5
 go_wp2_with fail
 refine (Y5 pb tb cap d ts (.inr p) [40] _ X14.o.at_ OK.o).mono ?_
 rintro e W15 ⟨rfl, hst, hat⟩
 have X15 : xQ (RX pb tb cap ts w W15 d (.inr p) [(nb + 1, Zk t), (nb, (Zu 2 li co).obj), (w.heap.size, Ze.obj)]) := X14.o.step hst hat
 have hs6 : Yd ts (.inr p) [40] = false := rfl
 rw [hs6]
 clear hst hat X14 hs6
 go_wp2_with fail
 refine (Y5 pb tb cap d ts (.inr p) [123] _ X15.o.at_ OK.o).mono ?_
 rintro e W16 ⟨rfl, hst, hat⟩
 have X16 : xQ (RX pb tb cap ts w W16 d (.inr p) [(nb + 1, Zk t), (nb, (Zu 2 li co).obj), (w.heap.size, Ze.obj)]) := X15.o.step hst hat
 have hs7 : Yd ts (.inr p) [123] = false := rfl
 rw [hs7]
 clear hst hat X15 hs7
 obtain ⟨⟨n0, n1, n2, n3, n4, n5, n6, n7⟩, ⟨g0, g1, g2, g3, g4, g5, g6, g7⟩, hnl⟩ := Zh (X16.o.box (p := (nb, (Zu 2 li co).obj)) (by simp))
 have hne1 : ¬ nb = w.heap.size := by omega
 have hne2 : ¬ w.heap.size = nb := by omega
 have X17 : xQ (RX pb tb cap ts w (W16.setCell ⟨nb, 0, none⟩ (.int .i64 4)) d (.inr p) [(nb, (Zu 4 li co).obj), (w.heap.size, Ze.obj)]) := RX.setB (X16.o.perm (bx' := [(nb, (Zu 2 li co).obj), (w.heap.size, Ze.obj)]) (by simp)) (by simp; omega) 0 (.int .i64 4)
 go_wp2_with fail
 refine (Qm pb tb cap d ts (.inr p) _ X17.o.at_ OK.o).mono ?_
 rintro e wn ⟨rfl, hst, hat⟩
 have X18 : xQ (RX pb tb cap ts w wn d (.inr p) [(nb, (Zu 4 li co).obj), (w.heap.size, Ze.obj)]) := X17.o.step hst hat
 clear hst hat X17 X16 n0 n1 n2 n3 n4 n5 n6 n7 g0 g1 g2 g3 g4 g5 g6 g7 hnl
 obtain ⟨s, hs⟩ := xE (Y1 (Zf (Zm ts) (.inr p)))
 rw [← hs]
 clear hs
 obtain ⟨⟨n0, n1, n2, n3, n4, n5, n6, n7⟩, ⟨g0, g1, g2, g3, g4, g5, g6, g7⟩, hnl⟩ := Zh (X18.o.box (p := (nb, (Zu 4 li co).obj)) (by simp))
 have X19 : xQ (RX pb tb cap ts w (wn.setCell ⟨nb, 1, none⟩ (.string ⟨s.toArray⟩)) d (.inr p) [(nb, NV.obj ⟨4, ⟨s.toArray⟩, 0, li, co, none, 0, 0, none, 0, 0, none, 0, 0⟩), (w.heap.size, Ze.obj)]) := X18.o.setB (by simp; omega) 1 (.string ⟨s.toArray⟩)
 go_wp2_with fail
 refine (Y5 pb tb cap d ts (.inr p) [91] _ X19.o.at_ OK.o).mono ?_
 rintro e wt ⟨rfl, hst, hat⟩
 have X : xQ (RX pb tb cap ts w wt d (.inr p) [(nb, NV.obj ⟨4, ⟨s.toArray⟩, 0, li, co, none, 0, 0, none, 0, 0, none, 0, 0⟩), (w.heap.size, Ze.obj)]) := X19.o.step hst hat
 have hs9 : Yd ts (.inr p) [91] = false := rfl
 rw [hs9]
 clear hst hat X18 X19 n0 n1 n2 n3 n4 n5 n6 n7 g0 g1 g2 g3 g4 g5 g6 g7 hnl hs9
 obtain ⟨⟨n0, n1, n2, n3, n4, n5, n6, n7⟩, ⟨g0, g1, g2, g3, g4, g5, g6, g7⟩, hnl⟩ := Zh (X.o.box (p := (nb, NV.obj ⟨4, ⟨s.toArray⟩, 0, li, co, none, 0, 0, none, 0, 0, none, 0, 0⟩)) (by simp))
 obtain ⟨⟨r0, r1, r2, r3, r4, r5, r6, r7⟩, ⟨f0, f1, f2, f3, f4, f5, f6, f7⟩, hrl⟩ := Zh (X.o.box (p := (w.heap.size, Ze.obj)) (by simp))
 have zib : ¬ nb = w.heap.size := by omega
 have zic : ¬ w.heap.size = nb := by omega
 go_wp2_with fail
 obtain ⟨Wf, hWf⟩ := xE ((((((((wt.setCell ⟨w.heap.size, 0, none⟩ (.int .i64 4)).setCell ⟨w.heap.size, 1, none⟩ (.string ⟨s.toArray⟩)).setCell ⟨w.heap.size, 2, none⟩ (.int .i64 0)).setCell ⟨w.heap.size, 3, none⟩ (.int .i64 li)).setCell ⟨w.heap.size, 4, none⟩ (.int .i64 co)).setCell ⟨w.heap.size, 5, none⟩ (.slice none 0 0)).setCell ⟨w.heap.size, 6, none⟩ (.slice none 0 0)).setCell ⟨w.heap.size, 7, none⟩ (.slice none 0 0))
 rw [← hWf]
 obtain ⟨HXF, zhp, hsF⟩ : Left pb tb cap ts w d (.inr p) w.heap.size nb wt Wf ⟨4, ⟨s.toArray⟩, 0, li, co, none, 0, 0, none, 0, 0, none, 0, 0⟩ 0 := by rw [hWf]; exact Mh (rb := w.heap.size) X.o (by simp) nb ⟨4, ⟨s.toArray⟩, 0, li, co, none, 0, 0, none, 0, 0, none, 0, 0⟩
 clear hWf
 replace HXF := Za HXF
 refine Vh rfl rfl (HXF.o.box xM) rfl ⟨HXF.o.st, ?_, ⟨4, ⟨s.toArray⟩, 0, li, co, none, 0, 0, none, 0, 0, none, 0, 0⟩, rfl, fun D c e => ?_⟩
 ·exact HXF.o.at_
 ·cases e
theorem zfy (pb tb cap d : Nat) (ts : List Tok) (ok : Z0 ts) (K E : Nat → Pr Ty) (f : Nat) (hf : ts.length ≤ f + 1) (huK : ∀ a x b, K a = .inl (x, b) → a ≤ b)
  (hK : ∀ S w, Zp w pb tb cap ts d S → Calls prog 31 #[.pointer (some ⟨pb, 0, none⟩)] w (Vn pb tb cap ts d w (Zf K S)))
  (hE : ∀ S w, Zp w pb tb cap ts d S → Calls prog 25 #[.pointer (some ⟨pb, 0, none⟩)] w (Y4 pb tb cap ts d w (Zf E S)))
  (hRec : ∀ a li co w, li = Zx ts a → co = Zz ts a → Zp w pb tb cap ts d (.inl (a + 1)) → Calls prog 214 #[.pointer (some ⟨pb, 0, none⟩), (Zu 2 li co).val] w (Y4 pb tb cap ts d w (Q1 ts E (f + 1) a)))
  (S : Z3) (w : World) (h : Zp w pb tb cap ts d S) :
  Calls prog 207 #[.pointer (some ⟨pb, 0, none⟩)] w (Y4 pb tb cap ts d w (Zf (Wm ts K E (f + 1)) S)) := by
 cases S with
 | inl a => exact zgd pb tb cap d ts ok K E f hf huK hK hE a (hRec a) w h
 | inr p => exact O0 pb tb cap d ts ok p w h
theorem Ut {α β : Type} (R : Pr α) (G : α → Nat → Pr β) (k : Z3 → Z3) (hk : ∀ p, k (.inr p) = .inr p) (h : ∀ x b, R = .inl (x, b) → Zd (G x b) = k (.inl b)) : Zd (R.go G) = k (Zd R) := by
 cases R with
 | inr p => exact (hk p).symm
 | inl q => exact h q.1 q.2 rfl
theorem Lz {α β : Type} (R : Pr α) (G : α → β) : Zd (R.go fun x b => (.inl (G x, b) : Pr β)) = Zd R := by cases R <;> rfl
theorem Vd {α β : Type} {R : Pr α} {G : α → Nat → Pr β} {D : β} {c : Nat} (h : R.go G = .inl (D, c)) : ∃ x b, R = .inl (x, b) ∧ G x b = .inl (D, c) := by
 cases R with
 | inr p => cases h
 | inl q => exact ⟨q.1, q.2, rfl, h⟩
section
variable (ts : List Tok) (K E U : Nat → Pr Ty) (f a : Nat)
def Kx : Pr Ty := (Zm ts (a + 1)).go fun s b => (Yx ts K b).go fun t b => (Zb ts b [61]).go fun _ b => (E b).go fun v b => (Zb ts b [59]).go fun _ b => (E b).go fun r b => .inl (Zi 5 s 0 (Zx ts a) (Zz ts a) t [] [v, r], b)
def L0 : Pr Ty := (E (a + 1)).go fun c b => (Zb ts b [116, 104, 101, 110]).go fun _ b => (E b).go fun x b => (Zb ts b [101, 108, 115, 101]).go fun _ b => (E b).go fun y b => .inl (Zi 11 [] 0 (Zx ts a) (Zz ts a) [] [] [c, x, y], b)
def K0 : Pr Ty := (U6 ts K (a + 1)).go fun h b => (Zb ts b [61, 62]).go fun _ b => (E b).go fun x b => .inl (Zi 6 h.1 0 (Zx ts a) (Zz ts a) h.2 [] [x], b)
def ex3 : Pr Ty := if Zc ts a [102, 110] then K0 ts K E a else Mc ts K U f a
def ex2 : Pr Ty := if Zc ts a [105, 102] then L0 ts E a else ex3 ts K E U f a
theorem L8 : Vc ts K E U f a = if Zc ts a [108, 101, 116] then Kx ts K E a else ex2 ts K E U f a := rfl
end
theorem Ed {lo : Nat} {w' : World} {R : Pr (List Ty)} {e : Ending} (h : Gv lo w' R e) : ∃ (av : Option Addr) (al ac : Nat) (cs : List (List Value)) (acc : List (Option Ty)), e = .returned (.slice av al ac) ∧ Z8 Wi lo 36 4 none w' (.slice av acc.length ac) cs acc ∧ acc.length ≤ 1 ∧ al = acc.length ∧ ∀ l b, R = .inl (l, b) → acc = l.map some := by
 rcases h with ⟨rfl, hn⟩ | ⟨g, k1, nm1, na1, nl1, nc1, ka1, kl1, kc1, x1, rfl, hg, hn⟩
 ·exact ⟨none, 0, 0, [], [], rfl, T0 Wi _ _ _ _, by simp, rfl, fun l b e => by rw [hn l b e]; rfl⟩
 ·refine ⟨some ⟨g, 0, none⟩, 1, 1, _, [x1], rfl, hg, by simp, rfl, fun l b e => ?_⟩
  obtain ⟨t, rfl, rfl⟩ := hn l b e
  rfl
theorem zeq (pb tb cap d : Nat) (ts : List Tok) (ok : Z0 ts) (K E U : Nat → Pr Ty) (f : Nat)
  (hK : ∀ S w, Zp w pb tb cap ts d S → Calls prog 31 #[.pointer (some ⟨pb, 0, none⟩)] w (Vn pb tb cap ts d w (Zf K S)))
  (hE : ∀ S w, Zp w pb tb cap ts d S → Calls prog 25 #[.pointer (some ⟨pb, 0, none⟩)] w (Y4 pb tb cap ts d w (Zf E S)))
  (hO : ∀ S w, Zp w pb tb cap ts d S → Calls prog 120 #[.pointer (some ⟨pb, 0, none⟩), .int .i64 0] w (Y4 pb tb cap ts d w (Zf (Mc ts K U f) S)))
  (S : Z3) (w : World) (h : Zp w pb tb cap ts d S) :
  Calls prog 60 #[.pointer (some ⟨pb, 0, none⟩)] w (Y4 pb tb cap ts d w (Zf (Vc ts K E U f) S)) := by
 have OK := Za ok
 have HK := Za hK
 have HE := Za hE
 have HO := Za hO
 have X0 := Za (U4 h Ze.obj)
 have hp := h.ltp
 obtain ⟨R, hR⟩ := xE (Zf (Vc ts K E U f) S)
 rw [← hR]
 have HR := Za hR
 clear h hR hE hO hK
 go_enter func60, ntmps60
 go_wp2_with fail
 refine (Mo pb tb cap d ts S 5 _ X0.o.at_).mono ?_
 rintro e w1 ⟨li, co, rfl, hlc, hst, hat⟩
 have X1 := Za ((X0.o.step hst hat).alloc (Zu 5 li co).obj)
 have HLC := Za hlc
 have hs1 := hst.size
 rw [xS] at hs1
 clear hst hat hlc X0
 go_wp2_with fail
 obtain ⟨nb, hnb⟩ := xE w1.heap.size
 rw [← hnb] at X1 hs1 ⊢
 clear hnb
 generalize w1.alloc (.cells #[.int .i64 5, .string ⟨#[]⟩, .int .i64 0, .int .i64 li, .int .i64 co, .slice none 0 0, .slice none 0 0, .slice none 0 0] 27) = W1 at X1 ⊢
 have hwn : w.heap.size < nb := hs1
 refine (Y5 pb tb cap d ts S [108, 101, 116] _ X1.o.at_ OK.o).mono ?_
 rintro e wt ⟨rfl, hst, hat⟩
 have X := Za (X1.o.step hst hat)
 clear hst hat X1
 cases hs : Yd ts S [108, 101, 116] with
 | true =>
  rw [hs, if_pos rfl] at X
  obtain ⟨a, rfl⟩ : ∃ a, S = .inl a := by cases S with
   | inl a => exact ⟨a, rfl⟩
   | inr p => cases hs
  obtain ⟨hl, hc⟩ := HLC.o a rfl
  have HLc := Za (And.intro hl hc)
  replace X : xQ (RX pb tb cap ts w wt d (.inl (a + 1)) [(nb, (Zu 5 li co).obj), (w.heap.size, Ze.obj)]) := X
  clear hl hc HLC
  have HRt : xQ (R = Kx ts K E a) := by
   rw [HR.o]
   show Vc ts K E U f a = _
   rw [L8]
   exact if_pos hs
  clear hs HR
  go_wp2_with fail
  refine (Qm pb tb cap d ts (.inl (a + 1)) _ X.o.at_ OK.o).mono ?_
  rintro e w2 ⟨rfl, hst, hat⟩
  have X2 := Za (X.o.step hst hat)
  clear hst hat X
  obtain ⟨R2, hR2⟩ := xE (Zm ts (a + 1))
  have e9 : Zf (Zm ts) (.inl (a + 1)) = R2 := hR2.symm
  rw [e9] at X2 ⊢
  have HR2 := Za hR2
  obtain ⟨s, hs⟩ := xE (Y1 R2)
  rw [← hs]
  have HSn := Za hs
  clear hs e9 hR2
  obtain ⟨⟨n0, n1, n2, n3, n4, n5, n6, n7⟩, ⟨g0, g1, g2, g3, g4, g5, g6, g7⟩, hnl⟩ := Zh (X2.o.box (p := (nb, (Zu 5 li co).obj)) (by simp))
  have X3 : xQ (RX pb tb cap ts w (w2.setCell ⟨nb, 1, none⟩ (.string ⟨s.toArray⟩)) d (Zd R2) [(nb, NV.obj ⟨5, ⟨s.toArray⟩, 0, li, co, none, 0, 0, none, 0, 0, none, 0, 0⟩), (w.heap.size, Ze.obj)]) := X2.o.setB (by simp; omega) 1 (.string ⟨s.toArray⟩)
  go_wp2_with fail
  refine (Hm pb tb cap d ts OK.o K HK.o (Zd R2) _ X3.o.at_).mono ?_
  rintro e w3 ⟨hst, hat, hnote⟩
  have hnw := xB (X3.o.box (p := (nb, NV.obj ⟨5, ⟨s.toArray⟩, 0, li, co, none, 0, 0, none, 0, 0, none, 0, 0⟩)) (by simp))
  obtain ⟨av, al, ac, cs, acc, rfl, zhx, hal2, hlen, hval⟩ := Ed hnote
  have X4 := Za (X3.o.step hst hat)
  have HRW := Za (zhx.lowerB (B' := nb + 1) hnw)
  have HVal := Za hval
  subst hlen
  clear hst hat X2 X3 zhx hval hnote n0 n1 n2 n3 n4 n5 n6 n7 g0 g1 g2 g3 g4 g5 g6 g7 hnl
  obtain ⟨R3, hR3⟩ := xE (Zf (Yx ts K) (Zd R2))
  rw [← hR3] at X4 HVal
  have HR3 := Za hR3
  clear hR3
  obtain ⟨⟨n0, n1, n2, n3, n4, n5, n6, n7⟩, ⟨g0, g1, g2, g3, g4, g5, g6, g7⟩, hnl⟩ := Zh (X4.o.box (p := (nb, NV.obj ⟨5, ⟨s.toArray⟩, 0, li, co, none, 0, 0, none, 0, 0, none, 0, 0⟩)) (by simp))
  have X5 : xQ (RX pb tb cap ts w (w3.setCell ⟨nb, 5, none⟩ (.slice av acc.length ac)) d (Zd R3) [(nb, NV.obj ⟨5, ⟨s.toArray⟩, 0, li, co, av, acc.length, ac, none, 0, 0, none, 0, 0⟩), (w.heap.size, Ze.obj)]) := X4.o.setB (by simp; omega) 5 (.slice av acc.length ac)
  replace HRW := Za (HRW.o.stay (Uf w3 nb 5 (.slice av acc.length ac)) (xU _))
  go_wp2_with fail
  refine (Xx pb tb cap d ts (Zd R3) [61] _ X5.o.at_ OK.o).mono ?_
  rintro e w5 ⟨rfl, hst, hat⟩
  have X6 := Za (X5.o.step hst hat)
  replace HRW := Za (HRW.o.stay hst (by omega))
  clear hst hat X4 X5 n0 n1 n2 n3 n4 n5 n6 n7 g0 g1 g2 g3 g4 g5 g6 g7 hnl
  obtain ⟨S4, hS4⟩ := xE (Zd (Zf (fun a => Zb ts a [61]) (Zd R3)))
  rw [← hS4] at X6
  have HS4 := Za hS4
  clear hS4
  go_wp2_with fail
  refine (HE.o _ _ X6.o.at_).mono ?_
  rintro e wv ⟨hst, hat, z, rfl, hv⟩
  have X7 := Za ((X6.o.step hst hat).alloc z.obj)
  have hnv := xB (X6.o.box (p := (nb, _)) (xM))
  replace HRW := Za ((HRW.o.stay hst (by omega)).stay ((Zj.refl pb wv).alloc (xT X6.o.at_.ltp hst.size) z.obj) (by omega))
  have HZz : xQ (Yq (nb + 1) (wv.alloc z.obj) z (Zf E S4)) := (Yq.lower hv hnv).below (Zl _ _)
  have hsv := hst.size
  clear hst hat hv X6
  obtain ⟨R5, hR5⟩ := xE (Zf E S4)
  rw [← hR5] at X7 HZz
  have HR5 := Za hR5
  clear hR5
  go_wp2_with fail
  obtain ⟨kb, hkb⟩ := xE wv.heap.size
  rw [← hkb] at X7 hsv ⊢
  clear hkb
  generalize wv.alloc (.cells #[.int .i64 z.k, .string z.tx, .int .i64 z.N, .int .i64 z.li, .int .i64 z.co, .slice z.ta z.tl z.tc, .slice z.na z.nl z.nc, .slice z.ka z.kl z.kc] 27) = W7 at X7 HZz HRW ⊢
  have hnkb : nb < kb := by omega
  clear hnv hsv
  go_wp2_with fail
  refine (Xx pb tb cap d ts (Zd R5) [59] _ X7.o.at_ OK.o).mono ?_
  rintro e w8 ⟨rfl, hst, hat⟩
  have X8 := Za (X7.o.step hst hat)
  replace HRW := Za (HRW.o.stay hst (by omega))
  replace HZz := Za (HZz.o.stay hst (by omega))
  clear hst hat X7
  obtain ⟨S6, hS6⟩ := xE (Zd (Zf (fun a => Zb ts a [59]) (Zd R5)))
  rw [← hS6] at X8
  have HS6 := Za hS6
  clear hS6
  replace X8 : xQ (RX pb tb cap ts w w8 d S6 [(nb, NV.obj ⟨5, ⟨s.toArray⟩, 0, li, co, av, acc.length, ac, none, 0, 0, none, 0, 0⟩), (kb, z.obj), (w.heap.size, Ze.obj)]) := X8.o.perm (by simp)
  go_wp2_with fail
  refine (HE.o _ _ X8.o.at_).mono ?_
  rintro e w9 ⟨hst, hat, u, rfl, hv⟩
  have X9 := Za (X8.o.step hst hat)
  have hnv := xB (X8.o.box (p := (nb, _)) (xM))
  replace HRW := Za (HRW.o.stay hst (by omega))
  replace HZz := Za (HZz.o.stay hst (by omega))
  have HZu : xQ (Yq (nb + 1) w9 u (Zf E S6)) := Yq.lower hv hnv
  clear hst hat hv X8 hnv
  obtain ⟨R7, hR7⟩ := xE (Zf E S6)
  rw [← hR7] at X9 HZu
  have HR7 := Za hR7
  clear hR7
  have HSt : xQ (Zd R = Zd R7) := by
   show _ = _
   rw [HRt.o, HR7.o, HS6.o, HR5.o, HS4.o, HR3.o, HR2.o]
   unfold Kx
   refine Ut _ _ (fun S => Zd (Zf E (Zd (Zf (fun a => Zb ts a [59]) (Zd (Zf E (Zd (Zf (fun a => Zb ts a [61]) (Zd (Zf (Yx ts K) S)))))))))) (fun _ => rfl) fun s b _ => ?_
   refine Ut _ _ (fun S => Zd (Zf E (Zd (Zf (fun a => Zb ts a [59]) (Zd (Zf E (Zd (Zf (fun a => Zb ts a [61]) S)))))))) (fun _ => rfl) fun l b _ => ?_
   refine Ut _ _ (fun S => Zd (Zf E (Zd (Zf (fun a => Zb ts a [59]) (Zd (Zf E S)))))) (fun _ => rfl) fun _ b _ => ?_
   refine Ut _ _ (fun S => Zd (Zf E (Zd (Zf (fun a => Zb ts a [59]) S)))) (fun _ => rfl) fun x b _ => ?_
   refine Ut _ _ (fun S => Zd (Zf E S)) (fun _ => rfl) fun _ b _ => ?_
   exact Lz (E b) fun r => Zi 5 s 0 (Zx ts a) (Zz ts a) l [] [x, r]
  have HVl : xQ (∀ D c, R = .inl (D, c) → ∃ s' b2 l b3 x b5 y b7, R2 = .inl (s', b2) ∧ R3 = .inl (l, b3) ∧ R5 = .inl (x, b5) ∧ R7 = .inl (y, b7) ∧ D = Zi 5 s' 0 (Zx ts a) (Zz ts a) l [] [x, y]) := fun D c e => by
   rw [HRt.o] at e
   unfold Kx at e
   obtain ⟨s', b2, h2, e⟩ := Vd e
   obtain ⟨l, b3, h3, e⟩ := Vd e
   obtain ⟨_, b4, h4, e⟩ := Vd e
   obtain ⟨x, b5, h5, e⟩ := Vd e
   obtain ⟨_, b6, h6, e⟩ := Vd e
   obtain ⟨y, b7, h7, e⟩ := Vd e
   injection e with e
   injection e with e _
   have g2 : R2 = .inl (s', b2) := by rw [HR2.o, h2]
   have g3 : R3 = .inl (l, b3) := by rw [HR3.o, g2]; exact h3
   have g4 : S4 = .inl b4 := by rw [HS4.o, g3]; show Zd (Zb ts b3 [61]) = _; rw [h4]; rfl
   have g5 : R5 = .inl (x, b5) := by rw [HR5.o, g4]; exact h5
   have g6 : S6 = .inl b6 := by rw [HS6.o, g5]; show Zd (Zb ts b5 [59]) = _; rw [h6]; rfl
   exact ⟨s', b2, l, b3, x, b5, y, b7, g2, g3, g5, by rw [HR7.o, g6]; exact h7, e.symm⟩
  obtain ⟨⟨z0, z1, z2, z3, z4, z5, z6, z7⟩, _, hkl⟩ := Zh (X9.o.box (p := (kb, z.obj)) (by simp))
  have hne9 : ¬ kb = nb := by omega
  have hne7 : ¬ kb = w.heap.size := by omega
  obtain ⟨⟨n0, n1, n2, n3, n4, n5, n6, n7⟩, ⟨g0, g1, g2, g3, g4, g5, g6, g7⟩, hnl⟩ := Zh (X9.o.box (p := (nb, NV.obj ⟨5, ⟨s.toArray⟩, 0, li, co, av, acc.length, ac, none, 0, 0, none, 0, 0⟩)) (by simp))
  obtain ⟨⟨r0, r1, r2, r3, r4, r5, r6, r7⟩, ⟨f0, f1, f2, f3, f4, f5, f6, f7⟩, hrl⟩ := Zh (X9.o.box (p := (w.heap.size, Ze.obj)) (by simp))
  have hne1 : ¬ nb = w.heap.size := by omega
  have hne2 : ¬ w.heap.size = nb := by omega
  go_wp2_with fail
  obtain ⟨Wf, hWf⟩ := xE (((((((((((w9.setCell ⟨nb, 7, none⟩ (.slice (some ⟨w9.heap.size + 1, 0, none⟩) 2 2)).setCell ⟨w.heap.size, 0, none⟩ (.int .i64 5)).setCell ⟨w.heap.size, 1, none⟩ (.string ⟨s.toArray⟩)).setCell ⟨w.heap.size, 2, none⟩ (.int .i64 0)).setCell ⟨w.heap.size, 3, none⟩ (.int .i64 li)).setCell ⟨w.heap.size, 4, none⟩ (.int .i64 co)).setCell ⟨w.heap.size, 5, none⟩ (.slice av acc.length ac)).setCell ⟨w.heap.size, 6, none⟩ (.slice none 0 0)).setCell ⟨w.heap.size, 7, none⟩ (.slice (some ⟨w9.heap.size + 1, 0, none⟩) 2 2)).alloc (.cells #[.int .i64 u.k, .string u.tx, .int .i64 u.N, .int .i64 u.li, .int .i64 u.co, .slice u.ta u.tl u.tc, .slice u.na u.nl u.nc, .slice u.ka u.kl u.kc] 27)).alloc (.cells #[.int .i64 z.k, .string z.tx, .int .i64 z.N, .int .i64 z.li, .int .i64 z.co, .slice z.ta z.tl z.tc, .slice z.na z.nl z.nc, .slice z.ka z.kl z.kc, .int .i64 u.k, .string u.tx, .int .i64 u.N, .int .i64 u.li, .int .i64 u.co, .slice u.ta u.tl u.tc, .slice u.na u.nl u.nc, .slice u.ka u.kl u.kc] 27))
  rw [← hWf]
  obtain ⟨HXF, zhp, hsF⟩ : Left pb tb cap ts w d (Zd R7) w.heap.size nb w9 Wf ⟨5, ⟨s.toArray⟩, 0, li, co, av, acc.length, ac, none, 0, 0, (some ⟨w9.heap.size + 1, 0, none⟩), 2, 2⟩ 2 := by rw [hWf]; exact Tp (Tp (Us (rb := w.heap.size) X9.o (by simp) (by omega) (by omega) 7 (.slice (some ⟨w9.heap.size + 1, 0, none⟩) 2 2) ⟨5, ⟨s.toArray⟩, 0, li, co, av, acc.length, ac, none, 0, 0, (some ⟨w9.heap.size + 1, 0, none⟩), 2, 2⟩) (u.obj)) (Ve z u)
  have hrow : Wf.heap[w9.heap.size + 1]? = some (Ve z u) := by rw [hWf]; exact M8 (Tp (Us (rb := w.heap.size) X9.o (by simp) (by omega) (by omega) 7 (.slice (some ⟨w9.heap.size + 1, 0, none⟩) 2 2) ⟨5, ⟨s.toArray⟩, 0, li, co, av, acc.length, ac, none, 0, 0, (some ⟨w9.heap.size + 1, 0, none⟩), 2, 2⟩) (u.obj)) (Ve z u) rfl
  clear hWf
  replace HXF := Za HXF
  refine Vh rfl rfl (HXF.o.box xM) rfl ⟨HXF.o.st, ?_, ⟨5, ⟨s.toArray⟩, 0, li, co, av, acc.length, ac, none, 0, 0, (some ⟨w9.heap.size + 1, 0, none⟩), 2, 2⟩, rfl, fun D c e => ?_⟩
  ·rw [HSt.o]; exact HXF.o.at_
  ·obtain ⟨s', b2, l, b3, x, b5, y, b7, h2, h3, h5, h7, hD⟩ := HVl.o D c e
   have hss : s = s' := by rw [HSn.o, h2]; rfl
   have hacc := HVal.o l b3 h3
   have hz : Zv (nb + 1) Wf z x := (HZz.o x b5 h5).keep (by omega) fun c h6 h7 => zhp c (by omega) (by omega) h7
   have hu : Zv (nb + 1) Wf u y := (HZu.o y b7 h7).keep (by omega) fun c h6 h7 => zhp c (by omega) (by omega) h7
   have hr := HRW.o
   rw [hacc] at hr
   obtain ⟨a2, cap2, m, ea, hcl, hk⟩ := Py (B1 hr)
   rw [List.length_map] at ea
   injection ea with ea _ _
   subst ea
   have hll : acc.length = l.length := by rw [hacc, List.length_map]
   have hk2 : Xw Wf (nb + 1) m av l := Vv hk (by omega) fun c h6 h7 => zhp c (by omega) (by omega) h7
   have := (To (kb := w9.heap.size + 1) hz hu hrow (by omega) ⟨5, ⟨s.toArray⟩, 0, li, co, av, acc.length, ac, none, 0, 0, (some ⟨w9.heap.size + 1, 0, none⟩), 2, 2⟩ l [] ⟨rfl, rfl⟩ ⟨hll, by omega, m, hk2⟩ ⟨rfl, xZ _, .inl rfl⟩).lower (show w.heap.size ≤ nb + 1 by omega)
   rw [hD, ← hss, ← HLc.o.1, ← HLc.o.2]
   exact this
 | false =>
 rw [hs, if_neg (by simp)] at X
 have HN1 := Za hs
 clear hs
 obtain ⟨W10, hW10⟩ := xE wt
 subst hW10
 have X10 := X
 clear X
 go_wp2_with fail
 refine (Y5 pb tb cap d ts S [105, 102] _ X10.o.at_ OK.o).mono ?_
 rintro e wt ⟨rfl, hst, hat⟩
 have X := Za (X10.o.step hst hat)
 clear hst hat X10
 cases hs : Yd ts S [105, 102] with
 | true =>
  rw [hs, if_pos rfl] at X
  obtain ⟨a, rfl⟩ : ∃ a, S = .inl a := by cases S with
   | inl a => exact ⟨a, rfl⟩
   | inr p => cases hs
  obtain ⟨hl, hc⟩ := HLC.o a rfl
  have HLc := Za (And.intro hl hc)
  replace X : xQ (RX pb tb cap ts w wt d (.inl (a + 1)) [(nb, (Zu 5 li co).obj), (w.heap.size, Ze.obj)]) := X
  clear hl hc HLC
  have HRt : xQ (R = L0 ts E a) := by
   rw [HR.o]
   show Vc ts K E U f a = _
   rw [L8, if_neg (by rw [show Zc ts a [108, 101, 116] = false from HN1.o]; simp)]
   exact if_pos hs
  clear hs HR HN1
  obtain ⟨⟨n0, n1, n2, n3, n4, n5, n6, n7⟩, ⟨g0, g1, g2, g3, g4, g5, g6, g7⟩, hnl⟩ := Zh (X.o.box (p := (nb, (Zu 5 li co).obj)) (by simp))
  have X2 : xQ (RX pb tb cap ts w (wt.setCell ⟨nb, 0, none⟩ (.int .i64 11)) d (.inl (a + 1)) [(nb, NV.obj ⟨11, ⟨#[]⟩, 0, li, co, none, 0, 0, none, 0, 0, none, 0, 0⟩), (w.heap.size, Ze.obj)]) := X.o.setB (by simp; omega) 0 (.int .i64 11)
  clear X
  go_wp2_with fail
  refine (HE.o _ _ X2.o.at_).mono ?_
  rintro e wv ⟨hst, hat, z, rfl, hv⟩
  have X3 := Za ((X2.o.step hst hat).alloc z.obj)
  have hnv := xB (X2.o.box (p := (nb, _)) (xM))
  have HZz : xQ (Yq (nb + 1) (wv.alloc z.obj) z (Zf E (.inl (a + 1)))) := (Yq.lower hv hnv).below (Zl _ _)
  have hsv := hst.size
  clear hst hat hv X2 n0 n1 n2 n3 n4 n5 n6 n7 g0 g1 g2 g3 g4 g5 g6 g7 hnl
  obtain ⟨R2, hR2⟩ := xE (Zf E (.inl (a + 1)))
  rw [← hR2] at X3 HZz
  have HR2 := Za hR2
  clear hR2
  go_wp2_with fail
  obtain ⟨kb, hkb⟩ := xE wv.heap.size
  rw [← hkb] at X3 hsv ⊢
  clear hkb
  generalize wv.alloc (.cells #[.int .i64 z.k, .string z.tx, .int .i64 z.N, .int .i64 z.li, .int .i64 z.co, .slice z.ta z.tl z.tc, .slice z.na z.nl z.nc, .slice z.ka z.kl z.kc] 27) = W3 at X3 HZz  ⊢
  have hnkb : nb < kb := by omega
  clear hnv hsv
  go_wp2_with fail
  refine (Xx pb tb cap d ts (Zd R2) [116, 104, 101, 110] _ X3.o.at_ OK.o).mono ?_
  rintro e w4 ⟨rfl, hst, hat⟩
  have X4 := Za (X3.o.step hst hat)
  replace HZz := Za (HZz.o.stay hst (by omega))
  clear hst hat X3
  obtain ⟨S4, hS4⟩ := xE (Zd (Zf (fun a => Zb ts a [116, 104, 101, 110]) (Zd R2)))
  rw [← hS4] at X4
  have HS4 := Za hS4
  clear hS4
  replace X4 : xQ (RX pb tb cap ts w w4 d S4 [(nb, NV.obj ⟨11, ⟨#[]⟩, 0, li, co, none, 0, 0, none, 0, 0, none, 0, 0⟩), (kb, z.obj), (w.heap.size, Ze.obj)]) := X4.o.perm (by simp)
  go_wp2_with fail
  refine (HE.o _ _ X4.o.at_).mono ?_
  rintro e wv ⟨hst, hat, u, rfl, hv⟩
  have X5 := Za ((X4.o.step hst hat).alloc u.obj)
  have hnv := xB (X4.o.box (p := (nb, _)) (xM))
  replace HZz := Za ((HZz.o.stay hst (by omega)).below (Zl _ u.obj))
  have HZu : xQ (Yq (nb + 1) (wv.alloc u.obj) u (Zf E S4)) := (Yq.lower hv hnv).below (Zl _ _)
  have hsv := hst.size
  clear hst hat hv X4
  obtain ⟨R5, hR5⟩ := xE (Zf E S4)
  rw [← hR5] at X5 HZu
  have HR5 := Za hR5
  clear hR5
  go_wp2_with fail
  obtain ⟨mb, hkb⟩ := xE wv.heap.size
  rw [← hkb] at X5 hsv ⊢
  clear hkb
  generalize wv.alloc (.cells #[.int .i64 u.k, .string u.tx, .int .i64 u.N, .int .i64 u.li, .int .i64 u.co, .slice u.ta u.tl u.tc, .slice u.na u.nl u.nc, .slice u.ka u.kl u.kc] 27) = W5 at X5 HZu HZz ⊢
  have hnmb : nb < mb := by omega
  clear hnv hsv
  go_wp2_with fail
  refine (Xx pb tb cap d ts (Zd R5) [101, 108, 115, 101] _ X5.o.at_ OK.o).mono ?_
  rintro e w6 ⟨rfl, hst, hat⟩
  have X6 := Za (X5.o.step hst hat)
  replace HZz := Za (HZz.o.stay hst (by omega))
  replace HZu := Za (HZu.o.stay hst (by omega))
  clear hst hat X5
  obtain ⟨S6, hS6⟩ := xE (Zd (Zf (fun a => Zb ts a [101, 108, 115, 101]) (Zd R5)))
  rw [← hS6] at X6
  have HS6 := Za hS6
  clear hS6
  replace X6 : xQ (RX pb tb cap ts w w6 d S6 [(nb, NV.obj ⟨11, ⟨#[]⟩, 0, li, co, none, 0, 0, none, 0, 0, none, 0, 0⟩), (mb, u.obj), (kb, z.obj), (w.heap.size, Ze.obj)]) := X6.o.perm (by simp)
  go_wp2_with fail
  refine (HE.o _ _ X6.o.at_).mono ?_
  rintro e w9 ⟨hst, hat, v, rfl, hv⟩
  have X9 := Za (X6.o.step hst hat)
  have hnv := xB (X6.o.box (p := (nb, _)) (xM))
  replace HZz := Za (HZz.o.stay hst (by omega))
  replace HZu := Za (HZu.o.stay hst (by omega))
  have HZv : xQ (Yq (nb + 1) w9 v (Zf E S6)) := Yq.lower hv hnv
  clear hst hat hv X6 hnv
  obtain ⟨R7, hR7⟩ := xE (Zf E S6)
  rw [← hR7] at X9 HZv
  have HR7 := Za hR7
  clear hR7
  have HSt : xQ (Zd R = Zd R7) := by
   show _ = _
   rw [HRt.o, HR7.o, HS6.o, HR5.o, HS4.o, HR2.o]
   unfold L0
   refine Ut _ _ (fun S => Zd (Zf E (Zd (Zf (fun a => Zb ts a [101, 108, 115, 101]) (Zd (Zf E (Zd (Zf (fun a => Zb ts a [116, 104, 101, 110]) S)))))))) (fun _ => rfl) fun c b _ => ?_
   refine Ut _ _ (fun S => Zd (Zf E (Zd (Zf (fun a => Zb ts a [101, 108, 115, 101]) (Zd (Zf E S)))))) (fun _ => rfl) fun _ b _ => ?_
   refine Ut _ _ (fun S => Zd (Zf E (Zd (Zf (fun a => Zb ts a [101, 108, 115, 101]) S)))) (fun _ => rfl) fun x b _ => ?_
   refine Ut _ _ (fun S => Zd (Zf E S)) (fun _ => rfl) fun _ b _ => ?_
   exact Lz (E b) fun r => Zi 11 [] 0 (Zx ts a) (Zz ts a) [] [] [c, x, r]
  have HVl : xQ (∀ D c, R = .inl (D, c) → ∃ t b2 x b5 y b7, R2 = .inl (t, b2) ∧ R5 = .inl (x, b5) ∧ R7 = .inl (y, b7) ∧ D = Zi 11 [] 0 (Zx ts a) (Zz ts a) [] [] [t, x, y]) := fun D c e => by
   rw [HRt.o] at e
   unfold L0 at e
   obtain ⟨t, b2, h2, e⟩ := Vd e
   obtain ⟨_, b4, h4, e⟩ := Vd e
   obtain ⟨x, b5, h5, e⟩ := Vd e
   obtain ⟨_, b6, h6, e⟩ := Vd e
   obtain ⟨y, b7, h7, e⟩ := Vd e
   injection e with e
   injection e with e _
   have g2 : R2 = .inl (t, b2) := by rw [HR2.o]; exact h2
   have g4 : S4 = .inl b4 := by rw [HS4.o, g2]; show Zd (Zb ts b2 [116, 104, 101, 110]) = _; rw [h4]; rfl
   have g5 : R5 = .inl (x, b5) := by rw [HR5.o, g4]; exact h5
   have g6 : S6 = .inl b6 := by rw [HS6.o, g5]; show Zd (Zb ts b5 [101, 108, 115, 101]) = _; rw [h6]; rfl
   exact ⟨t, b2, x, b5, y, b7, g2, g5, by rw [HR7.o, g6]; exact h7, e.symm⟩
  obtain ⟨⟨z0, z1, z2, z3, z4, z5, z6, z7⟩, _, hkl⟩ := Zh (X9.o.box (p := (kb, z.obj)) (by simp))
  obtain ⟨⟨u0, u1, u2, u3, u4, u5, u6, u7⟩, _, hml⟩ := Zh (X9.o.box (p := (mb, u.obj)) (by simp))
  have hne9 : ¬ kb = nb := by omega
  have hne8 : ¬ mb = nb := by omega
  have hne7 : ¬ kb = w.heap.size := by omega
  have hne6 : ¬ mb = w.heap.size := by omega
  obtain ⟨⟨n0, n1, n2, n3, n4, n5, n6, n7⟩, ⟨g0, g1, g2, g3, g4, g5, g6, g7⟩, hnl⟩ := Zh (X9.o.box (p := (nb, NV.obj ⟨11, ⟨#[]⟩, 0, li, co, none, 0, 0, none, 0, 0, none, 0, 0⟩)) (by simp))
  obtain ⟨⟨r0, r1, r2, r3, r4, r5, r6, r7⟩, ⟨f0, f1, f2, f3, f4, f5, f6, f7⟩, hrl⟩ := Zh (X9.o.box (p := (w.heap.size, Ze.obj)) (by simp))
  have hne1 : ¬ nb = w.heap.size := by omega
  have hne2 : ¬ w.heap.size = nb := by omega
  go_wp2_with fail
  obtain ⟨Wf, hWf⟩ := xE (((((((((((w9.setCell ⟨nb, 7, none⟩ (.slice (some ⟨w9.heap.size + 1, 0, none⟩) 3 3)).setCell ⟨w.heap.size, 0, none⟩ (.int .i64 11)).setCell ⟨w.heap.size, 1, none⟩ (.string ⟨#[]⟩)).setCell ⟨w.heap.size, 2, none⟩ (.int .i64 0)).setCell ⟨w.heap.size, 3, none⟩ (.int .i64 li)).setCell ⟨w.heap.size, 4, none⟩ (.int .i64 co)).setCell ⟨w.heap.size, 5, none⟩ (.slice none 0 0)).setCell ⟨w.heap.size, 6, none⟩ (.slice none 0 0)).setCell ⟨w.heap.size, 7, none⟩ (.slice (some ⟨w9.heap.size + 1, 0, none⟩) 3 3)).alloc (.cells #[.int .i64 v.k, .string v.tx, .int .i64 v.N, .int .i64 v.li, .int .i64 v.co, .slice v.ta v.tl v.tc, .slice v.na v.nl v.nc, .slice v.ka v.kl v.kc] 27)).alloc (.cells #[.int .i64 z.k, .string z.tx, .int .i64 z.N, .int .i64 z.li, .int .i64 z.co, .slice z.ta z.tl z.tc, .slice z.na z.nl z.nc, .slice z.ka z.kl z.kc, .int .i64 u.k, .string u.tx, .int .i64 u.N, .int .i64 u.li, .int .i64 u.co, .slice u.ta u.tl u.tc, .slice u.na u.nl u.nc, .slice u.ka u.kl u.kc, .int .i64 v.k, .string v.tx, .int .i64 v.N, .int .i64 v.li, .int .i64 v.co, .slice v.ta v.tl v.tc, .slice v.na v.nl v.nc, .slice v.ka v.kl v.kc] 27))
  rw [← hWf]
  obtain ⟨HXF, zhp, hsF⟩ : Left pb tb cap ts w d (Zd R7) w.heap.size nb w9 Wf ⟨11, ⟨#[]⟩, 0, li, co, none, 0, 0, none, 0, 0, (some ⟨w9.heap.size + 1, 0, none⟩), 3, 3⟩ 2 := by rw [hWf]; exact Tp (Tp (Us (rb := w.heap.size) X9.o (by simp) (by omega) (by omega) 7 (.slice (some ⟨w9.heap.size + 1, 0, none⟩) 3 3) ⟨11, ⟨#[]⟩, 0, li, co, none, 0, 0, none, 0, 0, (some ⟨w9.heap.size + 1, 0, none⟩), 3, 3⟩) (v.obj)) (.cells #[.int .i64 z.k, .string z.tx, .int .i64 z.N, .int .i64 z.li, .int .i64 z.co, .slice z.ta z.tl z.tc, .slice z.na z.nl z.nc, .slice z.ka z.kl z.kc, .int .i64 u.k, .string u.tx, .int .i64 u.N, .int .i64 u.li, .int .i64 u.co, .slice u.ta u.tl u.tc, .slice u.na u.nl u.nc, .slice u.ka u.kl u.kc, .int .i64 v.k, .string v.tx, .int .i64 v.N, .int .i64 v.li, .int .i64 v.co, .slice v.ta v.tl v.tc, .slice v.na v.nl v.nc, .slice v.ka v.kl v.kc] 27)
  have hrow : Wf.heap[w9.heap.size + 1]? = some (.cells #[.int .i64 z.k, .string z.tx, .int .i64 z.N, .int .i64 z.li, .int .i64 z.co, .slice z.ta z.tl z.tc, .slice z.na z.nl z.nc, .slice z.ka z.kl z.kc, .int .i64 u.k, .string u.tx, .int .i64 u.N, .int .i64 u.li, .int .i64 u.co, .slice u.ta u.tl u.tc, .slice u.na u.nl u.nc, .slice u.ka u.kl u.kc, .int .i64 v.k, .string v.tx, .int .i64 v.N, .int .i64 v.li, .int .i64 v.co, .slice v.ta v.tl v.tc, .slice v.na v.nl v.nc, .slice v.ka v.kl v.kc] 27) := by rw [hWf]; exact M8 (Tp (Us (rb := w.heap.size) X9.o (by simp) (by omega) (by omega) 7 (.slice (some ⟨w9.heap.size + 1, 0, none⟩) 3 3) ⟨11, ⟨#[]⟩, 0, li, co, none, 0, 0, none, 0, 0, (some ⟨w9.heap.size + 1, 0, none⟩), 3, 3⟩) (v.obj)) (.cells #[.int .i64 z.k, .string z.tx, .int .i64 z.N, .int .i64 z.li, .int .i64 z.co, .slice z.ta z.tl z.tc, .slice z.na z.nl z.nc, .slice z.ka z.kl z.kc, .int .i64 u.k, .string u.tx, .int .i64 u.N, .int .i64 u.li, .int .i64 u.co, .slice u.ta u.tl u.tc, .slice u.na u.nl u.nc, .slice u.ka u.kl u.kc, .int .i64 v.k, .string v.tx, .int .i64 v.N, .int .i64 v.li, .int .i64 v.co, .slice v.ta v.tl v.tc, .slice v.na v.nl v.nc, .slice v.ka v.kl v.kc] 27) rfl
  clear hWf
  replace HXF := Za HXF
  refine Vh rfl rfl (HXF.o.box xM) rfl ⟨HXF.o.st, ?_, ⟨11, ⟨#[]⟩, 0, li, co, none, 0, 0, none, 0, 0, (some ⟨w9.heap.size + 1, 0, none⟩), 3, 3⟩, rfl, fun D c e => ?_⟩
  ·rw [HSt.o]; exact HXF.o.at_
  ·obtain ⟨t, b2, x, b5, y, b7, h2, h5, h7, hD⟩ := HVl.o D c e
   have hz : Zv (nb + 1) Wf z t := (HZz.o t b2 h2).keep (by omega) fun c h6 h7 => zhp c (by omega) (by omega) h7
   have hu : Zv (nb + 1) Wf u x := (HZu.o x b5 h5).keep (by omega) fun c h6 h7 => zhp c (by omega) (by omega) h7
   have hv : Zv (nb + 1) Wf v y := (HZv.o y b7 h7).keep (by omega) fun c h6 h7 => zhp c (by omega) (by omega) h7
   have := (A4 (kb := w9.heap.size + 1) hz hu hv hrow (by omega) ⟨11, ⟨#[]⟩, 0, li, co, none, 0, 0, none, 0, 0, (some ⟨w9.heap.size + 1, 0, none⟩), 3, 3⟩ ⟨rfl, rfl⟩ rfl rfl).lower (show w.heap.size ≤ nb + 1 by omega)
   rw [hD, ← HLc.o.1, ← HLc.o.2]
   exact this
 | false =>
 rw [hs, if_neg (by simp)] at X
 have HN2 := Za hs
 clear hs
 obtain ⟨W11, hW11⟩ := xE wt
 subst hW11
 have X11 := X
 clear X
 go_wp2_with fail
 refine (Y5 pb tb cap d ts S [102, 110] _ X11.o.at_ OK.o).mono ?_
 rintro e wt ⟨rfl, hst, hat⟩
 have X := Za (X11.o.step hst hat)
 clear hst hat X11
 cases hs : Yd ts S [102, 110] with
 | true =>
  rw [hs, if_pos rfl] at X
  obtain ⟨a, rfl⟩ : ∃ a, S = .inl a := by cases S with
   | inl a => exact ⟨a, rfl⟩
   | inr p => cases hs
  obtain ⟨hl, hc⟩ := HLC.o a rfl
  have HLc := Za (And.intro hl hc)
  replace X : xQ (RX pb tb cap ts w wt d (.inl (a + 1)) [(nb, (Zu 5 li co).obj), (w.heap.size, Ze.obj)]) := X
  clear hl hc HLC
  have HRt : xQ (R = K0 ts K E a) := by
   rw [HR.o]
   show Vc ts K E U f a = _
   rw [L8, if_neg (by rw [show Zc ts a [108, 101, 116] = false from HN1.o]; simp)]
   unfold ex2
   rw [if_neg (by rw [show Zc ts a [105, 102] = false from HN2.o]; simp)]
   exact if_pos hs
  clear hs HR HN1 HN2
  obtain ⟨⟨n0, n1, n2, n3, n4, n5, n6, n7⟩, ⟨g0, g1, g2, g3, g4, g5, g6, g7⟩, hnl⟩ := Zh (X.o.box (p := (nb, (Zu 5 li co).obj)) (by simp))
  have X2 : xQ (RX pb tb cap ts w (wt.setCell ⟨nb, 0, none⟩ (.int .i64 6)) d (.inl (a + 1)) [(nb, NV.obj ⟨6, ⟨#[]⟩, 0, li, co, none, 0, 0, none, 0, 0, none, 0, 0⟩), (w.heap.size, Ze.obj)]) := X.o.setB (by simp; omega) 0 (.int .i64 6)
  clear X
  go_wp2_with fail
  refine (zba pb tb cap d ts OK.o K HK.o (.inl (a + 1)) _ X2.o.at_).mono ?_
  rintro e w3 ⟨hst, hat, s, v0, cs, acc, rfl, zhx, hac1, hac2, hval⟩
  have hnw := xB (X2.o.box (p := (nb, NV.obj ⟨6, ⟨#[]⟩, 0, li, co, none, 0, 0, none, 0, 0, none, 0, 0⟩)) (by simp))
  have X3 := Za (X2.o.step hst hat)
  have HRW := Za (zhx.lowerB (B' := nb + 1) hnw)
  have HVal := Za hval
  obtain ⟨av, ac, rfl⟩ := Vb zhx.ow
  clear hst hat X2 zhx hval n0 n1 n2 n3 n4 n5 n6 n7 g0 g1 g2 g3 g4 g5 g6 g7 hnl
  obtain ⟨R2, hR2⟩ := xE (Zf (U6 ts K) (.inl (a + 1)))
  rw [← hR2] at X3 HVal
  have HR2 := Za hR2
  clear hR2
  obtain ⟨⟨n0, n1, n2, n3, n4, n5, n6, n7⟩, ⟨g0, g1, g2, g3, g4, g5, g6, g7⟩, hnl⟩ := Zh (X3.o.box (p := (nb, NV.obj ⟨6, ⟨#[]⟩, 0, li, co, none, 0, 0, none, 0, 0, none, 0, 0⟩)) (by simp))
  have X5 : xQ (RX pb tb cap ts w ((w3.setCell ⟨nb, 1, none⟩ (.string ⟨s.toArray⟩)).setCell ⟨nb, 5, none⟩ (.slice av acc.length ac)) d (Zd R2) [(nb, NV.obj ⟨6, ⟨s.toArray⟩, 0, li, co, av, acc.length, ac, none, 0, 0, none, 0, 0⟩), (w.heap.size, Ze.obj)]) := (X3.o.setB (by simp; omega) 1 (.string ⟨s.toArray⟩)).setB (by simp; omega) 5 (.slice av acc.length ac)
  replace HRW := Za ((HRW.o.stay (Uf w3 nb 1 (.string ⟨s.toArray⟩)) (xU _)).stay (Uf _ nb 5 (.slice av acc.length ac)) (xU _))
  go_wp2_with fail
  refine (Xx pb tb cap d ts (Zd R2) [61, 62] _ X5.o.at_ OK.o).mono ?_
  rintro e w5 ⟨rfl, hst, hat⟩
  have X6 := Za (X5.o.step hst hat)
  replace HRW := Za (HRW.o.stay hst (by omega))
  clear hst hat X3 X5 n0 n1 n2 n3 n4 n5 n6 n7 g0 g1 g2 g3 g4 g5 g6 g7 hnl
  obtain ⟨S6, hS6⟩ := xE (Zd (Zf (fun a => Zb ts a [61, 62]) (Zd R2)))
  rw [← hS6] at X6
  have HS6 := Za hS6
  clear hS6
  go_wp2_with fail
  refine (HE.o _ _ X6.o.at_).mono ?_
  rintro e w9 ⟨hst, hat, z, rfl, hv⟩
  have X9 := Za (X6.o.step hst hat)
  have hnv := xB (X6.o.box (p := (nb, _)) (xM))
  replace HRW := Za (HRW.o.stay hst (by omega))
  have HZz : xQ (Yq (nb + 1) w9 z (Zf E S6)) := Yq.lower hv hnv
  clear hst hat hv X6 hnv
  obtain ⟨R7, hR7⟩ := xE (Zf E S6)
  rw [← hR7] at X9 HZz
  have HR7 := Za hR7
  clear hR7
  have HSt : xQ (Zd R = Zd R7) := by
   show _ = _
   rw [HRt.o, HR7.o, HS6.o, HR2.o]
   unfold K0
   refine Ut _ _ (fun S => Zd (Zf E (Zd (Zf (fun a => Zb ts a [61, 62]) S)))) (fun _ => rfl) fun hd b _ => ?_
   refine Ut _ _ (fun S => Zd (Zf E S)) (fun _ => rfl) fun _ b _ => ?_
   exact Lz (E b) fun r => Zi 6 hd.1 0 (Zx ts a) (Zz ts a) hd.2 [] [r]
  have HVl : xQ (∀ D c, R = .inl (D, c) → ∃ hd b2 y b7, R2 = .inl (hd, b2) ∧ R7 = .inl (y, b7) ∧ D = Zi 6 hd.1 0 (Zx ts a) (Zz ts a) hd.2 [] [y]) := fun D c e => by
   rw [HRt.o] at e
   unfold K0 at e
   obtain ⟨hd, b2, h2, e⟩ := Vd e
   obtain ⟨_, b6, h6, e⟩ := Vd e
   obtain ⟨y, b7, h7, e⟩ := Vd e
   injection e with e
   injection e with e _
   have g2 : R2 = .inl (hd, b2) := by rw [HR2.o]; exact h2
   have g6 : S6 = .inl b6 := by rw [HS6.o, g2]; show Zd (Zb ts b2 [61, 62]) = _; rw [h6]; rfl
   exact ⟨hd, b2, y, b7, g2, by rw [HR7.o, g6]; exact h7, e.symm⟩
  obtain ⟨⟨n0, n1, n2, n3, n4, n5, n6, n7⟩, ⟨g0, g1, g2, g3, g4, g5, g6, g7⟩, hnl⟩ := Zh (X9.o.box (p := (nb, NV.obj ⟨6, ⟨s.toArray⟩, 0, li, co, av, acc.length, ac, none, 0, 0, none, 0, 0⟩)) (by simp))
  obtain ⟨⟨r0, r1, r2, r3, r4, r5, r6, r7⟩, ⟨f0, f1, f2, f3, f4, f5, f6, f7⟩, hrl⟩ := Zh (X9.o.box (p := (w.heap.size, Ze.obj)) (by simp))
  have hne1 : ¬ nb = w.heap.size := by omega
  have hne2 : ¬ w.heap.size = nb := by omega
  go_wp2_with fail
  obtain ⟨Wf, hWf⟩ := xE (((((((((((w9.setCell ⟨nb, 7, none⟩ (.slice (some ⟨w9.heap.size + 1, 0, none⟩) 1 1)).setCell ⟨w.heap.size, 0, none⟩ (.int .i64 6)).setCell ⟨w.heap.size, 1, none⟩ (.string ⟨s.toArray⟩)).setCell ⟨w.heap.size, 2, none⟩ (.int .i64 0)).setCell ⟨w.heap.size, 3, none⟩ (.int .i64 li)).setCell ⟨w.heap.size, 4, none⟩ (.int .i64 co)).setCell ⟨w.heap.size, 5, none⟩ (.slice av acc.length ac)).setCell ⟨w.heap.size, 6, none⟩ (.slice none 0 0)).setCell ⟨w.heap.size, 7, none⟩ (.slice (some ⟨w9.heap.size + 1, 0, none⟩) 1 1)).alloc (.cells #[.int .i64 z.k, .string z.tx, .int .i64 z.N, .int .i64 z.li, .int .i64 z.co, .slice z.ta z.tl z.tc, .slice z.na z.nl z.nc, .slice z.ka z.kl z.kc] 27)).alloc (.cells #[.int .i64 z.k, .string z.tx, .int .i64 z.N, .int .i64 z.li, .int .i64 z.co, .slice z.ta z.tl z.tc, .slice z.na z.nl z.nc, .slice z.ka z.kl z.kc] 27))
  rw [← hWf]
  obtain ⟨HXF, zhp, hsF⟩ : Left pb tb cap ts w d (Zd R7) w.heap.size nb w9 Wf ⟨6, ⟨s.toArray⟩, 0, li, co, av, acc.length, ac, none, 0, 0, (some ⟨w9.heap.size + 1, 0, none⟩), 1, 1⟩ 2 := by rw [hWf]; exact Tp (Tp (Us (rb := w.heap.size) X9.o (by simp) (by omega) (by omega) 7 (.slice (some ⟨w9.heap.size + 1, 0, none⟩) 1 1) ⟨6, ⟨s.toArray⟩, 0, li, co, av, acc.length, ac, none, 0, 0, (some ⟨w9.heap.size + 1, 0, none⟩), 1, 1⟩) (z.obj)) (z.obj)
  have hrow : Wf.heap[w9.heap.size + 1]? = some (z.obj) := by rw [hWf]; exact M8 (Tp (Us (rb := w.heap.size) X9.o (by simp) (by omega) (by omega) 7 (.slice (some ⟨w9.heap.size + 1, 0, none⟩) 1 1) ⟨6, ⟨s.toArray⟩, 0, li, co, av, acc.length, ac, none, 0, 0, (some ⟨w9.heap.size + 1, 0, none⟩), 1, 1⟩) (z.obj)) (z.obj) rfl
  clear hWf
  replace HXF := Za HXF
  refine Vh rfl rfl (HXF.o.box xM) rfl ⟨HXF.o.st, ?_, ⟨6, ⟨s.toArray⟩, 0, li, co, av, acc.length, ac, none, 0, 0, (some ⟨w9.heap.size + 1, 0, none⟩), 1, 1⟩, rfl, fun D c e => ?_⟩
  ·rw [HSt.o]; exact HXF.o.at_
  ·obtain ⟨hd, b2, y, b7, h2, h7, hD⟩ := HVl.o D c e
   obtain ⟨hss, hacc⟩ := HVal.o hd b2 h2
   have hz : Zv (nb + 1) Wf z y := (HZz.o y b7 h7).keep (by omega) fun c h6 h7 => zhp c (by omega) (by omega) h7
   have hr := HRW.o
   rw [hacc] at hr
   obtain ⟨a2, cap2, m, ea, hcl, hk⟩ := Py (B1 hr)
   rw [List.length_map] at ea
   injection ea with ea _ _
   subst ea
   have hll : acc.length = hd.2.length := by rw [hacc, List.length_map]
   have hk2 : Xw Wf (nb + 1) m av hd.2 := Vv hk (by omega) fun c h6 h7 => zhp c (by omega) (by omega) h7
   have := (V2 (kb := w9.heap.size + 1) hz hrow (by omega) ⟨6, ⟨s.toArray⟩, 0, li, co, av, acc.length, ac, none, 0, 0, (some ⟨w9.heap.size + 1, 0, none⟩), 1, 1⟩ hd.2 [] ⟨rfl, rfl⟩ ⟨hll, by omega, m, hk2⟩ ⟨rfl, xZ _, .inl rfl⟩).lower (show w.heap.size ≤ nb + 1 by omega)
   rw [hD, ← hss, ← HLc.o.1, ← HLc.o.2]
   exact this
 | false =>
 rw [hs, if_neg (by simp)] at X
 have HN3 := Za hs
 clear hs
 obtain ⟨W12, hW12⟩ := xE wt
 subst hW12
 have X12 := X
 clear X
 have HRt : xQ (R = Zf (Mc ts K U f) S) := by
  rw [HR.o]
  cases S with
  | inr p => exact rfl
  | inl a =>
   show Vc ts K E U f a = _
   rw [L8, if_neg (by rw [show Zc ts a [108, 101, 116] = false from HN1.o]; simp)]
   unfold ex2
   rw [if_neg (by rw [show Zc ts a [105, 102] = false from HN2.o]; simp)]
   unfold ex3
   exact if_neg (by rw [show Zc ts a [102, 110] = false from HN3.o]; simp)
 have HC := Za (HO.o S _ X12.o.at_)
 rw [← HRt.o] at HC
 clear HN1 HN2 HN3 HR HRt
 go_wp2_with fail
 refine HC.o.mono ?_
 rintro e w9 ⟨hst, hat, z, rfl, hv⟩
 have X9 := Za (X12.o.step hst hat)
 have HZ9 := Za (hv.lower (xB (X12.o.box (p := (nb, (Zu 5 li co).obj)) (by simp))))
 clear hst hat hv X12 HC
 obtain ⟨⟨n0, n1, n2, n3, n4, n5, n6, n7⟩, ⟨g0, g1, g2, g3, g4, g5, g6, g7⟩, hnl⟩ := Zh (X9.o.box (p := (nb, (Zu 5 li co).obj)) (by simp))
 obtain ⟨⟨r0, r1, r2, r3, r4, r5, r6, r7⟩, ⟨f0, f1, f2, f3, f4, f5, f6, f7⟩, hrl⟩ := Zh (X9.o.box (p := (w.heap.size, Ze.obj)) (by simp))
 have hne1 : ¬ nb = w.heap.size := by omega
 have hne2 : ¬ w.heap.size = nb := by omega
 go_wp2_with fail
 obtain ⟨Wf, hWf⟩ := xE ((((((((w9.setCell ⟨w.heap.size, 0, none⟩ (.int .i64 z.k)).setCell ⟨w.heap.size, 1, none⟩ (.string z.tx)).setCell ⟨w.heap.size, 2, none⟩ (.int .i64 z.N)).setCell ⟨w.heap.size, 3, none⟩ (.int .i64 z.li)).setCell ⟨w.heap.size, 4, none⟩ (.int .i64 z.co)).setCell ⟨w.heap.size, 5, none⟩ (.slice z.ta z.tl z.tc)).setCell ⟨w.heap.size, 6, none⟩ (.slice z.na z.nl z.nc)).setCell ⟨w.heap.size, 7, none⟩ (.slice z.ka z.kl z.kc))
 rw [← hWf]
 obtain ⟨HXF, zhp, hsF⟩ : Left pb tb cap ts w d (Zd R) w.heap.size nb w9 Wf z 0 := by rw [hWf]; exact Mh (rb := w.heap.size) X9.o (by simp) nb z
 clear hWf
 replace HXF := Za HXF
 refine Vh rfl rfl (HXF.o.box xM) rfl ⟨HXF.o.st, ?_, z, rfl, fun D c e => ?_⟩
 ·exact HXF.o.at_
 ·exact ((HZ9.o D c e).keep (by omega) fun c h6 h7 => zhp c (by omega) (by omega) h7).lower (by omega)
end Go.Proofs.YtbnjllkkhhkkaaaGreatDoor
