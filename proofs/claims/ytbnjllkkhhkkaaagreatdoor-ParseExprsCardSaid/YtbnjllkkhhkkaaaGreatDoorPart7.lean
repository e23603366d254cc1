/- Part. -/
import Derived.Test.YtbnjllkkhhkkaaaGreatDoorPart6
set_option maxRecDepth 100000
set_option maxHeartbeats 4000000
namespace Go.Proofs.YtbnjllkkhhkkaaaGreatDoor
open Tryz
open Go.RowKit
attribute [local go_sem ↓] Go.wp_at_zero Go.wp_at_succ
abbrev Zk (t : Tok) : Obj := .cells #[.int .i64 t.kind, .string ⟨t.text.toArray⟩, .int .i64 t.line, .int .i64 t.col] 108
theorem Ky {ts : List Tok} {a : Nat} {s : List UInt8} (h : Zc ts a s = true) : (Zg ts a).text = s := by
 unfold Zc at h
 simp only [Bool.and_eq_true, beq_iff_eq] at h
 exact h.2
abbrev Yu (k : Int) (tx : List UInt8) (N : Int) (t : Tok) : NV := ⟨k, ⟨tx.toArray⟩, N, t.line, t.col, none, 0, 0, none, 0, 0, none, 0, 0⟩
theorem Mm (lo : Nat) (w : World) (k : Int) (tx : List UInt8) (N : Int) (t : Tok) : Zv lo w (Yu k tx N t) (Zi k tx N t.line t.col [] [] []) :=
 ⟨1, [], [], [], rfl, ⟨rfl, rfl, rfl⟩, ⟨xZ _, xZ _, xZ _⟩, .inl rfl, .inl rfl, .inl rfl⟩
theorem zeu (pb tb cap d : Nat) (ts : List Tok) (ok : Z0 ts) (a : Nat) (hs : Zc ts a [116, 114, 117, 101] = true) (w : World) (h : Ps w pb tb cap ts a d) :
  Calls prog 229 #[.pointer (some ⟨pb, 0, none⟩)] w (Zs pb tb cap ts d w Zo (.inl (Zi 2 [] 1 (Zg ts a).line (Zg ts a).col [] [] [], a + 1))) := by
 have H := Za h
 have OK := Za ok
 have hp := h.ltp
 have C0 := Za (Xa h Ze.obj)
 have HN := Za (Wz ok.ends h.lt hs)
 have htx : (Zg ts a).text = [116, 114, 117, 101] := Ky hs
 have HC := Za (V7 pb tb cap a d ts _ C0.o.ps HN.o ok.len)
 obtain ⟨t, ht⟩ := xE (Zg ts a)
 rw [← ht] at HC htx ⊢
 obtain ⟨kd, tx, tl, tc⟩ := t
 obtain rfl : tx = [116, 114, 117, 101] := htx
 clear hs ht
 obtain ⟨R, hR⟩ : ∃ R : Pr Ty, R = (.inl (Zi 2 [] 1 tl tc [] [] [], a + 1)) := ⟨_, rfl⟩
 rw [← hR]
 have HR0 := Za hR
 clear h ok hR
 go_enter func229, ntmps229
 go_wp2_with fail
 refine (HC.o).mono ?_
 rintro e w1 ⟨rfl, hst, hps⟩
 have C1 := Za (C0.o.step hst hps)
 have C2 := Za (C1.o.alloc (Zk ⟨kd, [116, 114, 117, 101], tl, tc⟩))
 clear hst hps
 go_wp2_with fail
 refine (Vu ⟨kd, [116, 114, 117, 101], tl, tc⟩ ⟨2, ⟨#[]⟩, 1, 0, 0, none, 0, 0, none, 0, 0, none, 0, 0⟩ _).mono ?_
 rintro e w2 ⟨rfl, hb⟩
 have C3 := Za (C2.o.below hb)
 clear hb
 obtain ⟨⟨r0, r1, r2, r3, r4, r5, r6, r7⟩, ⟨f0, f1, f2, f3, f4, f5, f6, f7⟩, hr1⟩ := Zh (x := Ze) (C3.o.b1)
 go_wp2_with fail
 rw [HR0.o]
 refine bodyPost_ret (results_cell_row rfl _ _ w.heap.size 27 _ (0, 0) _ rfl (Yj (x := Yu 2 [] 1 ⟨kd, [116, 114, 117, 101], tl, tc⟩) C3.o.b1) underlying27 rfl (by kernel_rfl)) rfl ⟨Yr C3.o.st hp (xR) (Yu 2 [] 1 ⟨kd, [116, 114, 117, 101], tl, tc⟩), Yv C3.o.ps hp (Yu 2 [] 1 ⟨kd, [116, 114, 117, 101], tl, tc⟩), _, rfl, Yu 2 [] 1 ⟨kd, [116, 114, 117, 101], tl, tc⟩, rfl, ?_⟩
 exact ((Mm _ _ 2 [] 1 ⟨kd, [116, 114, 117, 101], tl, tc⟩).put8 (xU _) (Yu 2 [] 1 ⟨kd, [116, 114, 117, 101], tl, tc⟩)).lower (Nat.le_succ _)
theorem Oo (pb tb cap d : Nat) (ts : List Tok) (ok : Z0 ts) (a : Nat) (hs : Zc ts a [102, 97, 108, 115, 101] = true) (w : World) (h : Ps w pb tb cap ts a d) :
  Calls prog 229 #[.pointer (some ⟨pb, 0, none⟩)] w (Zs pb tb cap ts d w Zo (.inl (Zi 2 [] 0 (Zg ts a).line (Zg ts a).col [] [] [], a + 1))) := by
 have H := Za h
 have OK := Za ok
 have hp := h.ltp
 have C0 := Za (Xa h Ze.obj)
 have HN := Za (Wz ok.ends h.lt hs)
 have htx : (Zg ts a).text = [102, 97, 108, 115, 101] := Ky hs
 have HC := Za (V7 pb tb cap a d ts _ C0.o.ps HN.o ok.len)
 obtain ⟨t, ht⟩ := xE (Zg ts a)
 rw [← ht] at HC htx ⊢
 obtain ⟨kd, tx, tl, tc⟩ := t
 obtain rfl : tx = [102, 97, 108, 115, 101] := htx
 clear hs ht
 obtain ⟨R, hR⟩ : ∃ R : Pr Ty, R = (.inl (Zi 2 [] 0 tl tc [] [] [], a + 1)) := ⟨_, rfl⟩
 rw [← hR]
 have HR0 := Za hR
 clear h ok hR
 go_enter func229, ntmps229
 go_wp2_with fail
 refine (HC.o).mono ?_
 rintro e w1 ⟨rfl, hst, hps⟩
 have C1 := Za (C0.o.step hst hps)
 have C2 := Za (C1.o.alloc (Zk ⟨kd, [102, 97, 108, 115, 101], tl, tc⟩))
 clear hst hps
 go_wp2_with fail
 refine (Vu ⟨kd, [102, 97, 108, 115, 101], tl, tc⟩ ⟨2, ⟨#[]⟩, 0, 0, 0, none, 0, 0, none, 0, 0, none, 0, 0⟩ _).mono ?_
 rintro e w2 ⟨rfl, hb⟩
 have C3 := Za (C2.o.below hb)
 clear hb
 obtain ⟨⟨r0, r1, r2, r3, r4, r5, r6, r7⟩, ⟨f0, f1, f2, f3, f4, f5, f6, f7⟩, hr1⟩ := Zh (x := Ze) (C3.o.b1)
 go_wp2_with fail
 rw [HR0.o]
 refine bodyPost_ret (results_cell_row rfl _ _ w.heap.size 27 _ (0, 0) _ rfl (Yj (x := Yu 2 [] 0 ⟨kd, [102, 97, 108, 115, 101], tl, tc⟩) C3.o.b1) underlying27 rfl (by kernel_rfl)) rfl ⟨Yr C3.o.st hp (xR) (Yu 2 [] 0 ⟨kd, [102, 97, 108, 115, 101], tl, tc⟩), Yv C3.o.ps hp (Yu 2 [] 0 ⟨kd, [102, 97, 108, 115, 101], tl, tc⟩), _, rfl, Yu 2 [] 0 ⟨kd, [102, 97, 108, 115, 101], tl, tc⟩, rfl, ?_⟩
 exact ((Mm _ _ 2 [] 0 ⟨kd, [102, 97, 108, 115, 101], tl, tc⟩).put8 (xU _) (Yu 2 [] 0 ⟨kd, [102, 97, 108, 115, 101], tl, tc⟩)).lower (Nat.le_succ _)
theorem Cp (pb tb cap d : Nat) (ts : List Tok) (ok : Z0 ts) (a : Nat) (hs : Zc ts a [110, 117, 108, 108] = true) (w : World) (h : Ps w pb tb cap ts a d) :
  Calls prog 229 #[.pointer (some ⟨pb, 0, none⟩)] w (Zs pb tb cap ts d w Zo (.inl (Zi 3 [] 0 (Zg ts a).line (Zg ts a).col [] [] [], a + 1))) := by
 have H := Za h
 have OK := Za ok
 have hp := h.ltp
 have C0 := Za (Xa h Ze.obj)
 have HN := Za (Wz ok.ends h.lt hs)
 have htx : (Zg ts a).text = [110, 117, 108, 108] := Ky hs
 have HC := Za (V7 pb tb cap a d ts _ C0.o.ps HN.o ok.len)
 obtain ⟨t, ht⟩ := xE (Zg ts a)
 rw [← ht] at HC htx ⊢
 obtain ⟨kd, tx, tl, tc⟩ := t
 obtain rfl : tx = [110, 117, 108, 108] := htx
 clear hs ht
 obtain ⟨R, hR⟩ : ∃ R : Pr Ty, R = (.inl (Zi 3 [] 0 tl tc [] [] [], a + 1)) := ⟨_, rfl⟩
 rw [← hR]
 have HR0 := Za hR
 clear h ok hR
 go_enter func229, ntmps229
 go_wp2_with fail
 refine (HC.o).mono ?_
 rintro e w1 ⟨rfl, hst, hps⟩
 have C1 := Za (C0.o.step hst hps)
 have C2 := Za (C1.o.alloc (Zk ⟨kd, [110, 117, 108, 108], tl, tc⟩))
 clear hst hps
 go_wp2_with fail
 refine (Vu ⟨kd, [110, 117, 108, 108], tl, tc⟩ ⟨3, ⟨#[]⟩, 0, 0, 0, none, 0, 0, none, 0, 0, none, 0, 0⟩ _).mono ?_
 rintro e w2 ⟨rfl, hb⟩
 have C3 := Za (C2.o.below hb)
 clear hb
 obtain ⟨⟨r0, r1, r2, r3, r4, r5, r6, r7⟩, ⟨f0, f1, f2, f3, f4, f5, f6, f7⟩, hr1⟩ := Zh (x := Ze) (C3.o.b1)
 go_wp2_with fail
 rw [HR0.o]
 refine bodyPost_ret (results_cell_row rfl _ _ w.heap.size 27 _ (0, 0) _ rfl (Yj (x := Yu 3 [] 0 ⟨kd, [110, 117, 108, 108], tl, tc⟩) C3.o.b1) underlying27 rfl (by kernel_rfl)) rfl ⟨Yr C3.o.st hp (xR) (Yu 3 [] 0 ⟨kd, [110, 117, 108, 108], tl, tc⟩), Yv C3.o.ps hp (Yu 3 [] 0 ⟨kd, [110, 117, 108, 108], tl, tc⟩), _, rfl, Yu 3 [] 0 ⟨kd, [110, 117, 108, 108], tl, tc⟩, rfl, ?_⟩
 exact ((Mm _ _ 3 [] 0 ⟨kd, [110, 117, 108, 108], tl, tc⟩).put8 (xU _) (Yu 3 [] 0 ⟨kd, [110, 117, 108, 108], tl, tc⟩)).lower (Nat.le_succ _)
abbrev Nn (t : Tok) (ta : Option Addr) (tl tc : Nat) : NV := ⟨19, ⟨t.text.toArray⟩, 0, t.line, t.col, ta, tl, tc, none, 0, 0, none, 0, 0⟩
theorem zdc {pb lo n : Nat} {w w' : World} {ka : Option Addr} {ks : List Ty} (h : Xw w lo n ka ks) (hs : Zj pb w w') (hp : pb < lo) : Xw w' lo n ka ks := Vv h hs.size fun b hb hl => hs.keep b (by omega) hl
def Mn (ts : List Tok) (K : Nat → Pr Ty) (f a : Nat) : Pr Ty := if Zc ts (a + 1) [91] then (Z1 ts K [44] f (a + 2)).go fun l b => (Zb ts b [93]).go fun _ b => .inl (Zi 19 (Zg ts a).text 0 (Zg ts a).line (Zg ts a).col l [] [], b) else .inl (Zi 4 (Zg ts a).text 0 (Zg ts a).line (Zg ts a).col [] [] [], a + 1)
theorem zgs (pb tb cap d : Nat) (ts : List Tok) (K : Nat → Pr Ty) (hK : Yg pb tb cap d ts Zt 30 K) (ok : Z0 ts) (a : Nat) (hn : a + 1 < ts.length) (w : World) (h : Ps w pb tb cap ts a d) :
  Calls prog 234 #[.pointer (some ⟨pb, 0, none⟩)] w (Zs pb tb cap ts d w Zo (Mn ts K ts.length a)) := by
 have H := Za h
 have OK := Za ok
 have hp := h.ltp
 have HK1 := Za hK
 have C0 := Za (Xa h Ze.obj)
 have HC := Za (V7 pb tb cap a d ts _ C0.o.ps hn ok.len)
 obtain ⟨f, hf⟩ : ∃ f, f + 1 = ts.length := ⟨ts.length - 1, by omega⟩
 obtain ⟨t, ht⟩ := xE (Zg ts a)
 unfold Mn
 rw [← ht] at HC ⊢
 clear ht
 obtain ⟨R, hR⟩ : ∃ R : Pr Ty, R = (if Zc ts (a + 1) [91] then (Z1 ts K [44] ts.length (a + 2)).go fun l b => (Zb ts b [93]).go fun _ b => .inl (Zi 19 t.text 0 t.line t.col l [] [], b) else .inl (Zi 4 t.text 0 t.line t.col [] [] [], a + 1)) := ⟨_, rfl⟩
 rw [← hR]
 have HR0 := Za hR
 clear h ok hR hK
 go_enter func234, ntmps234
 go_wp2_with fail
 refine (HC.o).mono ?_
 rintro e w1 ⟨rfl, hst, hps⟩
 have C1 := Za (C0.o.step hst hps)
 have C2 := Za (C1.o.alloc (Zk t))
 clear hst hps
 go_wp2_with fail
 have HT := Za (Xb pb tb cap (a + 1) d ts [91] _ C2.o.ps OK.o)
 cases hs : Zc ts (a + 1) [91] with
 | false =>
  rw [hs, if_neg (by simp)] at HT
  have HR1 : xQ (R = .inl (Zi 4 t.text 0 t.line t.col [] [] [], a + 1)) := by rw [HR0.o, if_neg (by simp [hs])]; exact rfl
  clear hs
  refine (HT.o).mono ?_
  rintro e w2 ⟨rfl, hst, hps⟩
  have C3 := Za (C2.o.step hst hps)
  clear hst hps
  obtain ⟨⟨k0, k1, k2, k3⟩, _, hk1⟩ := Zr C3.o.b0
  go_wp2_with fail
  refine (Vu t ⟨4, ⟨t.text.toArray⟩, 0, 0, 0, none, 0, 0, none, 0, 0, none, 0, 0⟩ _).mono ?_
  rintro e w3 ⟨rfl, hb⟩
  have C4 := Za (C3.o.below hb)
  clear hb
  obtain ⟨⟨r0, r1, r2, r3, r4, r5, r6, r7⟩, ⟨f0, f1, f2, f3, f4, f5, f6, f7⟩, hr1⟩ := Zh (x := Ze) (C4.o.b1)
  go_wp2_with fail
  rw [HR1.o]
  refine bodyPost_ret (results_cell_row rfl _ _ w.heap.size 27 _ (0, 0) _ rfl (Yj (x := Yu 4 t.text 0 t) C4.o.b1) underlying27 rfl (by kernel_rfl)) rfl ⟨Yr C4.o.st hp (xR) (Yu 4 t.text 0 t), Yv C4.o.ps hp (Yu 4 t.text 0 t), _, rfl, Yu 4 t.text 0 t, rfl, ?_⟩
  exact ((Mm _ _ 4 t.text 0 t).put8 (xU _) (Yu 4 t.text 0 t)).lower (Nat.le_succ _)
 | true =>
  rw [hs, if_pos rfl] at HT
  have HR1 : xQ (R = (Z1 ts K [44] (f + 1) (a + 2)).go fun l b => (Zb ts b [93]).go fun _ b => .inl (Zi 19 t.text 0 t.line t.col l [] [], b)) := by rw [HR0.o, if_pos hs, hf]; exact rfl
  clear hs
  refine (HT.o).mono ?_
  rintro e w2 ⟨rfl, hst, hps⟩
  have C3 := Za (C2.o.step hst hps)
  clear hst hps
  go_wp2_with fail
  refine (At pb tb cap d ts [44] _ K HK1.o f (a + 2) (by omega) _ C3.o.ps OK.o).mono ?_
  intro e w3 zhm
  rcases Zy zhm with ⟨er, li, co, hr, rfl, hst⟩ | ⟨l, b, v, hr, rfl, hst, hps, hv⟩
  ·have HE : xQ (R = .inr (er, li, co)) := by rw [HR1.o, hr]; exact rfl
   have HF := Za (C3.o.st.trans hst)
   clear hr hst zhm
   go_wp2_with fail
   exact ⟨rfl, HF.o, by rw [HE.o]⟩
  have HR2 : xQ (R = (Zb ts b [93]).go fun _ b => .inl (Zi 19 t.text 0 t.line t.col l [] [], b)) := by rw [HR1.o, hr]; exact rfl
  obtain ⟨cs, hv⟩ := hv
  obtain ⟨av, cv, m, rfl, hcv, hk⟩ := Py hv
  have HKi := Za (Ba hk C3.o.sz)
  have HLen : xQ (l.length ≤ 8193) := by have := Nb _ hr; have := OK.o.len; show _ ≤ _; omega
  have C4 := Za ((C3.o.step hst hps))
  clear hr hst hps zhm hv hk
  go_wp2_with fail
  refine (Y6 pb tb cap b d ts [93] _ C4.o.ps OK.o).mono ?_
  intro e w4 zhm
  rcases Zy zhm with ⟨er, li, co, hr, rfl, hst⟩ | ⟨u, b3, v, hr, rfl, hst, hps, hv⟩
  ·have HE : xQ (R = .inr (er, li, co)) := by rw [HR2.o, hr]; exact rfl
   have HF := Za (C4.o.st.trans hst)
   clear hr hst zhm
   go_wp2_with fail
   exact ⟨rfl, HF.o, by rw [HE.o]⟩
  have HR3 : xQ (R = .inl (Zi 19 t.text 0 t.line t.col l [] [], b3)) := by rw [HR2.o, hr]; exact rfl
  have HKj := Za (zdc HKi.o hst (by omega))
  have C5 := Za ((C4.o.step hst hps))
  clear hr hst hps zhm hv
  obtain ⟨⟨k0, k1, k2, k3⟩, _, hk1⟩ := Zr C5.o.b0
  go_wp2_with fail
  refine (Vu t ⟨19, ⟨t.text.toArray⟩, 0, 0, 0, av, l.length, cv, none, 0, 0, none, 0, 0⟩ _).mono ?_
  rintro e w6 ⟨rfl, hb⟩
  have C6 := Za (C5.o.below hb)
  have HN : xQ (Zv (w.heap.size + 1) w6 (Nn t av l.length cv) (Zi 19 t.text 0 t.line t.col l [] [])) := ⟨m + 1, l, [], [], rfl, ⟨rfl, rfl, rfl⟩, ⟨(by have := HLen.o; omega), xZ _, xZ _⟩, I8 HKj.o hb, .inl rfl, .inl rfl⟩
  clear hb
  obtain ⟨⟨r0, r1, r2, r3, r4, r5, r6, r7⟩, ⟨f0, f1, f2, f3, f4, f5, f6, f7⟩, hr1⟩ := Zh (x := Ze) (C6.o.b1)
  go_wp2_with fail
  rw [HR3.o]
  refine bodyPost_ret (results_cell_row rfl _ _ w.heap.size 27 _ (0, 0) _ rfl (Yj (x := Nn t av l.length cv) C6.o.b1) underlying27 rfl (by kernel_rfl)) rfl ⟨Yr C6.o.st hp (xR) (Nn t av l.length cv), Yv C6.o.ps hp (Nn t av l.length cv), _, rfl, Nn t av l.length cv, rfl, ?_⟩
  exact ((HN.o).put8 (xU _) (Nn t av l.length cv)).lower (Nat.le_succ _)
theorem Sm {fn : Func} {p u : Tmp} {ty : TypeId} (h : fn.results = #[.cell p ty, .tmp u]) (tmps : Array Value) {P : Program} {w : World} {g : Nat} {t : TypeId} {cs : Array Value} {fr : Nat × Nat} {fs : Array Field}
  (hp : tmps.getD p undef = .pointer (some ⟨g, 0, none⟩)) (hg : w.heap[g]? = some (.cells cs t fr))
  (hu : P.underlying ty = some (.struct fs)) (hi : (P.info? ty).map (·.size) = some cs.size) :
  (results fn tmps).run P w = .ok (.tuple #[.agg cs, tmps.getD u undef]) w := zem h tmps hp hg hu hi
def Y2 (ts : List Tok) (K : Nat → Pr Ty) (s : List UInt8) (a : Nat) : Pr (Ty × Bool) := if Zc ts a s then (K (a + 1)).go fun t b => .inl ((t, true), b) else .inl ((Z6 0 [] [] [], false), a)
def TyBE (lo : Nat) (w : World) (v : Value) (x : Ty × Bool) : Prop := ∃ u, v = .tuple #[u, .bool x.2] ∧ Zt lo w u x.1
theorem Nw (pb tb cap d : Nat) (ts : List Tok) (s : List UInt8) (K : Nat → Pr Ty) (hK : Yg pb tb cap d ts Zt 30 K) (ok : Z0 ts) (a : Nat) (w : World) (h : Ps w pb tb cap ts a d) :
  Calls prog 147 #[.pointer (some ⟨pb, 0, none⟩), .string ⟨s.toArray⟩] w (Zs pb tb cap ts d w TyBE (Y2 ts K s a)) := by
 have H := Za h
 have OK := Za ok
 have hp := h.ltp
 have HK1 := Za hK
 have C0 := Za (Xa h Yl)
 obtain ⟨R, hR⟩ : ∃ R : Pr (Ty × Bool), R = (Y2 ts K s a) := ⟨_, rfl⟩
 rw [← hR]
 have HR0 := Za hR
 clear h ok hR hK
 go_enter func147, ntmps147
 go_wp2_with fail
 have HT := Za (Xb pb tb cap a d ts s _ C0.o.ps OK.o)
 cases hs : Zc ts a s with
 | false =>
  rw [hs, if_neg (by simp)] at HT
  have HR1 : xQ (R = .inl ((Z6 0 [] [] [], false), a)) := by rw [HR0.o, Y2, if_neg (by simp [hs])]; exact rfl
  clear hs
  refine (HT.o).mono ?_
  rintro e w1 ⟨rfl, hst, hps⟩
  have C1 := Za (C0.o.step hst hps)
  clear hst hps
  obtain ⟨⟨r0, r1, r2, r3⟩, ⟨f0, f1, f2, f3⟩, hr1⟩ := Zr C1.o.b0
  go_wp2_with fail
  rw [HR1.o]
  refine bodyPost_ret (Sm rfl _ rfl (set4 C1.o.b0 _ _ _ _) underlying36 Pf) rfl ⟨Xs C1.o.st hp (xR) _ _ _ _, V6 C1.o.ps hp _ _ _ _, _, rfl, _, rfl, ?_⟩
  exact N6 _ _ 0 ⟨#[]⟩ (by decide) (by decide)
 | true =>
  rw [hs, if_pos rfl] at HT
  have HR1 : xQ (R = (K (a + 1)).go fun t b => .inl ((t, true), b)) := by rw [HR0.o, Y2, if_pos hs]; exact rfl
  clear hs
  refine (HT.o).mono ?_
  rintro e w1 ⟨rfl, hst, hps⟩
  have C1 := Za (C0.o.step hst hps)
  clear hst hps
  go_wp2_with fail
  refine (HK1.o.calls (a + 1) _ C1.o.ps).mono ?_
  intro e w2 zhm
  rcases Zy zhm with ⟨er, li, co, hr, rfl, hst⟩ | ⟨D, b, v, hr, rfl, hst, hps, hv⟩
  ·have HE : xQ (R = .inr (er, li, co)) := by rw [HR1.o, hr]; exact rfl
   have HF := Za (C1.o.st.trans hst)
   clear hr hst zhm
   go_wp2_with fail
   exact ⟨rfl, HF.o, by rw [HE.o]⟩
  have HR2 : xQ (R = .inl ((D, true), b)) := by rw [HR1.o, hr]; exact rfl
  obtain ⟨k1, nm1, na1, nl1, nc1, ka1, kl1, kc1, rfl⟩ := hv.cells
  have C2 := Za ((C1.o.step hst hps).addT hv C1.o.sz)
  clear hr hst hps zhm hv
  obtain ⟨⟨r0, r1, r2, r3⟩, ⟨f0, f1, f2, f3⟩, hr1⟩ := Zr C2.o.b0
  go_wp2_with fail
  rw [HR2.o]
  refine bodyPost_ret (Sm rfl _ rfl (set4 C2.o.b0 _ _ _ _) underlying36 Pf) rfl ⟨Xs C2.o.st hp (xR) _ _ _ _, V6 C2.o.ps hp _ _ _ _, _, rfl, _, rfl, ?_⟩
  exact (C2.o.t0.set4 (xU _) _ _ _ _).lower (Nat.le_succ _)
theorem zga {fn : Func} {p u : Tmp} {ty : TypeId} (h : fn.results = #[.tmp u, .cell p ty]) (tmps : Array Value) {P : Program} {w : World} {g : Nat} {t : TypeId} {cs : Array Value} {fr : Nat × Nat} {fs : Array Field}
  (hp : tmps.getD p undef = .pointer (some ⟨g, 0, none⟩)) (hg : w.heap[g]? = some (.cells cs t fr))
  (hu : P.underlying ty = some (.struct fs)) (hi : (P.info? ty).map (·.size) = some cs.size) :
  (results fn tmps).run P w = .ok (.tuple #[tmps.getD u undef, .agg cs]) w := by
 have hp' : tmps[p]?.getD undef = .pointer (some ⟨g, 0, none⟩) := by simpa using hp
 simp [results, h, hp', asAddr, run_loadVar_row w g t ty cs fr _ hg hu rfl hi]
def Ue (ts : List Tok) (K : Nat → Pr Ty) (a : Nat) : Pr (List UInt8 × Ty) := (Zb ts a [40]).go fun _ b => (Zm ts b).go fun s b => (Y2 ts K [58] b).go fun x b => (Zb ts b [41]).go fun _ b => .inl ((s, x.1), b)
def ParE (lo : Nat) (w : World) (v : Value) (x : List UInt8 × Ty) : Prop := ∃ u, v = .tuple #[.string ⟨x.1.toArray⟩, u] ∧ Zt lo w u x.2
theorem Hg (pb tb cap d : Nat) (ts : List Tok) (K : Nat → Pr Ty) (hK : Yg pb tb cap d ts Zt 30 K) (ok : Z0 ts) (a : Nat) (w : World) (h : Ps w pb tb cap ts a d) :
  Calls prog 146 #[.pointer (some ⟨pb, 0, none⟩)] w (Zs pb tb cap ts d w ParE (Ue ts K a)) := by
 have H := Za h
 have OK := Za ok
 have hp := h.ltp
 have HK1 := Za hK
 have C0 := Za (Xa h Yl)
 obtain ⟨R, hR⟩ : ∃ R : Pr (List UInt8 × Ty), R = (Ue ts K a) := ⟨_, rfl⟩
 rw [← hR]
 unfold Ue at hR
 have HR0 := Za hR
 clear h ok hR hK
 go_enter func146, ntmps146
 go_wp2_with fail
 refine (Y6 pb tb cap a d ts [40] _ C0.o.ps OK.o).mono ?_
 intro e w1 zhm
 rcases Zy zhm with ⟨er, li, co, hr, rfl, hst⟩ | ⟨u, b1, v, hr, rfl, hst, hps, hv⟩
 ·have HE : xQ (R = .inr (er, li, co)) := by rw [HR0.o, hr]; exact rfl
  have HF := Za (C0.o.st.trans hst)
  clear hr hst zhm
  go_wp2_with fail
  exact ⟨rfl, HF.o, by rw [HE.o]⟩
 have HR1 : xQ (R = (Zm ts b1).go fun s b => (Y2 ts K [58] b).go fun x b => (Zb ts b [41]).go fun _ b => .inl ((s, x.1), b)) := by rw [HR0.o, hr]; exact rfl
 have C1 := Za ((C0.o.step hst hps))
 clear hr hst hps zhm hv
 go_wp2_with fail
 refine (Ts pb tb cap b1 d ts _ C1.o.ps OK.o).mono ?_
 intro e w2 zhm
 rcases Zy zhm with ⟨er, li, co, hr, rfl, hst⟩ | ⟨s, b2, v, hr, rfl, hst, hps, hv⟩
 ·have HE : xQ (R = .inr (er, li, co)) := by rw [HR1.o, hr]; exact rfl
  have HF := Za (C1.o.st.trans hst)
  clear hr hst zhm
  go_wp2_with fail
  exact ⟨rfl, HF.o, by rw [HE.o]⟩
 have HR2 : xQ (R = (Y2 ts K [58] b2).go fun x b => (Zb ts b [41]).go fun _ b => .inl ((s, x.1), b)) := by rw [HR1.o, hr]; exact rfl
 subst hv
 have C2 := Za ((C1.o.step hst hps))
 clear hr hst hps zhm  
 go_wp2_with fail
 refine (Nw pb tb cap d ts [58] K HK1.o OK.o b2 _ C2.o.ps).mono ?_
 intro e w3 zhm
 rcases Zy zhm with ⟨er, li, co, hr, rfl, hst⟩ | ⟨x, b3, v, hr, rfl, hst, hps, hv⟩
 ·have HE : xQ (R = .inr (er, li, co)) := by rw [HR2.o, hr]; exact rfl
  have HF := Za (C2.o.st.trans hst)
  clear hr hst zhm
  go_wp2_with fail
  exact ⟨rfl, HF.o, by rw [HE.o]⟩
 have HR3 : xQ (R = (Zb ts b3 [41]).go fun _ b => .inl ((s, x.1), b)) := by rw [HR2.o, hr]; exact rfl
 obtain ⟨u3, rfl, hv⟩ := hv
 obtain ⟨k1, nm1, na1, nl1, nc1, ka1, kl1, kc1, rfl⟩ := hv.cells
 have C3 := Za ((C2.o.step hst hps).addT hv C2.o.sz)
 clear hr hst hps zhm hv
 go_wp2_with fail
 have C4 := Za (C3.o.alloc (Zq k1 nm1 na1 nl1 nc1 ka1 kl1 kc1))
 refine (Y6 pb tb cap b3 d ts [41] _ C4.o.ps OK.o).mono ?_
 intro e w4 zhm
 rcases Zy zhm with ⟨er, li, co, hr, rfl, hst⟩ | ⟨u4, b4, v4, hr, rfl, hst, hps, hv⟩
 ·have HE : xQ (R = .inr (er, li, co)) := by rw [HR3.o, hr]; exact rfl
  have HF := Za (C4.o.st.trans hst)
  clear hr hst zhm
  go_wp2_with fail
  exact ⟨rfl, HF.o, by rw [HE.o]⟩
 have HR4 : xQ (R = .inl ((s, x.1), b4)) := by rw [HR3.o, hr]; exact rfl
 have C5 := Za ((C4.o.step hst hps))
 clear hr hst hps zhm hv
 obtain ⟨⟨r0, r1, r2, r3⟩, ⟨f0, f1, f2, f3⟩, hr1⟩ := Zr C5.o.b1
 obtain ⟨⟨q0, q1, q2, q3⟩, _, hq1⟩ := Zr C5.o.b0
 have hne : ¬ w3.heap.size = w.heap.size := by have := C3.o.sz; omega
 go_wp2_with fail
 go_region
 all_goals
  go_wp2_with fail
  rw [HR4.o]
  refine bodyPost_ret (zga rfl _ rfl (set4 C5.o.b1 _ _ _ _) underlying36 Pf) rfl ⟨(Xs C5.o.st hp (xR) _ _ _ _).drew, (V6 C5.o.ps hp _ _ _ _).drew, _, rfl, _, rfl, ?_⟩
  exact (((C5.o.t0.set4 (xU _) _ _ _ _).lower (Nat.le_succ _)).keep (xR) fun _ _ _ => rfl)
theorem V2 {lo kb : Nat} {w : World} {x : NV} {D1 : Ty} (h1 : Zv lo w x D1) (hk : w.heap[kb]? = some x.obj) (hlo : lo ≤ kb)
  (z : NV) (tys : List Ty) (ns : List (List UInt8)) (hz : z.ka = some ⟨kb, 0, none⟩ ∧ z.kl = 1) (ht : z.tl = tys.length ∧ tys.length ≤ 100000 ∧ ∃ m, Xw w lo m z.ta tys) (hn : z.nl = ns.length ∧ ns.length ≤ 100000 ∧ Uc w lo z.na ns) :
  Zv lo w z (Zi z.k z.tx.data.toList z.N z.li z.co tys ns [D1]) := by
 obtain ⟨m1, h1⟩ := h1
 obtain ⟨t1, t2, m3, t3⟩ := ht
 refine ⟨max m1 m3 + 1, tys, ns, [D1], rfl, ⟨t1, hn.1, hz.2⟩, ⟨t2, hn.2.1, (by show 1 ≤ _; omega)⟩, Jz t3 (Nat.le_max_right _ _), hn.2.2, .inr ⟨kb, 0, hz.1, hlo, ⟨_, _, hk⟩, fun i hi => ?_⟩⟩
 match i, hi with
 | 0, _ => exact ⟨x, ⟨by rw [cell_of_row _ _ _ _ _ _ hk]; rfl, by rw [cell_of_row _ _ _ _ _ _ hk]; rfl, by rw [cell_of_row _ _ _ _ _ _ hk]; rfl, by rw [cell_of_row _ _ _ _ _ _ hk]; rfl, by rw [cell_of_row _ _ _ _ _ _ hk]; rfl, by rw [cell_of_row _ _ _ _ _ _ hk]; rfl, by rw [cell_of_row _ _ _ _ _ _ hk]; rfl, by rw [cell_of_row _ _ _ _ _ _ hk]; rfl⟩, Qh h1 (Nat.le_max_left _ _)⟩
abbrev Z2 (w : World) (b : Nat) (v0 v1 v2 v3 v4 v5 v6 v7 : Value) : World := (((((((w.setCell ⟨b, 0, none⟩ v0).setCell ⟨b, 1, none⟩ v1).setCell ⟨b, 2, none⟩ v2).setCell ⟨b, 3, none⟩ v3).setCell ⟨b, 4, none⟩ v4).setCell ⟨b, 5, none⟩ v5).setCell ⟨b, 6, none⟩ v6).setCell ⟨b, 7, none⟩ v7
theorem Vo {w : World} {b i : Nat} (hi : i ≠ b) (v0 v1 v2 v3 v4 v5 v6 v7 : Value) : (Z2 w b v0 v1 v2 v3 v4 v5 v6 v7).heap[i]? = w.heap[i]? := by
 unfold Z2
 rw [xH hi, xH hi, xH hi, xH hi, xH hi, xH hi, xH hi, xH hi]
abbrev T1 (k : Int) (t : Tok) (kb : Nat) : NV := ⟨k, ⟨#[]⟩, 0, t.line, t.col, none, 0, 0, none, 0, 0, some ⟨kb, 0, none⟩, 1, 1⟩
theorem zct (pb tb cap d : Nat) (ts : List Tok) (U : Nat → Pr Ty) (hU : Yg pb tb cap d ts Zo 224 U) (ok : Z0 ts) (a : Nat) (hs : Zc ts a [45] = true) (w : World) (h : Ps w pb tb cap ts a d) :
  Calls prog 225 #[.pointer (some ⟨pb, 0, none⟩)] w (Zs pb tb cap ts d w Zo ((U (a + 1)).go fun x b => .inl (Zi 16 [] 0 (Zg ts a).line (Zg ts a).col [] [] [x], b))) := by
 have H := Za h
 have OK := Za ok
 have hp := h.ltp
 have HU1 := Za hU
 have C0 := Za (Xa h Ze.obj)
 have HN := Za (Wz ok.ends h.lt hs)
 have HS := Za hs
 have HPa := Za (fun w h => V7 pb tb cap a d ts w h HN.o ok.len)
 obtain ⟨t, ht⟩ := xE (Zg ts a)
 rw [← ht] at HPa ⊢
 clear ht hs
 obtain ⟨R, hR⟩ : ∃ R : Pr Ty, R = ((U (a + 1)).go fun x b => .inl (Zi 16 [] 0 t.line t.col [] [] [x], b)) := ⟨_, rfl⟩
 rw [← hR]
 have HR0 := Za hR
 clear h ok hR hU
 go_enter func225, ntmps225
 go_wp2_with fail
 refine (Y3 pb tb cap a _ 1 ts [[45]] _ _ C0.o.ps.rd (by simp) (by simp)).mono ?_
 rw [Xi, HS.o]
 rintro e w1 ⟨rfl, hb⟩
 have C1 := Za (C0.o.below hb)
 clear hb
 go_wp2_with fail
 refine (HPa.o _ C1.o.ps).mono ?_
 rintro e w2 ⟨rfl, hst, hps⟩
 have C2 := Za (C1.o.step hst hps)
 have C3 := Za (C2.o.alloc (Zk t))
 clear hst hps
 obtain ⟨⟨k0, k1, k2, k3⟩, _, hk1⟩ := Zr C3.o.b0
 go_wp2_with fail
 have hne0 : w2.heap.size ≠ w.heap.size := by have := C2.o.sz; omega
 have hS0 : (((w2.alloc (Zk t)).drew).cell? ⟨w2.heap.size, 0, none⟩ = some (.int .i64 t.kind) ∧ ((w2.alloc (Zk t)).drew).cell? ⟨w2.heap.size, 1, none⟩ = some (.string ⟨t.text.toArray⟩) ∧ ((w2.alloc (Zk t)).drew).cell? ⟨w2.heap.size, 2, none⟩ = some (.int .i64 t.line) ∧ ((w2.alloc (Zk t)).drew).cell? ⟨w2.heap.size, 3, none⟩ = some (.int .i64 t.col)) := (Z7 (C3.o.drew.b0))
 have HC : xQ (Calls prog 224 #[.pointer (some ⟨pb, 0, none⟩)] (w2.alloc (Zk t)).drew fun e w9 => (∃ chain, e = .panicked chain ∧ Zs pb tb cap ts d w Zo R e w9) ∨ ∃ (y : NV) (D : Ty) (b2 : Nat), e = .returned (y.val) ∧ ((w9.cell? ⟨w2.heap.size, 0, none⟩ = some (.int .i64 t.kind) ∧ w9.cell? ⟨w2.heap.size, 1, none⟩ = some (.string ⟨t.text.toArray⟩) ∧ w9.cell? ⟨w2.heap.size, 2, none⟩ = some (.int .i64 t.line) ∧ w9.cell? ⟨w2.heap.size, 3, none⟩ = some (.int .i64 t.col))) ∧ xQ (R = .inl (Zi 16 [] 0 t.line t.col [] [] [D], b2) ∧ Z5 pb tb cap d ts w w9 b2 [(w2.heap.size, Zk t), (w.heap.size, Ze.obj)] [(y, D)] [])) := by
  refine (HU1.o.calls (a + 1) _ C3.o.drew.ps).mono ?_
  intro e w9 zhm
  rcases Zy zhm with ⟨er, li, co, hr, rfl, hst⟩ | ⟨D, b2, v, hr, rfl, hst, hps, hv⟩
  ·exact .inl ⟨_, rfl, C3.o.drew.st.trans hst, by rw [HR0.o, hr]; rfl⟩
  obtain ⟨y, rfl, hv⟩ := hv
  have CN := (C3.o.drew.step hst hps).addN hv C3.o.drew.sz
  exact .inr ⟨y, D, b2, rfl, (Z7 (CN.b0)), by rw [HR0.o, hr]; rfl, CN⟩
 go_wp2_with fail
 go_region_held (fun W => (W.cell? ⟨w2.heap.size, 0, none⟩ = some (.int .i64 t.kind) ∧ W.cell? ⟨w2.heap.size, 1, none⟩ = some (.string ⟨t.text.toArray⟩) ∧ W.cell? ⟨w2.heap.size, 2, none⟩ = some (.int .i64 t.line) ∧ W.cell? ⟨w2.heap.size, 3, none⟩ = some (.int .i64 t.col))) (first | with_reducible assumption | with_reducible exact HS3.o _ | with_reducible exact HS4.o _ _ _ _ _ _ _ _) (first
  | (go_at_call 224; refine HC.o.mono ?_; rintro e w9 (⟨ch, rfl, hf⟩ | ⟨y, D, b2, rfl, t5, HX⟩); exact ⟨rfl, hf⟩; have HS3 : xQ (∀ o, (((w9.alloc o)).cell? ⟨w2.heap.size, 0, none⟩ = some (.int .i64 t.kind) ∧ ((w9.alloc o)).cell? ⟨w2.heap.size, 1, none⟩ = some (.string ⟨t.text.toArray⟩) ∧ ((w9.alloc o)).cell? ⟨w2.heap.size, 2, none⟩ = some (.int .i64 t.line) ∧ ((w9.alloc o)).cell? ⟨w2.heap.size, 3, none⟩ = some (.int .i64 t.col))) := (fun o => (Z7 ((HX.o.2.alloc o).b1))))
  | (go_at_call 171; refine (Vu t ⟨16, ⟨#[]⟩, 0, 0, 0, none, 0, 0, none, 0, 0, some ⟨w9.heap.size, 0, none⟩, 1, 1⟩ _).mono ?_; rintro e w10 ⟨rfl, hb⟩; have HX2 := Za ((HX.o.2.alloc _).below hb); have t6 : (w10.cell? ⟨w2.heap.size, 0, none⟩ = some (.int .i64 t.kind) ∧ w10.cell? ⟨w2.heap.size, 1, none⟩ = some (.string ⟨t.text.toArray⟩) ∧ w10.cell? ⟨w2.heap.size, 2, none⟩ = some (.int .i64 t.line) ∧ w10.cell? ⟨w2.heap.size, 3, none⟩ = some (.int .i64 t.col)) := (Z7 (HX2.o.b1)); have HB8 := Za (Zh (x := Ze) (HX2.o.b2)); obtain ⟨⟨r0, r1, r2, r3, r4, r5, r6, r7⟩, ⟨f0, f1, f2, f3, f4, f5, f6, f7⟩, hr1⟩ := HB8.o; have HS4 : xQ (∀ v0 v1 v2 v3 v4 v5 v6 v7, (((Z2 w10 w.heap.size v0 v1 v2 v3 v4 v5 v6 v7)).cell? ⟨w2.heap.size, 0, none⟩ = some (.int .i64 t.kind) ∧ ((Z2 w10 w.heap.size v0 v1 v2 v3 v4 v5 v6 v7)).cell? ⟨w2.heap.size, 1, none⟩ = some (.string ⟨t.text.toArray⟩) ∧ ((Z2 w10 w.heap.size v0 v1 v2 v3 v4 v5 v6 v7)).cell? ⟨w2.heap.size, 2, none⟩ = some (.int .i64 t.line) ∧ ((Z2 w10 w.heap.size v0 v1 v2 v3 v4 v5 v6 v7)).cell? ⟨w2.heap.size, 3, none⟩ = some (.int .i64 t.col))) := (fun v0 v1 v2 v3 v4 v5 v6 v7 => (Z7 ((Vo hne0 v0 v1 v2 v3 v4 v5 v6 v7).trans (HX2.o.b1)))); clear hb))
 all_goals
  go_wp2_with fail
  rw [HX.o.1]
  refine bodyPost_ret (results_cell_row rfl _ _ w.heap.size 27 _ (0, 0) _ rfl (Yj (x := T1 16 t w9.heap.size) HX2.o.b2) underlying27 rfl (by kernel_rfl)) rfl ⟨Yr HX2.o.st hp (xR) (T1 16 t w9.heap.size), Yv HX2.o.ps hp (T1 16 t w9.heap.size), _, rfl, T1 16 t w9.heap.size, rfl, ?_⟩
  exact ((V2 HX2.o.n0 HX2.o.b0 (by have := HX.o.2.sz; omega) (T1 16 t w9.heap.size) [] [] ⟨rfl, rfl⟩ ⟨rfl, xZ _, 0, .inl rfl⟩ ⟨rfl, xZ _, .inl rfl⟩).put8 (xU _) (T1 16 t w9.heap.size)).lower (Nat.le_succ _)
theorem Cc (pb tb cap d : Nat) (ts : List Tok) (U : Nat → Pr Ty) (hU : Yg pb tb cap d ts Zo 224 U) (ok : Z0 ts) (a : Nat) (hs : Zc ts a [110, 111, 116] = true) (w : World) (h : Ps w pb tb cap ts a d) :
  Calls prog 225 #[.pointer (some ⟨pb, 0, none⟩)] w (Zs pb tb cap ts d w Zo ((U (a + 1)).go fun x b => .inl (Zi 15 [] 0 (Zg ts a).line (Zg ts a).col [] [] [x], b))) := by
 have H := Za h
 have OK := Za ok
 have hp := h.ltp
 have HU1 := Za hU
 have C0 := Za (Xa h Ze.obj)
 have HN := Za (Wz ok.ends h.lt hs)
 have HS0 := Za (Tf hs (show ([110, 111, 116] : List UInt8) ≠ [45] by decide))
 have HS := Za hs
 have HPa := Za (fun w h => V7 pb tb cap a d ts w h HN.o ok.len)
 obtain ⟨t, ht⟩ := xE (Zg ts a)
 rw [← ht] at HPa ⊢
 clear ht hs
 obtain ⟨R, hR⟩ : ∃ R : Pr Ty, R = ((U (a + 1)).go fun x b => .inl (Zi 15 [] 0 t.line t.col [] [] [x], b)) := ⟨_, rfl⟩
 rw [← hR]
 have HR0 := Za hR
 clear h ok hR hU
 go_enter func225, ntmps225
 go_wp2_with fail
 refine (Y3 pb tb cap a _ 1 ts [[45]] _ _ C0.o.ps.rd (by simp) (by simp)).mono ?_
 rw [Xi, HS0.o]
 rintro e w1 ⟨rfl, hb⟩
 have C1 := Za (C0.o.below hb)
 clear hb
 go_wp2_with fail
 refine (Y3 pb tb cap a _ 1 ts [[110, 111, 116]] _ _ C1.o.ps.rd (by simp) (by simp)).mono ?_
 rw [Xi, HS.o]
 rintro e w2 ⟨rfl, hb⟩
 have C2 := Za (C1.o.below hb)
 clear hb
 go_wp2_with fail
 refine (HPa.o _ C2.o.ps).mono ?_
 rintro e w3 ⟨rfl, hst, hps⟩
 have C3 := Za (C2.o.step hst hps)
 have C4 := Za (C3.o.alloc (Zk t))
 clear hst hps
 obtain ⟨⟨k0, k1, k2, k3⟩, _, hk1⟩ := Zr C4.o.b0
 go_wp2_with fail
 have hne0 : w3.heap.size ≠ w.heap.size := by have := C3.o.sz; omega
 have hS0 : (((w3.alloc (Zk t)).drew).cell? ⟨w3.heap.size, 0, none⟩ = some (.int .i64 t.kind) ∧ ((w3.alloc (Zk t)).drew).cell? ⟨w3.heap.size, 1, none⟩ = some (.string ⟨t.text.toArray⟩) ∧ ((w3.alloc (Zk t)).drew).cell? ⟨w3.heap.size, 2, none⟩ = some (.int .i64 t.line) ∧ ((w3.alloc (Zk t)).drew).cell? ⟨w3.heap.size, 3, none⟩ = some (.int .i64 t.col)) := (Z7 (C4.o.drew.b0))
 have HC : xQ (Calls prog 224 #[.pointer (some ⟨pb, 0, none⟩)] (w3.alloc (Zk t)).drew fun e w9 => (∃ chain, e = .panicked chain ∧ Zs pb tb cap ts d w Zo R e w9) ∨ ∃ (y : NV) (D : Ty) (b2 : Nat), e = .returned (y.val) ∧ ((w9.cell? ⟨w3.heap.size, 0, none⟩ = some (.int .i64 t.kind) ∧ w9.cell? ⟨w3.heap.size, 1, none⟩ = some (.string ⟨t.text.toArray⟩) ∧ w9.cell? ⟨w3.heap.size, 2, none⟩ = some (.int .i64 t.line) ∧ w9.cell? ⟨w3.heap.size, 3, none⟩ = some (.int .i64 t.col))) ∧ xQ (R = .inl (Zi 15 [] 0 t.line t.col [] [] [D], b2) ∧ Z5 pb tb cap d ts w w9 b2 [(w3.heap.size, Zk t), (w.heap.size, Ze.obj)] [(y, D)] [])) := by
  refine (HU1.o.calls (a + 1) _ C4.o.drew.ps).mono ?_
  intro e w9 zhm
  rcases Zy zhm with ⟨er, li, co, hr, rfl, hst⟩ | ⟨D, b2, v, hr, rfl, hst, hps, hv⟩
  ·exact .inl ⟨_, rfl, C4.o.drew.st.trans hst, by rw [HR0.o, hr]; rfl⟩
  obtain ⟨y, rfl, hv⟩ := hv
  have CN := (C4.o.drew.step hst hps).addN hv C4.o.drew.sz
  exact .inr ⟨y, D, b2, rfl, (Z7 (CN.b0)), by rw [HR0.o, hr]; rfl, CN⟩
 go_wp2_with fail
 go_region_held (fun W => (W.cell? ⟨w3.heap.size, 0, none⟩ = some (.int .i64 t.kind) ∧ W.cell? ⟨w3.heap.size, 1, none⟩ = some (.string ⟨t.text.toArray⟩) ∧ W.cell? ⟨w3.heap.size, 2, none⟩ = some (.int .i64 t.line) ∧ W.cell? ⟨w3.heap.size, 3, none⟩ = some (.int .i64 t.col))) (first | with_reducible assumption | with_reducible exact HS3.o _ | with_reducible exact HS4.o _ _ _ _ _ _ _ _) (first
  | (go_at_call 224; refine HC.o.mono ?_; rintro e w9 (⟨ch, rfl, hf⟩ | ⟨y, D, b2, rfl, t5, HX⟩); exact ⟨rfl, hf⟩; have HS3 : xQ (∀ o, (((w9.alloc o)).cell? ⟨w3.heap.size, 0, none⟩ = some (.int .i64 t.kind) ∧ ((w9.alloc o)).cell? ⟨w3.heap.size, 1, none⟩ = some (.string ⟨t.text.toArray⟩) ∧ ((w9.alloc o)).cell? ⟨w3.heap.size, 2, none⟩ = some (.int .i64 t.line) ∧ ((w9.alloc o)).cell? ⟨w3.heap.size, 3, none⟩ = some (.int .i64 t.col))) := (fun o => (Z7 ((HX.o.2.alloc o).b1))))
  | (go_at_call 171; refine (Vu t ⟨15, ⟨#[]⟩, 0, 0, 0, none, 0, 0, none, 0, 0, some ⟨w9.heap.size, 0, none⟩, 1, 1⟩ _).mono ?_; rintro e w10 ⟨rfl, hb⟩; have HX2 := Za ((HX.o.2.alloc _).below hb); have t6 : (w10.cell? ⟨w3.heap.size, 0, none⟩ = some (.int .i64 t.kind) ∧ w10.cell? ⟨w3.heap.size, 1, none⟩ = some (.string ⟨t.text.toArray⟩) ∧ w10.cell? ⟨w3.heap.size, 2, none⟩ = some (.int .i64 t.line) ∧ w10.cell? ⟨w3.heap.size, 3, none⟩ = some (.int .i64 t.col)) := (Z7 (HX2.o.b1)); have HB8 := Za (Zh (x := Ze) (HX2.o.b2)); obtain ⟨⟨r0, r1, r2, r3, r4, r5, r6, r7⟩, ⟨f0, f1, f2, f3, f4, f5, f6, f7⟩, hr1⟩ := HB8.o; have HS4 : xQ (∀ v0 v1 v2 v3 v4 v5 v6 v7, (((Z2 w10 w.heap.size v0 v1 v2 v3 v4 v5 v6 v7)).cell? ⟨w3.heap.size, 0, none⟩ = some (.int .i64 t.kind) ∧ ((Z2 w10 w.heap.size v0 v1 v2 v3 v4 v5 v6 v7)).cell? ⟨w3.heap.size, 1, none⟩ = some (.string ⟨t.text.toArray⟩) ∧ ((Z2 w10 w.heap.size v0 v1 v2 v3 v4 v5 v6 v7)).cell? ⟨w3.heap.size, 2, none⟩ = some (.int .i64 t.line) ∧ ((Z2 w10 w.heap.size v0 v1 v2 v3 v4 v5 v6 v7)).cell? ⟨w3.heap.size, 3, none⟩ = some (.int .i64 t.col))) := (fun v0 v1 v2 v3 v4 v5 v6 v7 => (Z7 ((Vo hne0 v0 v1 v2 v3 v4 v5 v6 v7).trans (HX2.o.b1)))); clear hb))
 all_goals
  go_wp2_with fail
  rw [HX.o.1]
  refine bodyPost_ret (results_cell_row rfl _ _ w.heap.size 27 _ (0, 0) _ rfl (Yj (x := T1 15 t w9.heap.size) HX2.o.b2) underlying27 rfl (by kernel_rfl)) rfl ⟨Yr HX2.o.st hp (xR) (T1 15 t w9.heap.size), Yv HX2.o.ps hp (T1 15 t w9.heap.size), _, rfl, T1 15 t w9.heap.size, rfl, ?_⟩
  exact ((V2 HX2.o.n0 HX2.o.b0 (by have := HX.o.2.sz; omega) (T1 15 t w9.heap.size) [] [] ⟨rfl, rfl⟩ ⟨rfl, xZ _, 0, .inl rfl⟩ ⟨rfl, xZ _, .inl rfl⟩).put8 (xU _) (T1 15 t w9.heap.size)).lower (Nat.le_succ _)
theorem E2 (pb tb cap d : Nat) (ts : List Tok) (P : Nat → Pr Ty) (hP : Yg pb tb cap d ts Zo 226 P) (ok : Z0 ts) (a : Nat) (h1 : Zc ts a [45] = false) (h2 : Zc ts a [110, 111, 116] = false) (w : World) (h : Ps w pb tb cap ts a d) :
  Calls prog 225 #[.pointer (some ⟨pb, 0, none⟩)] w (Zs pb tb cap ts d w Zo ((P a).go fun x b => .inl (x, b))) := by
 have H := Za h
 have OK := Za ok
 have hp := h.ltp
 have HP1 := Za hP
 have HS1 := Za h1
 have HS2 := Za h2
 have C0 := Za (Xa h Ze.obj)
 obtain ⟨R, hR⟩ : ∃ R : Pr Ty, R = ((P a).go fun x b => .inl (x, b)) := ⟨_, rfl⟩
 rw [← hR]
 have HR0 := Za hR
 clear h ok hR hP h1 h2
 go_enter func225, ntmps225
 go_wp2_with fail
 refine (Y3 pb tb cap a _ 1 ts [[45]] _ _ C0.o.ps.rd (by simp) (by simp)).mono ?_
 rw [Xi, HS1.o]
 rintro e w1 ⟨rfl, hb⟩
 have C1 := Za (C0.o.below hb)
 clear hb
 go_wp2_with fail
 refine (Y3 pb tb cap a _ 1 ts [[110, 111, 116]] _ _ C1.o.ps.rd (by simp) (by simp)).mono ?_
 rw [Xi, HS2.o]
 rintro e w2 ⟨rfl, hb⟩
 have C2 := Za (C1.o.below hb)
 clear hb
 go_wp2_with fail
 refine (HP1.o.calls a _ C2.o.ps).mono ?_
 intro e w3 zhm
 rcases Zy zhm with ⟨er, li, co, hr, rfl, hst⟩ | ⟨D, b, v, hr, rfl, hst, hps, hv⟩
 ·have HE : xQ (R = .inr (er, li, co)) := by rw [HR0.o, hr]; exact rfl
  have HF := Za (C2.o.st.trans hst)
  clear hr hst zhm
  go_wp2_with fail
  exact ⟨rfl, HF.o, by rw [HE.o]⟩
 have HR1 : xQ (R = .inl (D, b)) := by rw [HR0.o, hr]; exact rfl
 obtain ⟨x, rfl, hv⟩ := hv
 have C3 := Za ((C2.o.step hst hps).addN hv C2.o.sz)
 clear hr hst hps zhm hv
 obtain ⟨⟨r0, r1, r2, r3, r4, r5, r6, r7⟩, ⟨f0, f1, f2, f3, f4, f5, f6, f7⟩, hr1⟩ := Zh (x := Ze) (C3.o.b0)
 go_wp2_with fail
 rw [HR1.o]
 refine bodyPost_ret (results_cell_row rfl _ _ w.heap.size 27 _ (0, 0) _ rfl (Yj (x := x) C3.o.b0) underlying27 rfl (by kernel_rfl)) rfl ⟨Yr C3.o.st hp (xR) (x), Yv C3.o.ps hp (x), _, rfl, x, rfl, ?_⟩
 exact ((C3.o.n0).put8 (xU _) (x)).lower (Nat.le_succ _)
theorem zbg (pb tb cap d : Nat) (ts : List Tok) (U P : Nat → Pr Ty) (hU : Yg pb tb cap d ts Zo 224 U) (hP : Yg pb tb cap d ts Zo 226 P) (ok : Z0 ts) (a : Nat) (w : World) (h : Ps w pb tb cap ts a d) :
  Calls prog 225 #[.pointer (some ⟨pb, 0, none⟩)] w (Zs pb tb cap ts d w Zo (if Zc ts a [45] then (U (a + 1)).go fun x b => .inl (Zi 16 [] 0 (Zx ts a) (Zz ts a) [] [] [x], b)
   else if Zc ts a [110, 111, 116] then (U (a + 1)).go fun x b => .inl (Zi 15 [] 0 (Zx ts a) (Zz ts a) [] [] [x], b) else P a)) := by
 by_cases h1 : Zc ts a [45] = true
 ·rw [if_pos h1]
  exact zct pb tb cap d ts U hU ok a h1 w h
 ·rw [if_neg h1]
  by_cases h2 : Zc ts a [110, 111, 116] = true
  ·rw [if_pos h2]
   exact Cc pb tb cap d ts U hU ok a h2 w h
  ·rw [if_neg h2]
   have := E2 pb tb cap d ts P hP ok a (by simpa using h1) (by simpa using h2) w h
   cases hp : P a with
   | inl p => rw [hp] at this; exact this
   | inr p => rw [hp] at this; exact this
theorem A4 {lo kb : Nat} {w : World} {x y u : NV} {D1 D2 D3 : Ty} (h1 : Zv lo w x D1) (h2 : Zv lo w y D2) (h3 : Zv lo w u D3) (hk : w.heap[kb]? = some (.cells #[.int .i64 x.k, .string x.tx, .int .i64 x.N, .int .i64 x.li, .int .i64 x.co, .slice x.ta x.tl x.tc, .slice x.na x.nl x.nc, .slice x.ka x.kl x.kc, .int .i64 y.k, .string y.tx, .int .i64 y.N, .int .i64 y.li, .int .i64 y.co, .slice y.ta y.tl y.tc, .slice y.na y.nl y.nc, .slice y.ka y.kl y.kc, .int .i64 u.k, .string u.tx, .int .i64 u.N, .int .i64 u.li, .int .i64 u.co, .slice u.ta u.tl u.tc, .slice u.na u.nl u.nc, .slice u.ka u.kl u.kc] 27)) (hlo : lo ≤ kb)
  (z : NV) (hz : z.ka = some ⟨kb, 0, none⟩ ∧ z.kl = 3) (ht : z.tl = 0) (hn : z.nl = 0) :
  Zv lo w z (Zi z.k z.tx.data.toList z.N z.li z.co [] [] [D1, D2, D3]) := by
 obtain ⟨m1, h1⟩ := h1
 obtain ⟨m2, h2⟩ := h2
 obtain ⟨m3, h3⟩ := h3
 refine ⟨max (max m1 m2) m3 + 1, [], [], [D1, D2, D3], rfl, ⟨ht, hn, hz.2⟩, ⟨xZ _, xZ _, (by show 3 ≤ _; omega)⟩, .inl rfl, .inl rfl, .inr ⟨kb, 0, hz.1, hlo, ⟨_, _, hk⟩, fun i hi => ?_⟩⟩
 match i, hi with
 | 0, _ => exact ⟨x, ⟨by rw [cell_of_row _ _ _ _ _ _ hk]; rfl, by rw [cell_of_row _ _ _ _ _ _ hk]; rfl, by rw [cell_of_row _ _ _ _ _ _ hk]; rfl, by rw [cell_of_row _ _ _ _ _ _ hk]; rfl, by rw [cell_of_row _ _ _ _ _ _ hk]; rfl, by rw [cell_of_row _ _ _ _ _ _ hk]; rfl, by rw [cell_of_row _ _ _ _ _ _ hk]; rfl, by rw [cell_of_row _ _ _ _ _ _ hk]; rfl⟩, Qh h1 (Nat.le_trans (Nat.le_max_left _ _) (Nat.le_max_left _ _))⟩
 | 1, _ => exact ⟨y, ⟨by rw [cell_of_row _ _ _ _ _ _ hk]; rfl, by rw [cell_of_row _ _ _ _ _ _ hk]; rfl, by rw [cell_of_row _ _ _ _ _ _ hk]; rfl, by rw [cell_of_row _ _ _ _ _ _ hk]; rfl, by rw [cell_of_row _ _ _ _ _ _ hk]; rfl, by rw [cell_of_row _ _ _ _ _ _ hk]; rfl, by rw [cell_of_row _ _ _ _ _ _ hk]; rfl, by rw [cell_of_row _ _ _ _ _ _ hk]; rfl⟩, Qh h2 (Nat.le_trans (Nat.le_max_right _ _) (Nat.le_max_left _ _))⟩
 | 2, _ => exact ⟨u, ⟨by rw [cell_of_row _ _ _ _ _ _ hk]; rfl, by rw [cell_of_row _ _ _ _ _ _ hk]; rfl, by rw [cell_of_row _ _ _ _ _ _ hk]; rfl, by rw [cell_of_row _ _ _ _ _ _ hk]; rfl, by rw [cell_of_row _ _ _ _ _ _ hk]; rfl, by rw [cell_of_row _ _ _ _ _ _ hk]; rfl, by rw [cell_of_row _ _ _ _ _ _ hk]; rfl, by rw [cell_of_row _ _ _ _ _ _ hk]; rfl⟩, Qh h3 (Nat.le_max_right _ _)⟩
abbrev Nx (t : Tok) (kb : Nat) : NV := ⟨11, ⟨#[]⟩, 0, t.line, t.col, none, 0, 0, none, 0, 0, some ⟨kb, 0, none⟩, 3, 3⟩
theorem zfu (pb tb cap d : Nat) (ts : List Tok) (E : Nat → Pr Ty) (hE : Yg pb tb cap d ts Zo 23 E) (ok : Z0 ts) (a : Nat) (w : World) (h : Ps w pb tb cap ts a d) :
  Calls prog 110 #[.pointer (some ⟨pb, 0, none⟩)] w (Zs pb tb cap ts d w Zo ((Zb ts a [105, 102]).go fun _ b => (E b).go fun c b => (Zb ts b [116, 104, 101, 110]).go fun _ b => (E b).go fun x b => (Zb ts b [101, 108, 115, 101]).go fun _ b => (E b).go fun y b => .inl (Zi 11 [] 0 (Zg ts a).line (Zg ts a).col [] [] [c, x, y], b))) := by
 have H := Za h
 have OK := Za ok
 have hp := h.ltp
 have HE1 := Za hE
 have HM0 := Za (fun w h => Y6 pb tb cap a d ts [105, 102] w h ok)
 obtain ⟨t, ht⟩ := xE (Zg ts a)
 rw [← ht] at HM0 ⊢
 clear ht
 have C0 := Za (Xa h Ze.obj)
 obtain ⟨R, hR⟩ : ∃ R : Pr Ty, R = ((Zb ts a [105, 102]).go fun _ b => (E b).go fun c b => (Zb ts b [116, 104, 101, 110]).go fun _ b => (E b).go fun x b => (Zb ts b [101, 108, 115, 101]).go fun _ b => (E b).go fun y b => .inl (Zi 11 [] 0 t.line t.col [] [] [c, x, y], b)) := ⟨_, rfl⟩
 rw [← hR]
 have HR0 := Za hR
 clear h ok hR hE
 go_enter func110, ntmps110
 go_wp2_with fail
 refine (HM0.o _ C0.o.ps).mono ?_
 intro e w1 zhm
 rcases Zy zhm with ⟨er, li, co, hr, rfl, hst⟩ | ⟨u, b1, v, hr, rfl, hst, hps, hv⟩
 ·have HE : xQ (R = .inr (er, li, co)) := by rw [HR0.o, hr]; exact rfl
  have HF := Za (C0.o.st.trans hst)
  clear hr hst zhm
  go_wp2_with fail
  exact ⟨rfl, HF.o, by rw [HE.o]⟩
 have HR1 : xQ (R = (E b1).go fun c b => (Zb ts b [116, 104, 101, 110]).go fun _ b => (E b).go fun x b => (Zb ts b [101, 108, 115, 101]).go fun _ b => (E b).go fun y b => .inl (Zi 11 [] 0 t.line t.col [] [] [c, x, y], b)) := by rw [HR0.o, hr]; exact rfl
 subst hv
 have C1 := Za ((C0.o.step hst hps))
 have C2 := Za (C1.o.alloc (Zk t))
 clear hr hst hps zhm  
 go_wp2_with fail
 refine (HE1.o.calls b1 _ C2.o.ps).mono ?_
 intro e w2 zhm
 rcases Zy zhm with ⟨er, li, co, hr, rfl, hst⟩ | ⟨D1, b2, v, hr, rfl, hst, hps, hv⟩
 ·have HE : xQ (R = .inr (er, li, co)) := by rw [HR1.o, hr]; exact rfl
  have HF := Za (C2.o.st.trans hst)
  clear hr hst zhm
  go_wp2_with fail
  exact ⟨rfl, HF.o, by rw [HE.o]⟩
 have HR2 : xQ (R = (Zb ts b2 [116, 104, 101, 110]).go fun _ b => (E b).go fun x b => (Zb ts b [101, 108, 115, 101]).go fun _ b => (E b).go fun y b => .inl (Zi 11 [] 0 t.line t.col [] [] [D1, x, y], b)) := by rw [HR1.o, hr]; exact rfl
 obtain ⟨x1, rfl, hv⟩ := hv
 have C3 := Za ((C2.o.step hst hps).addN hv C2.o.sz)
 have C4 := Za (C3.o.alloc (x1.obj))
 clear hr hst hps zhm hv
 go_wp2_with fail
 refine (Y6 pb tb cap b2 d ts [116, 104, 101, 110] _ C4.o.ps OK.o).mono ?_
 intro e w3 zhm
 rcases Zy zhm with ⟨er, li, co, hr, rfl, hst⟩ | ⟨u3, b3, v3, hr, rfl, hst, hps, hv⟩
 ·have HE : xQ (R = .inr (er, li, co)) := by rw [HR2.o, hr]; exact rfl
  have HF := Za (C4.o.st.trans hst)
  clear hr hst zhm
  go_wp2_with fail
  exact ⟨rfl, HF.o, by rw [HE.o]⟩
 have HR3 : xQ (R = (E b3).go fun x b => (Zb ts b [101, 108, 115, 101]).go fun _ b => (E b).go fun y b => .inl (Zi 11 [] 0 t.line t.col [] [] [D1, x, y], b)) := by rw [HR2.o, hr]; exact rfl
 have C5 := Za ((C4.o.step hst hps))
 clear hr hst hps zhm hv
 go_wp2_with fail
 refine (HE1.o.calls b3 _ C5.o.ps).mono ?_
 intro e w4 zhm
 rcases Zy zhm with ⟨er, li, co, hr, rfl, hst⟩ | ⟨D2, b4, v, hr, rfl, hst, hps, hv⟩
 ·have HE : xQ (R = .inr (er, li, co)) := by rw [HR3.o, hr]; exact rfl
  have HF := Za (C5.o.st.trans hst)
  clear hr hst zhm
  go_wp2_with fail
  exact ⟨rfl, HF.o, by rw [HE.o]⟩
 have HR4 : xQ (R = (Zb ts b4 [101, 108, 115, 101]).go fun _ b => (E b).go fun y b => .inl (Zi 11 [] 0 t.line t.col [] [] [D1, D2, y], b)) := by rw [HR3.o, hr]; exact rfl
 obtain ⟨x2, rfl, hv⟩ := hv
 have C6 := Za ((C5.o.step hst hps).addN hv C5.o.sz)
 have C7 := Za (C6.o.alloc (x2.obj))
 clear hr hst hps zhm hv
 go_wp2_with fail
 refine (Y6 pb tb cap b4 d ts [101, 108, 115, 101] _ C7.o.ps OK.o).mono ?_
 intro e w5 zhm
 rcases Zy zhm with ⟨er, li, co, hr, rfl, hst⟩ | ⟨u5, b5, v5, hr, rfl, hst, hps, hv⟩
 ·have HE : xQ (R = .inr (er, li, co)) := by rw [HR4.o, hr]; exact rfl
  have HF := Za (C7.o.st.trans hst)
  clear hr hst zhm
  go_wp2_with fail
  exact ⟨rfl, HF.o, by rw [HE.o]⟩
 have HR5 : xQ (R = (E b5).go fun y b => .inl (Zi 11 [] 0 t.line t.col [] [] [D1, D2, y], b)) := by rw [HR4.o, hr]; exact rfl
 have C8 := Za ((C7.o.step hst hps))
 clear hr hst hps zhm hv
 obtain ⟨⟨k0, k1, k2, k3⟩, _, hk1⟩ := Zr C8.o.b2
 obtain ⟨⟨n0, n1, n2, n3, n4, n5, n6, n7⟩, _, hn1⟩ := Zh (x := x1) C8.o.b1
 obtain ⟨⟨m0, m1, m2, m3, m4, m5, m6, m7⟩, _, hm1⟩ := Zh (x := x2) C8.o.b0
 go_wp2_with fail
 have hne0 : w1.heap.size ≠ w.heap.size := by have := C1.o.sz; omega
 have hne1 : w2.heap.size ≠ w.heap.size := by have := C3.o.sz; omega
 have hne2 : w4.heap.size ≠ w.heap.size := by have := C6.o.sz; omega
 have hS0 : (((w5).drew).cell? ⟨w1.heap.size, 0, none⟩ = some (.int .i64 t.kind) ∧ ((w5).drew).cell? ⟨w1.heap.size, 1, none⟩ = some (.string ⟨t.text.toArray⟩) ∧ ((w5).drew).cell? ⟨w1.heap.size, 2, none⟩ = some (.int .i64 t.line) ∧ ((w5).drew).cell? ⟨w1.heap.size, 3, none⟩ = some (.int .i64 t.col)) ∧ (((w5).drew).cell? ⟨w2.heap.size, 0, none⟩ = some (.int .i64 x1.k) ∧ ((w5).drew).cell? ⟨w2.heap.size, 1, none⟩ = some (.string x1.tx) ∧ ((w5).drew).cell? ⟨w2.heap.size, 2, none⟩ = some (.int .i64 x1.N) ∧ ((w5).drew).cell? ⟨w2.heap.size, 3, none⟩ = some (.int .i64 x1.li) ∧ ((w5).drew).cell? ⟨w2.heap.size, 4, none⟩ = some (.int .i64 x1.co) ∧ ((w5).drew).cell? ⟨w2.heap.size, 5, none⟩ = some (.slice x1.ta x1.tl x1.tc) ∧ ((w5).drew).cell? ⟨w2.heap.size, 6, none⟩ = some (.slice x1.na x1.nl x1.nc) ∧ ((w5).drew).cell? ⟨w2.heap.size, 7, none⟩ = some (.slice x1.ka x1.kl x1.kc)) ∧ (((w5).drew).cell? ⟨w4.heap.size, 0, none⟩ = some (.int .i64 x2.k) ∧ ((w5).drew).cell? ⟨w4.heap.size, 1, none⟩ = some (.string x2.tx) ∧ ((w5).drew).cell? ⟨w4.heap.size, 2, none⟩ = some (.int .i64 x2.N) ∧ ((w5).drew).cell? ⟨w4.heap.size, 3, none⟩ = some (.int .i64 x2.li) ∧ ((w5).drew).cell? ⟨w4.heap.size, 4, none⟩ = some (.int .i64 x2.co) ∧ ((w5).drew).cell? ⟨w4.heap.size, 5, none⟩ = some (.slice x2.ta x2.tl x2.tc) ∧ ((w5).drew).cell? ⟨w4.heap.size, 6, none⟩ = some (.slice x2.na x2.nl x2.nc) ∧ ((w5).drew).cell? ⟨w4.heap.size, 7, none⟩ = some (.slice x2.ka x2.kl x2.kc)) := ⟨(Z7 (C8.o.drew.b2)), (Zh (x := x1) (C8.o.drew.b1)).1, (Zh (x := x2) (C8.o.drew.b0)).1⟩
 have HC : xQ (Calls prog 23 #[.pointer (some ⟨pb, 0, none⟩)] (w5).drew fun e w9 => (∃ chain, e = .panicked chain ∧ Zs pb tb cap ts d w Zo R e w9) ∨ ∃ (y : NV) (D3 : Ty) (b6 : Nat), e = .returned (y.val) ∧ ((w9.cell? ⟨w1.heap.size, 0, none⟩ = some (.int .i64 t.kind) ∧ w9.cell? ⟨w1.heap.size, 1, none⟩ = some (.string ⟨t.text.toArray⟩) ∧ w9.cell? ⟨w1.heap.size, 2, none⟩ = some (.int .i64 t.line) ∧ w9.cell? ⟨w1.heap.size, 3, none⟩ = some (.int .i64 t.col)) ∧ (w9.cell? ⟨w2.heap.size, 0, none⟩ = some (.int .i64 x1.k) ∧ w9.cell? ⟨w2.heap.size, 1, none⟩ = some (.string x1.tx) ∧ w9.cell? ⟨w2.heap.size, 2, none⟩ = some (.int .i64 x1.N) ∧ w9.cell? ⟨w2.heap.size, 3, none⟩ = some (.int .i64 x1.li) ∧ w9.cell? ⟨w2.heap.size, 4, none⟩ = some (.int .i64 x1.co) ∧ w9.cell? ⟨w2.heap.size, 5, none⟩ = some (.slice x1.ta x1.tl x1.tc) ∧ w9.cell? ⟨w2.heap.size, 6, none⟩ = some (.slice x1.na x1.nl x1.nc) ∧ w9.cell? ⟨w2.heap.size, 7, none⟩ = some (.slice x1.ka x1.kl x1.kc)) ∧ (w9.cell? ⟨w4.heap.size, 0, none⟩ = some (.int .i64 x2.k) ∧ w9.cell? ⟨w4.heap.size, 1, none⟩ = some (.string x2.tx) ∧ w9.cell? ⟨w4.heap.size, 2, none⟩ = some (.int .i64 x2.N) ∧ w9.cell? ⟨w4.heap.size, 3, none⟩ = some (.int .i64 x2.li) ∧ w9.cell? ⟨w4.heap.size, 4, none⟩ = some (.int .i64 x2.co) ∧ w9.cell? ⟨w4.heap.size, 5, none⟩ = some (.slice x2.ta x2.tl x2.tc) ∧ w9.cell? ⟨w4.heap.size, 6, none⟩ = some (.slice x2.na x2.nl x2.nc) ∧ w9.cell? ⟨w4.heap.size, 7, none⟩ = some (.slice x2.ka x2.kl x2.kc))) ∧ xQ (R = .inl (Zi 11 [] 0 t.line t.col [] [] [D1, D2, D3], b6) ∧ Z5 pb tb cap d ts w w9 b6 [(w4.heap.size, x2.obj), (w2.heap.size, x1.obj), (w1.heap.size, Zk t), (w.heap.size, Ze.obj)] [(y, D3), (x2, D2), (x1, D1)] [])) := by
  refine (HE1.o.calls b5 _ C8.o.drew.ps).mono ?_
  intro e w9 zhm
  rcases Zy zhm with ⟨er, li, co, hr, rfl, hst⟩ | ⟨D3, b6, v, hr, rfl, hst, hps, hv⟩
  ·exact .inl ⟨_, rfl, C8.o.drew.st.trans hst, by rw [HR5.o, hr]; rfl⟩
  obtain ⟨y, rfl, hv⟩ := hv
  have CN := (C8.o.drew.step hst hps).addN hv C8.o.drew.sz
  exact .inr ⟨y, D3, b6, rfl, ⟨(Z7 (CN.b2)), (Zh (x := x1) (CN.b1)).1, (Zh (x := x2) (CN.b0)).1⟩, by rw [HR5.o, hr]; rfl, CN⟩
 go_wp2_with fail
 go_region_held (fun W => (W.cell? ⟨w1.heap.size, 0, none⟩ = some (.int .i64 t.kind) ∧ W.cell? ⟨w1.heap.size, 1, none⟩ = some (.string ⟨t.text.toArray⟩) ∧ W.cell? ⟨w1.heap.size, 2, none⟩ = some (.int .i64 t.line) ∧ W.cell? ⟨w1.heap.size, 3, none⟩ = some (.int .i64 t.col)) ∧ (W.cell? ⟨w2.heap.size, 0, none⟩ = some (.int .i64 x1.k) ∧ W.cell? ⟨w2.heap.size, 1, none⟩ = some (.string x1.tx) ∧ W.cell? ⟨w2.heap.size, 2, none⟩ = some (.int .i64 x1.N) ∧ W.cell? ⟨w2.heap.size, 3, none⟩ = some (.int .i64 x1.li) ∧ W.cell? ⟨w2.heap.size, 4, none⟩ = some (.int .i64 x1.co) ∧ W.cell? ⟨w2.heap.size, 5, none⟩ = some (.slice x1.ta x1.tl x1.tc) ∧ W.cell? ⟨w2.heap.size, 6, none⟩ = some (.slice x1.na x1.nl x1.nc) ∧ W.cell? ⟨w2.heap.size, 7, none⟩ = some (.slice x1.ka x1.kl x1.kc)) ∧ (W.cell? ⟨w4.heap.size, 0, none⟩ = some (.int .i64 x2.k) ∧ W.cell? ⟨w4.heap.size, 1, none⟩ = some (.string x2.tx) ∧ W.cell? ⟨w4.heap.size, 2, none⟩ = some (.int .i64 x2.N) ∧ W.cell? ⟨w4.heap.size, 3, none⟩ = some (.int .i64 x2.li) ∧ W.cell? ⟨w4.heap.size, 4, none⟩ = some (.int .i64 x2.co) ∧ W.cell? ⟨w4.heap.size, 5, none⟩ = some (.slice x2.ta x2.tl x2.tc) ∧ W.cell? ⟨w4.heap.size, 6, none⟩ = some (.slice x2.na x2.nl x2.nc) ∧ W.cell? ⟨w4.heap.size, 7, none⟩ = some (.slice x2.ka x2.kl x2.kc))) (first | with_reducible assumption | with_reducible exact HS3.o _ | with_reducible exact HS4.o _ _ _ _ _ _ _ _) (first
  | (go_at_call 23; refine HC.o.mono ?_; rintro e w9 (⟨ch, rfl, hf⟩ | ⟨y, D3, b6, rfl, t5, HX⟩); exact ⟨rfl, hf⟩; have HS3 : xQ (∀ o, (((w9.alloc o)).cell? ⟨w1.heap.size, 0, none⟩ = some (.int .i64 t.kind) ∧ ((w9.alloc o)).cell? ⟨w1.heap.size, 1, none⟩ = some (.string ⟨t.text.toArray⟩) ∧ ((w9.alloc o)).cell? ⟨w1.heap.size, 2, none⟩ = some (.int .i64 t.line) ∧ ((w9.alloc o)).cell? ⟨w1.heap.size, 3, none⟩ = some (.int .i64 t.col)) ∧ (((w9.alloc o)).cell? ⟨w2.heap.size, 0, none⟩ = some (.int .i64 x1.k) ∧ ((w9.alloc o)).cell? ⟨w2.heap.size, 1, none⟩ = some (.string x1.tx) ∧ ((w9.alloc o)).cell? ⟨w2.heap.size, 2, none⟩ = some (.int .i64 x1.N) ∧ ((w9.alloc o)).cell? ⟨w2.heap.size, 3, none⟩ = some (.int .i64 x1.li) ∧ ((w9.alloc o)).cell? ⟨w2.heap.size, 4, none⟩ = some (.int .i64 x1.co) ∧ ((w9.alloc o)).cell? ⟨w2.heap.size, 5, none⟩ = some (.slice x1.ta x1.tl x1.tc) ∧ ((w9.alloc o)).cell? ⟨w2.heap.size, 6, none⟩ = some (.slice x1.na x1.nl x1.nc) ∧ ((w9.alloc o)).cell? ⟨w2.heap.size, 7, none⟩ = some (.slice x1.ka x1.kl x1.kc)) ∧ (((w9.alloc o)).cell? ⟨w4.heap.size, 0, none⟩ = some (.int .i64 x2.k) ∧ ((w9.alloc o)).cell? ⟨w4.heap.size, 1, none⟩ = some (.string x2.tx) ∧ ((w9.alloc o)).cell? ⟨w4.heap.size, 2, none⟩ = some (.int .i64 x2.N) ∧ ((w9.alloc o)).cell? ⟨w4.heap.size, 3, none⟩ = some (.int .i64 x2.li) ∧ ((w9.alloc o)).cell? ⟨w4.heap.size, 4, none⟩ = some (.int .i64 x2.co) ∧ ((w9.alloc o)).cell? ⟨w4.heap.size, 5, none⟩ = some (.slice x2.ta x2.tl x2.tc) ∧ ((w9.alloc o)).cell? ⟨w4.heap.size, 6, none⟩ = some (.slice x2.na x2.nl x2.nc) ∧ ((w9.alloc o)).cell? ⟨w4.heap.size, 7, none⟩ = some (.slice x2.ka x2.kl x2.kc))) := (fun o => ⟨(Z7 ((HX.o.2.alloc o).b3)), (Zh (x := x1) ((HX.o.2.alloc o).b2)).1, (Zh (x := x2) ((HX.o.2.alloc o).b1)).1⟩))
  | (go_at_call 171; refine (Vu t ⟨11, ⟨#[]⟩, 0, 0, 0, none, 0, 0, none, 0, 0, some ⟨w9.heap.size, 0, none⟩, 3, 3⟩ _).mono ?_; rintro e w10 ⟨rfl, hb⟩; have HX2 := Za ((HX.o.2.alloc _).below hb); have t6 : (w10.cell? ⟨w1.heap.size, 0, none⟩ = some (.int .i64 t.kind) ∧ w10.cell? ⟨w1.heap.size, 1, none⟩ = some (.string ⟨t.text.toArray⟩) ∧ w10.cell? ⟨w1.heap.size, 2, none⟩ = some (.int .i64 t.line) ∧ w10.cell? ⟨w1.heap.size, 3, none⟩ = some (.int .i64 t.col)) ∧ (w10.cell? ⟨w2.heap.size, 0, none⟩ = some (.int .i64 x1.k) ∧ w10.cell? ⟨w2.heap.size, 1, none⟩ = some (.string x1.tx) ∧ w10.cell? ⟨w2.heap.size, 2, none⟩ = some (.int .i64 x1.N) ∧ w10.cell? ⟨w2.heap.size, 3, none⟩ = some (.int .i64 x1.li) ∧ w10.cell? ⟨w2.heap.size, 4, none⟩ = some (.int .i64 x1.co) ∧ w10.cell? ⟨w2.heap.size, 5, none⟩ = some (.slice x1.ta x1.tl x1.tc) ∧ w10.cell? ⟨w2.heap.size, 6, none⟩ = some (.slice x1.na x1.nl x1.nc) ∧ w10.cell? ⟨w2.heap.size, 7, none⟩ = some (.slice x1.ka x1.kl x1.kc)) ∧ (w10.cell? ⟨w4.heap.size, 0, none⟩ = some (.int .i64 x2.k) ∧ w10.cell? ⟨w4.heap.size, 1, none⟩ = some (.string x2.tx) ∧ w10.cell? ⟨w4.heap.size, 2, none⟩ = some (.int .i64 x2.N) ∧ w10.cell? ⟨w4.heap.size, 3, none⟩ = some (.int .i64 x2.li) ∧ w10.cell? ⟨w4.heap.size, 4, none⟩ = some (.int .i64 x2.co) ∧ w10.cell? ⟨w4.heap.size, 5, none⟩ = some (.slice x2.ta x2.tl x2.tc) ∧ w10.cell? ⟨w4.heap.size, 6, none⟩ = some (.slice x2.na x2.nl x2.nc) ∧ w10.cell? ⟨w4.heap.size, 7, none⟩ = some (.slice x2.ka x2.kl x2.kc)) := ⟨(Z7 (HX2.o.b3)), (Zh (x := x1) (HX2.o.b2)).1, (Zh (x := x2) (HX2.o.b1)).1⟩; have HB8 := Za (Zh (x := Ze) (HX2.o.b4)); obtain ⟨⟨r0, r1, r2, r3, r4, r5, r6, r7⟩, ⟨f0, f1, f2, f3, f4, f5, f6, f7⟩, hr1⟩ := HB8.o; have HS4 : xQ (∀ v0 v1 v2 v3 v4 v5 v6 v7, (((Z2 w10 w.heap.size v0 v1 v2 v3 v4 v5 v6 v7)).cell? ⟨w1.heap.size, 0, none⟩ = some (.int .i64 t.kind) ∧ ((Z2 w10 w.heap.size v0 v1 v2 v3 v4 v5 v6 v7)).cell? ⟨w1.heap.size, 1, none⟩ = some (.string ⟨t.text.toArray⟩) ∧ ((Z2 w10 w.heap.size v0 v1 v2 v3 v4 v5 v6 v7)).cell? ⟨w1.heap.size, 2, none⟩ = some (.int .i64 t.line) ∧ ((Z2 w10 w.heap.size v0 v1 v2 v3 v4 v5 v6 v7)).cell? ⟨w1.heap.size, 3, none⟩ = some (.int .i64 t.col)) ∧ (((Z2 w10 w.heap.size v0 v1 v2 v3 v4 v5 v6 v7)).cell? ⟨w2.heap.size, 0, none⟩ = some (.int .i64 x1.k) ∧ ((Z2 w10 w.heap.size v0 v1 v2 v3 v4 v5 v6 v7)).cell? ⟨w2.heap.size, 1, none⟩ = some (.string x1.tx) ∧ ((Z2 w10 w.heap.size v0 v1 v2 v3 v4 v5 v6 v7)).cell? ⟨w2.heap.size, 2, none⟩ = some (.int .i64 x1.N) ∧ ((Z2 w10 w.heap.size v0 v1 v2 v3 v4 v5 v6 v7)).cell? ⟨w2.heap.size, 3, none⟩ = some (.int .i64 x1.li) ∧ ((Z2 w10 w.heap.size v0 v1 v2 v3 v4 v5 v6 v7)).cell? ⟨w2.heap.size, 4, none⟩ = some (.int .i64 x1.co) ∧ ((Z2 w10 w.heap.size v0 v1 v2 v3 v4 v5 v6 v7)).cell? ⟨w2.heap.size, 5, none⟩ = some (.slice x1.ta x1.tl x1.tc) ∧ ((Z2 w10 w.heap.size v0 v1 v2 v3 v4 v5 v6 v7)).cell? ⟨w2.heap.size, 6, none⟩ = some (.slice x1.na x1.nl x1.nc) ∧ ((Z2 w10 w.heap.size v0 v1 v2 v3 v4 v5 v6 v7)).cell? ⟨w2.heap.size, 7, none⟩ = some (.slice x1.ka x1.kl x1.kc)) ∧ (((Z2 w10 w.heap.size v0 v1 v2 v3 v4 v5 v6 v7)).cell? ⟨w4.heap.size, 0, none⟩ = some (.int .i64 x2.k) ∧ ((Z2 w10 w.heap.size v0 v1 v2 v3 v4 v5 v6 v7)).cell? ⟨w4.heap.size, 1, none⟩ = some (.string x2.tx) ∧ ((Z2 w10 w.heap.size v0 v1 v2 v3 v4 v5 v6 v7)).cell? ⟨w4.heap.size, 2, none⟩ = some (.int .i64 x2.N) ∧ ((Z2 w10 w.heap.size v0 v1 v2 v3 v4 v5 v6 v7)).cell? ⟨w4.heap.size, 3, none⟩ = some (.int .i64 x2.li) ∧ ((Z2 w10 w.heap.size v0 v1 v2 v3 v4 v5 v6 v7)).cell? ⟨w4.heap.size, 4, none⟩ = some (.int .i64 x2.co) ∧ ((Z2 w10 w.heap.size v0 v1 v2 v3 v4 v5 v6 v7)).cell? ⟨w4.heap.size, 5, none⟩ = some (.slice x2.ta x2.tl x2.tc) ∧ ((Z2 w10 w.heap.size v0 v1 v2 v3 v4 v5 v6 v7)).cell? ⟨w4.heap.size, 6, none⟩ = some (.slice x2.na x2.nl x2.nc) ∧ ((Z2 w10 w.heap.size v0 v1 v2 v3 v4 v5 v6 v7)).cell? ⟨w4.heap.size, 7, none⟩ = some (.slice x2.ka x2.kl x2.kc))) := (fun v0 v1 v2 v3 v4 v5 v6 v7 => ⟨(Z7 ((Vo hne0 v0 v1 v2 v3 v4 v5 v6 v7).trans (HX2.o.b3))), (Zh (x := x1) ((Vo hne1 v0 v1 v2 v3 v4 v5 v6 v7).trans (HX2.o.b2))).1, (Zh (x := x2) ((Vo hne2 v0 v1 v2 v3 v4 v5 v6 v7).trans (HX2.o.b1))).1⟩); clear hb))
 all_goals
  go_wp2_with fail
  rw [HX.o.1]
  refine bodyPost_ret (results_cell_row rfl _ _ w.heap.size 27 _ (0, 0) _ rfl (Yj (x := Nx t w9.heap.size) HX2.o.b4) underlying27 rfl (by kernel_rfl)) rfl ⟨Yr HX2.o.st hp (xR) (Nx t w9.heap.size), Yv HX2.o.ps hp (Nx t w9.heap.size), _, rfl, Nx t w9.heap.size, rfl, ?_⟩
  exact ((A4 HX2.o.n2 HX2.o.n1 HX2.o.n0 HX2.o.b0 (by have := HX.o.2.sz; omega) (Nx t w9.heap.size) ⟨rfl, rfl⟩ rfl rfl).put8 (xU _) (Nx t w9.heap.size)).lower (Nat.le_succ _)
end Go.Proofs.YtbnjllkkhhkkaaaGreatDoor
