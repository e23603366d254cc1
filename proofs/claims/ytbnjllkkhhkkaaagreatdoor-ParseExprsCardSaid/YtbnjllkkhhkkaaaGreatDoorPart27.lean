/- Part. -/
import Derived.Test.YtbnjllkkhhkkaaaGreatDoorPart26
set_option maxRecDepth 100000
set_option maxHeartbeats 4000000
namespace Go.Proofs.YtbnjllkkhhkkaaaGreatDoor
open Go.Proofs.Tryz
open Go.RowKit
theorem Jp {w : World} {b : Nat} {y0 y1 y2 y3 y4 y5 y6 y7 : Value} {t : TypeId} (h : w.heap[b]? = some (.cells #[y0, y1, y2, y3, y4, y5, y6, y7] t)) (v0 v1 v2 v3 v4 v5 v6 v7 : Value) : (Z2 w b v0 v1 v2 v3 v4 v5 v6 v7).heap[b]? = some (.cells #[v0, v1, v2, v3, v4, v5, v6, v7] t) := by
 have h0 := Z9 (o := 0) (u := v0) h
 simp only [List.setIfInBounds_toArray, List.set_cons_zero] at h0
 have h1 := Z9 (o := 1) (u := v1) h0
 simp only [List.setIfInBounds_toArray, List.set_cons_zero, List.set_cons_succ] at h1
 have h2 := Z9 (o := 2) (u := v2) h1
 simp only [List.setIfInBounds_toArray, List.set_cons_zero, List.set_cons_succ] at h2
 have h3 := Z9 (o := 3) (u := v3) h2
 simp only [List.setIfInBounds_toArray, List.set_cons_zero, List.set_cons_succ] at h3
 have h4 := Z9 (o := 4) (u := v4) h3
 simp only [List.setIfInBounds_toArray, List.set_cons_zero, List.set_cons_succ] at h4
 have h5 := Z9 (o := 5) (u := v5) h4
 simp only [List.setIfInBounds_toArray, List.set_cons_zero, List.set_cons_succ] at h5
 have h6 := Z9 (o := 6) (u := v6) h5
 simp only [List.setIfInBounds_toArray, List.set_cons_zero, List.set_cons_succ] at h6
 have h7 := Z9 (o := 7) (u := v7) h6
 simp only [List.setIfInBounds_toArray, List.set_cons_zero, List.set_cons_succ] at h7
 exact h7
theorem Bf (w : World) (i : Nat) : w.drew.heap[i]? = w.heap[i]? := rfl
theorem Zv.drewK {lo : Nat} {w : World} {x : NV} {D : Ty} (h : Zv lo w x D) : Zv lo w.drew x D := h.keep (xR) fun _ _ _ => rfl
theorem Jk {w u : World} {B b : Nat} (h : Below B u w) (hb : B ≤ b) (v0 v1 v2 v3 v4 v5 v6 v7 : Value) : Below B u (Z2 w b v0 v1 v2 v3 v4 v5 v6 v7) :=
 (((((((h.setCell hb _).setCell hb _).setCell hb _).setCell hb _).setCell hb _).setCell hb _).setCell hb _).setCell hb _
theorem zgm (S : ByteArray) (hS : S.size ≤ 140737488351232) (w : World) :
  Calls prog 10 #[.string S] w (Tx w Ze.val Zo (Ui S.data.toList)) := by
 go_enter func10, ntmps10
 go_wp2_with fail
 refine (zgl S hS _).mono ?_
 intro e w2 zhm
 obtain ⟨hb2, hm⟩ := zhm
 have HB2 : xQ (Below w.heap.size w w2) := Zn (Zn (Zl _ _) (Zl _ _)) hb2
 have HA0 : xQ (w2.heap[w.heap.size]? = some Ze.obj) := (hb2.block _ (by rw [xS, xS]; omega)).trans ((xA (by rw [xS]; omega)).trans (xL w _))
 have HD0 : xQ (w2.heap[w.heap.size + 1]? = some Q5) := (hb2.block _ (by rw [xS, xS]; omega)).trans (Wn w _ _)
 have hs2 : w.heap.size + 2 ≤ w2.heap.size := xB HD0.o
 clear hb2
 rw [xS, xS] at hm
 cases hl : Wb S.data.toList with
 | inr p =>
  obtain ⟨x, li, co⟩ := p
  rw [hl] at hm
  obtain ⟨pb, rfl⟩ := hm
  have hx0 : (x != 0) = true := by simpa using K2 hl
  have HE : xQ (Ui S.data.toList = .inr (x, li, co)) := by show _ = _; unfold Ui; rw [hl]
  have HAw := Za ((Below.heap_alloc w2 (Xn li co x) _ (xB HA0.o)).trans HA0.o)
  have HDw := Za ((Below.heap_alloc w2 (Xn li co x) _ (xB HD0.o)).trans HD0.o)
  have HGw := Za (xL w2 (Xn li co x))
  have HBw := Za (Zn HB2.o (Zl w2 (Xn li co x)))
  clear hl
  go_wp2_with fail
  obtain ⟨db, hdb⟩ := xE w2.heap.size
  rw [← hdb] at HGw hs2 ⊢
  clear hdb HA0 HD0 HB2
  generalize w2.alloc (Xn li co x) = W2 at HAw HDw HGw HBw ⊢
  obtain ⟨⟨a0, a1, a2, a3, a4, a5, a6, a7⟩, ⟨q0, q1, q2, q3, q4, q5, q6, q7⟩, hla⟩ := Zh HAw.o
  obtain ⟨⟨d0, d1, d2, d3⟩, ⟨g0, g1, g2, g3⟩, hld⟩ := Zr HDw.o
  obtain ⟨⟨s0, s1, s2, s3⟩, _, hls⟩ := Zr HGw.o
  have hne1 : ¬ db = w.heap.size := by omega
  have hne2 : ¬ db = w.heap.size + 1 := by omega
  go_region
  all_goals
   go_wp2_with fail
   obtain ⟨Wf, hWf⟩ := xE (((((((((((((W2.setCell ⟨w.heap.size, 0, none⟩ (.int .i64 0)).setCell ⟨w.heap.size, 1, none⟩ (.string ⟨#[]⟩)).setCell ⟨w.heap.size, 2, none⟩ (.int .i64 0)).setCell ⟨w.heap.size, 3, none⟩ (.int .i64 0)).setCell ⟨w.heap.size, 4, none⟩ (.int .i64 0)).setCell ⟨w.heap.size, 5, none⟩ (.slice none 0 0)).setCell ⟨w.heap.size, 6, none⟩ (.slice none 0 0)).setCell ⟨w.heap.size, 7, none⟩ (.slice none 0 0)).setCell ⟨w.heap.size + 1, 0, none⟩ (.int .i64 0)).setCell ⟨w.heap.size + 1, 1, none⟩ (.int .i64 li)).setCell ⟨w.heap.size + 1, 2, none⟩ (.int .i64 co)).setCell ⟨w.heap.size + 1, 3, none⟩ (.int .i64 x)).drew)
   rw [← hWf]
   have hga : Wf.heap[w.heap.size]? = some (.cells #[.int .i64 0, .string ⟨#[]⟩, .int .i64 0, .int .i64 0, .int .i64 0, .slice none 0 0, .slice none 0 0, .slice none 0 0] 27) := by
    rw [hWf, Bf]
    exact (Yn (b := w.heap.size + 1) (i := w.heap.size) (by omega) (.int .i64 0) (.int .i64 li) (.int .i64 co) (.int .i64 x)).trans (Jp HAw.o (.int .i64 0) (.string ⟨#[]⟩) (.int .i64 0) (.int .i64 0) (.int .i64 0) (.slice none 0 0) (.slice none 0 0) (.slice none 0 0))
   have hgd : Wf.heap[w.heap.size + 1]? = some (Xn li co x) := by
    rw [hWf, Bf]
    exact set4 ((Vo (b := w.heap.size) (i := w.heap.size + 1) (by omega) (.int .i64 0) (.string ⟨#[]⟩) (.int .i64 0) (.int .i64 0) (.int .i64 0) (.slice none 0 0) (.slice none 0 0) (.slice none 0 0)).trans HDw.o) (.int .i64 0) (.int .i64 li) (.int .i64 co) (.int .i64 x)
   have hbW : Below w.heap.size w Wf := by
    rw [hWf]
    exact (Xd (Jk HBw.o (xR) (.int .i64 0) (.string ⟨#[]⟩) (.int .i64 0) (.int .i64 0) (.int .i64 0) (.slice none 0 0) (.slice none 0 0) (.slice none 0 0)) (by omega) (.int .i64 0) (.int .i64 li) (.int .i64 co) (.int .i64 x)).drew
   clear hWf
   refine bodyPost_ret (Up rfl _ rfl hga underlying27 (by kernel_rfl) rfl hgd underlying30 (by kernel_rfl)) rfl ?_
   rw [HE.o]
   exact ⟨hbW, rfl⟩
 | inl ts =>
  rw [hl] at hm
  obtain ⟨pb, g, cap, rfl, hpb, hat⟩ := hm
  have OK := Za (Lk hl)
  have HE := Za (Ft hl)
  have HPB := Za hpb
  have HAT := Za (hat.alloc (Xn 0 0 0))
  have hpl := hat.ltp
  have HAw := Za ((Below.heap_alloc w2 (Xn 0 0 0) _ (xB HA0.o)).trans HA0.o)
  have HDw := Za ((Below.heap_alloc w2 (Xn 0 0 0) _ (xB HD0.o)).trans HD0.o)
  have HGw := Za (xL w2 (Xn 0 0 0))
  have HBw := Za (Zn HB2.o (Zl w2 (Xn 0 0 0)))
  have hf : ts.length ≤ (ts.length - 1) + 1 := by omega
  have HK := Za ((F5 pb g cap ts OK.o (ts.length - 1) hf 101 0 rfl (by omega)).1 (.inl 0) _ HAT.o)
  have hf1 : ts.length - 1 + 1 = ts.length := by have := OK.o.pos; omega
  rw [hf1] at HK
  obtain ⟨RK, hRK⟩ := xE (Yw ts ts.length 101 false 0 0)
  have e0 : Zf (Yw ts ts.length 101 false 0) (.inl 0) = RK := hRK.symm
  rw [e0] at HK
  rw [← hRK] at HE
  clear hl hat hpb hf hf1 e0 hRK
  go_wp2_with fail
  obtain ⟨db, hdb⟩ := xE w2.heap.size
  rw [← hdb] at HGw hs2 hpl ⊢
  clear hdb HA0 HD0 HB2
  generalize w2.alloc (Xn 0 0 0) = W2 at HAw HDw HGw HBw HAT HK ⊢
  refine HK.o.mono ?_
  rintro e w3 ⟨hst, hat, z, rfl, hv⟩
  have hs3 := hst.size
  have hlG := xB HGw.o
  have HV := Za (hv.lower (show db + 1 ≤ W2.heap.size from hlG))
  have HST3 := Za (hst.trans (Zj.of (xT hpl (Nat.le_trans (Nat.le_of_lt hlG) hs3)) (Zl w3 (z.obj))))
  have HAT3 := Za (hat.alloc (z.obj))
  have HT3 := Za (xL w3 (z.obj))
  have HV3 := Za (HV.o.below (Zl w3 z.obj))
  clear hst hat hv HV HK HAT
  go_wp2_with fail
  obtain ⟨tb, htb⟩ := xE w3.heap.size
  rw [← htb] at HT3 hs3 ⊢
  clear htb
  generalize w3.alloc (.cells #[.int .i64 z.k, .string z.tx, .int .i64 z.N, .int .i64 z.li, .int .i64 z.co, .slice z.ta z.tl z.tc, .slice z.na z.nl z.nc, .slice z.ka z.kl z.kc] 27) = W3 at HST3 HAT3 HT3 HV3 ⊢
  refine (rend_c pb g cap 0 ts (Zd RK) W3 HAT3.o).mono ?_
  rintro e w4 ⟨rfl, hst, hat⟩
  obtain ⟨li, hli⟩ := xE (lS (Vy ts (Zd RK)))
  obtain ⟨co, hco⟩ := xE (cS (Vy ts (Zd RK)))
  obtain ⟨er, her⟩ := xE (eS (Vy ts (Zd RK)))
  rw [← hli, ← hco, ← her]
  have HFt := Za (And.intro hli (And.intro hco her))
  clear hli hco her
  have hpB := HPB.o
  have HST4 := Za (HST3.o.trans hst)
  have HA4 := Za ((HST4.o.below.block _ (by omega)).trans HAw.o)
  have HD4 := Za ((HST4.o.below.block _ (by omega)).trans HDw.o)
  have HG4 := Za ((HST4.o.keep _ (by omega) hlG).trans HGw.o)
  have HT4 := Za ((hst.keep _ (by omega) (xB HT3.o)).trans HT3.o)
  have HB4 : xQ (Below w.heap.size w w4) := HBw.o.trans (HST4.o.below.mono (by omega))
  have HV4 := Za (HV3.o.stay hst (by omega))
  have HBad : xQ (∀ p, Vy ts (Zd RK) = .inr p → p.1 ≠ 0) := fun p e => by
   obtain ⟨a, ha⟩ := hat
   exact ha.bad p e
  clear hst hat HST3 HAT3 HT3 HV3 HAw HDw HGw HBw
  obtain ⟨⟨a0, a1, a2, a3, a4, a5, a6, a7⟩, ⟨q0, q1, q2, q3, q4, q5, q6, q7⟩, hla⟩ := Zh HA4.o
  obtain ⟨⟨d0, d1, d2, d3⟩, ⟨g0, g1, g2, g3⟩, hld⟩ := Zr HD4.o
  obtain ⟨⟨s0, s1, s2, s3⟩, ⟨y0, y1, y2, y3⟩, hls⟩ := Zr HG4.o
  obtain ⟨⟨t0, t1, t2, t3, t4, t5, t6, t7⟩, _, hlt⟩ := Zh HT4.o
  have hne1 : ¬ db = w.heap.size := by omega
  have hne2 : ¬ db = w.heap.size + 1 := by omega
  have hne3 : ¬ tb = w.heap.size := by omega
  have hne4 : ¬ tb = w.heap.size + 1 := by omega
  have hne5 : ¬ tb = db := by omega
  rcases E6 ts RK with ⟨D, b, hR, he, hd⟩ | ⟨p, he, hd⟩
  ·have HE2 := Za (HE.o.trans hd)
   have HR := Za hR
   have HZ0 : xQ (li = 0 ∧ co = 0 ∧ er = 0) := by
    have := HFt.o
    rw [he] at this
    exact this
   have hx0 : (er != 0) = false := by rw [HZ0.o.2.2]; rfl
   clear he hd hR HFt
   go_wp2_with fail
   go_region
   all_goals
    go_wp2_with fail
    obtain ⟨Wf, hWf⟩ := xE (((((((((((((((((w4.setCell ⟨db, 0, none⟩ (.int .i64 0)).setCell ⟨db, 1, none⟩ (.int .i64 li)).setCell ⟨db, 2, none⟩ (.int .i64 co)).setCell ⟨db, 3, none⟩ (.int .i64 er)).setCell ⟨w.heap.size, 0, none⟩ (.int .i64 z.k)).setCell ⟨w.heap.size, 1, none⟩ (.string z.tx)).setCell ⟨w.heap.size, 2, none⟩ (.int .i64 z.N)).setCell ⟨w.heap.size, 3, none⟩ (.int .i64 z.li)).setCell ⟨w.heap.size, 4, none⟩ (.int .i64 z.co)).setCell ⟨w.heap.size, 5, none⟩ (.slice z.ta z.tl z.tc)).setCell ⟨w.heap.size, 6, none⟩ (.slice z.na z.nl z.nc)).setCell ⟨w.heap.size, 7, none⟩ (.slice z.ka z.kl z.kc)).setCell ⟨w.heap.size + 1, 0, none⟩ (.int .i64 0)).setCell ⟨w.heap.size + 1, 1, none⟩ (.int .i64 li)).setCell ⟨w.heap.size + 1, 2, none⟩ (.int .i64 co)).setCell ⟨w.heap.size + 1, 3, none⟩ (.int .i64 er)).drew)
    rw [← hWf]
    have hga : Wf.heap[w.heap.size]? = some (.cells #[.int .i64 z.k, .string z.tx, .int .i64 z.N, .int .i64 z.li, .int .i64 z.co, .slice z.ta z.tl z.tc, .slice z.na z.nl z.nc, .slice z.ka z.kl z.kc] 27) := by
     rw [hWf, Bf]
     exact (Yn (b := w.heap.size + 1) (i := w.heap.size) (by omega) (.int .i64 0) (.int .i64 li) (.int .i64 co) (.int .i64 er)).trans (Jp ((Yn (w := w4) (b := db) (i := w.heap.size) (by omega) (.int .i64 0) (.int .i64 li) (.int .i64 co) (.int .i64 er)).trans HA4.o) (.int .i64 z.k) (.string z.tx) (.int .i64 z.N) (.int .i64 z.li) (.int .i64 z.co) (.slice z.ta z.tl z.tc) (.slice z.na z.nl z.nc) (.slice z.ka z.kl z.kc))
    have hgd : Wf.heap[w.heap.size + 1]? = some (Xn li co er) := by
     rw [hWf, Bf]
     exact set4 ((Vo (b := w.heap.size) (i := w.heap.size + 1) (by omega) (.int .i64 z.k) (.string z.tx) (.int .i64 z.N) (.int .i64 z.li) (.int .i64 z.co) (.slice z.ta z.tl z.tc) (.slice z.na z.nl z.nc) (.slice z.ka z.kl z.kc)).trans ((Yn (w := w4) (b := db) (i := w.heap.size + 1) (by omega) (.int .i64 0) (.int .i64 li) (.int .i64 co) (.int .i64 er)).trans HD4.o)) (.int .i64 0) (.int .i64 li) (.int .i64 co) (.int .i64 er)
    have hbW : Below w.heap.size w Wf := by
     rw [hWf]
     exact (Xd (Jk (Xd HB4.o (by omega) (.int .i64 0) (.int .i64 li) (.int .i64 co) (.int .i64 er)) (xR) (.int .i64 z.k) (.string z.tx) (.int .i64 z.N) (.int .i64 z.li) (.int .i64 z.co) (.slice z.ta z.tl z.tc) (.slice z.na z.nl z.nc) (.slice z.ka z.kl z.kc)) (by omega) (.int .i64 0) (.int .i64 li) (.int .i64 co) (.int .i64 er)).drew
    have hnd : ∀ D b, RK = .inl (D, b) → Zv (db + 1) Wf z D := fun D b e => by
     rw [hWf]
     have h1 := (((HV4.o D b e).set1 (b := db) (by omega) 0 (.int .i64 0)).set1 (b := db) (by omega) 1 (.int .i64 li)).set1 (b := db) (by omega) 2 (.int .i64 co)
     have h2 := (h1.set1 (b := db) (by omega) 3 (.int .i64 er)).put8 (b := w.heap.size) (by omega) z
     have h3 := (((h2.set1 (b := w.heap.size + 1) (by omega) 0 (.int .i64 0)).set1 (b := w.heap.size + 1) (by omega) 1 (.int .i64 li)).set1 (b := w.heap.size + 1) (by omega) 2 (.int .i64 co)).set1 (b := w.heap.size + 1) (by omega) 3 (.int .i64 er)
     exact h3.drewK
    clear hWf
    refine bodyPost_ret (Up rfl _ rfl hga underlying27 (by kernel_rfl) rfl hgd underlying30 (by kernel_rfl)) rfl ?_
    rw [HE2.o]
    obtain ⟨e1, e2, e3⟩ := HZ0.o
    subst e1 e2 e3
    exact ⟨hbW, _, rfl, z, rfl, (hnd D b HR.o).lower (by omega)⟩
  ·have HE2 := Za (HE.o.trans hd)
   have HZ0 : xQ (p = (er, li, co)) := by
    have := HFt.o
    rw [he] at this
    obtain ⟨p1, p2, p3⟩ := p
    obtain ⟨h1, h2, h3⟩ := this
    have e1 : li = p2 := h1
    have e2 : co = p3 := h2
    have e3 : er = p1 := h3
    show _ = _
    rw [e1, e2, e3]
   have hx0 : (er != 0) = true := by
    have h1 := HBad.o _ he
    rw [HZ0.o] at h1
    simpa using h1
   clear he hd HFt
   go_wp2_with fail
   go_region
   all_goals
    go_wp2_with fail
    obtain ⟨Wf, hWf⟩ := xE (((((((((((((((((w4.setCell ⟨db, 0, none⟩ (.int .i64 0)).setCell ⟨db, 1, none⟩ (.int .i64 li)).setCell ⟨db, 2, none⟩ (.int .i64 co)).setCell ⟨db, 3, none⟩ (.int .i64 er)).setCell ⟨w.heap.size, 0, none⟩ (.int .i64 0)).setCell ⟨w.heap.size, 1, none⟩ (.string ⟨#[]⟩)).setCell ⟨w.heap.size, 2, none⟩ (.int .i64 0)).setCell ⟨w.heap.size, 3, none⟩ (.int .i64 0)).setCell ⟨w.heap.size, 4, none⟩ (.int .i64 0)).setCell ⟨w.heap.size, 5, none⟩ (.slice none 0 0)).setCell ⟨w.heap.size, 6, none⟩ (.slice none 0 0)).setCell ⟨w.heap.size, 7, none⟩ (.slice none 0 0)).setCell ⟨w.heap.size + 1, 0, none⟩ (.int .i64 0)).setCell ⟨w.heap.size + 1, 1, none⟩ (.int .i64 li)).setCell ⟨w.heap.size + 1, 2, none⟩ (.int .i64 co)).setCell ⟨w.heap.size + 1, 3, none⟩ (.int .i64 er)).drew)
    rw [← hWf]
    have hga : Wf.heap[w.heap.size]? = some (.cells #[.int .i64 0, .string ⟨#[]⟩, .int .i64 0, .int .i64 0, .int .i64 0, .slice none 0 0, .slice none 0 0, .slice none 0 0] 27) := by
     rw [hWf, Bf]
     exact (Yn (b := w.heap.size + 1) (i := w.heap.size) (by omega) (.int .i64 0) (.int .i64 li) (.int .i64 co) (.int .i64 er)).trans (Jp ((Yn (w := w4) (b := db) (i := w.heap.size) (by omega) (.int .i64 0) (.int .i64 li) (.int .i64 co) (.int .i64 er)).trans HA4.o) (.int .i64 0) (.string ⟨#[]⟩) (.int .i64 0) (.int .i64 0) (.int .i64 0) (.slice none 0 0) (.slice none 0 0) (.slice none 0 0))
    have hgd : Wf.heap[w.heap.size + 1]? = some (Xn li co er) := by
     rw [hWf, Bf]
     exact set4 ((Vo (b := w.heap.size) (i := w.heap.size + 1) (by omega) (.int .i64 0) (.string ⟨#[]⟩) (.int .i64 0) (.int .i64 0) (.int .i64 0) (.slice none 0 0) (.slice none 0 0) (.slice none 0 0)).trans ((Yn (w := w4) (b := db) (i := w.heap.size + 1) (by omega) (.int .i64 0) (.int .i64 li) (.int .i64 co) (.int .i64 er)).trans HD4.o)) (.int .i64 0) (.int .i64 li) (.int .i64 co) (.int .i64 er)
    have hbW : Below w.heap.size w Wf := by
     rw [hWf]
     exact (Xd (Jk (Xd HB4.o (by omega) (.int .i64 0) (.int .i64 li) (.int .i64 co) (.int .i64 er)) (xR) (.int .i64 0) (.string ⟨#[]⟩) (.int .i64 0) (.int .i64 0) (.int .i64 0) (.slice none 0 0) (.slice none 0 0) (.slice none 0 0)) (by omega) (.int .i64 0) (.int .i64 li) (.int .i64 co) (.int .i64 er)).drew
    clear hWf
    refine bodyPost_ret (Up rfl _ rfl hga underlying27 (by kernel_rfl) rfl hgd underlying30 (by kernel_rfl)) rfl ?_
    rw [HE2.o, HZ0.o]
    exact ⟨hbW, rfl⟩
theorem Gd {w : World} {na : Option Addr} {ns : List (List UInt8)} (h : Ng w na ns) {i : Nat} (hi : i < ns.length) : ∃ b o, na = some ⟨b, o, none⟩ ∧ b < w.heap.size ∧ w.cell? ⟨b, o + i, none⟩ = some (.string ⟨ns[i].toArray⟩) := by
 rcases h with rfl | ⟨b, o, e, hb, hc⟩
 ·cases hi
 ·exact ⟨b, o, e, hb, hc i hi⟩
theorem G4 (na nb : Option Addr) (ca cb : Nat) (ns : List (List UInt8)) (w : World) (ha : Ng w na ns) (hb : Ng w nb ns) (hl : ns.length ≤ 140737488351232) :
  Calls prog 27 #[.slice na ns.length ca, .slice nb ns.length cb] w fun e w' => e = .returned (.bool true) ∧ ∃ q, w' = w.drewN q := by
 have HA := Za ha
 have HB := Za hb
 have e1 : ((ns.length : Int) != (ns.length : Int)) = false := by simp
 clear ha hb
 go_enter func27, ntmps27
 go_wp2_with fail
 go_loopw [5] (fun i wx => ∃ j q : Nat, i = .int .i64 j ∧ j ≤ ns.length ∧ wx = w.drewN q) (fun i _ => ns.length - (intOf i).toNat)
 case atStart => exact ⟨0, 0, rfl, xZ _, rfl⟩
 case round =>
  obtain ⟨j, q, rfl, hj, rfl⟩ := hrel
  by_cases hlt : j < ns.length
  ·have hjl : (j : Int) < (ns.length : Int) := by omega
   obtain ⟨b, o, rfl, hbl, hc⟩ := Gd HA.o hlt
   obtain ⟨b', o', rfl, hbl', hc'⟩ := Gd HB.o hlt
   obtain ⟨S1, hS1⟩ : ∃ S1 : ByteArray, S1 = ⟨ns[j].toArray⟩ := ⟨_, rfl⟩
   rw [← hS1] at hc hc'
   have e5 : (S1.toList == S1.toList) = true := by simp
   clear hS1
   go_wp2_with fail
   go_quiet (fail)
   go_wp2_with fail
   exact ⟨⟨j + 1, _, by go_num, by omega, rfl⟩, by simp [intOf]; omega⟩
  ·have hjl : ¬ (j : Int) < (ns.length : Int) := by omega
   go_wp2_with fail
   go_ret
   exact ⟨rfl, q, rfl⟩
def Du (n : Nat) : Prop := ∀ (va vb : Value) (D : Ty) (w : World), Mg w false n va D → Mg w false n vb D → Calls prog 62 #[va, vb] w fun e w' => e = .returned (.bool true) ∧ Below w.heap.size w w'
theorem Sk (n : Nat) (ih : Du n) (ka kb : Option Addr) (ca cb : Nat) (ks : List Ty) (w : World) (ha : Bh w false n ka ks) (hb : Bh w false n kb ks) (hl : ks.length ≤ 140737488351232) :
  Calls prog 28 #[.slice ka ks.length ca, .slice kb ks.length cb] w fun e w' => e = .returned (.bool true) ∧ Below w.heap.size w w' := by
 have HA := Za ha
 have HB := Za hb
 have IH := Za ih
 have e1 : ((ks.length : Int) != (ks.length : Int)) = false := by simp
 clear ha hb ih
 go_enter func28, ntmps28
 go_wp2_with fail
 go_loopw [5] (fun i wx => ∃ j : Nat, i = .int .i64 j ∧ j ≤ ks.length ∧ xQ (Below w.heap.size w wx)) (fun i _ => ks.length - (intOf i).toNat)
 case atStart => exact ⟨0, rfl, xZ _, Below.refl _ _⟩
 case round =>
  obtain ⟨j, rfl, hj, hbl⟩ := hrel
  by_cases hlt : j < ks.length
  ·have hjl : (j : Int) < (ks.length : Int) := by omega
   obtain ⟨b, o, k1, nm1, na1, nl1, nc1, la1, ll1, lc1, rfl, hb1, q0, q1, q2, q3, ht1⟩ := Fs HA.o hlt
   obtain ⟨b', o', k2, nm2, na2, nl2, nc2, la2, ll2, lc2, rfl, hb2, p0, p1, p2, p3, ht2⟩ := Fs HB.o hlt
   have HSK : xQ (∀ wx, Below wr.heap.size wr wx → wx.cell? ⟨b, o + j * 4, none⟩ = some (.int .i64 k1) ∧ wx.cell? ⟨b, o + j * 4 + 1, none⟩ = some (.string nm1) ∧ wx.cell? ⟨b, o + j * 4 + 2, none⟩ = some (.slice na1 nl1 nc1) ∧ wx.cell? ⟨b, o + j * 4 + 3, none⟩ = some (.slice la1 ll1 lc1) ∧ wx.cell? ⟨b', o' + j * 4, none⟩ = some (.int .i64 k2) ∧ wx.cell? ⟨b', o' + j * 4 + 1, none⟩ = some (.string nm2) ∧ wx.cell? ⟨b', o' + j * 4 + 2, none⟩ = some (.slice na2 nl2 nc2) ∧ wx.cell? ⟨b', o' + j * 4 + 3, none⟩ = some (.slice la2 ll2 lc2)) := fun wx hwx => by
    have hB := Zn hbl.o hwx
    exact ⟨(hB.cell (p := ⟨b, o + j * 4, none⟩) hb1).trans q0, (hB.cell (p := ⟨b, o + j * 4 + 1, none⟩) hb1).trans q1, (hB.cell (p := ⟨b, o + j * 4 + 2, none⟩) hb1).trans q2, (hB.cell (p := ⟨b, o + j * 4 + 3, none⟩) hb1).trans q3, (hB.cell (p := ⟨b', o' + j * 4, none⟩) hb2).trans p0, (hB.cell (p := ⟨b', o' + j * 4 + 1, none⟩) hb2).trans p1, (hB.cell (p := ⟨b', o' + j * 4 + 2, none⟩) hb2).trans p2, (hB.cell (p := ⟨b', o' + j * 4 + 3, none⟩) hb2).trans p3⟩
   have HC : xQ (∀ wx, Below wr.heap.size wr wx → Calls prog 62 #[.agg #[.int .i64 k1, .string nm1, .slice na1 nl1 nc1, .slice la1 ll1 lc1], .agg #[.int .i64 k2, .string nm2, .slice na2 nl2 nc2, .slice la2 ll2 lc2]] wx fun e w' => e = .returned (.bool true) ∧ Below wr.heap.size wr w') := fun wx hwx =>
    (IH.o _ _ ks[j] wx (Jt ht1 (Zn hbl.o hwx)) (Jt ht2 (Zn hbl.o hwx))).mono fun e w' ⟨e1, e2⟩ => ⟨e1, Zn hwx e2⟩
   have hS0 := HSK.o wr.drew (Below.refl _ _).drew
   clear q0 q1 q2 q3 p0 p1 p2 p3 ht1 ht2
   go_wp2_with fail
   go_region_held (fun W => W.cell? ⟨b, o + j * 4, none⟩ = some (.int .i64 k1) ∧ W.cell? ⟨b, o + j * 4 + 1, none⟩ = some (.string nm1) ∧ W.cell? ⟨b, o + j * 4 + 2, none⟩ = some (.slice na1 nl1 nc1) ∧ W.cell? ⟨b, o + j * 4 + 3, none⟩ = some (.slice la1 ll1 lc1) ∧ W.cell? ⟨b', o' + j * 4, none⟩ = some (.int .i64 k2) ∧ W.cell? ⟨b', o' + j * 4 + 1, none⟩ = some (.string nm2) ∧ W.cell? ⟨b', o' + j * 4 + 2, none⟩ = some (.slice na2 nl2 nc2) ∧ W.cell? ⟨b', o' + j * 4 + 3, none⟩ = some (.slice la2 ll2 lc2)) (assumption) (first
    | (go_at_call 62; refine (HC.o _ (by first | exact Below.refl _ _ | exact below_drewN (Below.refl _ _) _ | exact (Below.refl _ _).drew)).mono ?_; rintro e w5 ⟨rfl, hb5⟩; have t5 := HSK.o _ hb5; have HB5 := Za hb5; clear hb5))
   all_goals go_wp2_with fail
   all_goals exact ⟨⟨j + 1, by go_num, by omega, Zn hbl.o HB5.o⟩, by simp [intOf]; omega⟩
  ·have hjl : ¬ (j : Int) < (ks.length : Int) := by omega
   go_wp2_with fail
   go_ret
   exact ⟨rfl, hbl.o⟩
theorem G3 : ∀ n, Du n
 | 0 => fun _ _ _ _ h => h.elim
 | n + 1 => fun va vb D w h h' => by
  obtain ⟨k, nm, na, nc, ka, kc, ns, ks, rfl, rfl, _, _, _, ⟨_, hnl⟩, ⟨_, hkl⟩, hns, hks⟩ := h
  obtain ⟨k', nm', na', nc', ka', kc', ns', ks', rfl, e, _, _, _, _, _, hns', hks'⟩ := h'
  obtain ⟨rfl, e2, rfl, rfl⟩ := Kf e
  obtain rfl : nm = nm' := by cases nm; cases nm'; simp at e2; rw [e2]
  have hl1 : ns.length ≤ 140737488351232 := hnl
  have hl2 : ks.length ≤ 140737488351232 := hkl
  have hb0 : Below w.heap.size w ((w.alloc (Zq k nm na ns.length nc ka ks.length kc)).alloc (Zq k nm na' ns.length nc' ka' ks.length kc')) := Zn (Zl _ _) (Zl _ _)
  obtain ⟨W, hW⟩ := xE ((w.alloc (Zq k nm na ns.length nc ka ks.length kc)).alloc (Zq k nm na' ns.length nc' ka' ks.length kc'))
  have hxa : W.heap[w.heap.size]? = some (Zq k nm na ns.length nc ka ks.length kc) := by rw [hW]; exact (xA (by simp)).trans (xL w _)
  have hxb : W.heap[w.heap.size + 1]? = some (Zq k nm na' ns.length nc' ka' ks.length kc') := by rw [hW]; exact Wn w _ _
  rw [← hW] at hb0
  have HC1 := Za (G4 na na' nc nc' ns W (Lc hns hb0) (Lc hns' hb0) hl1)
  have HC2 : xQ (∀ wx, Below W.heap.size W wx → Calls prog 28 #[.slice ka ks.length kc, .slice ka' ks.length kc'] wx fun e w' => e = .returned (.bool true) ∧ Below wx.heap.size wx w') := fun wx hwx => Sk n (G3 n) ka ka' kc kc' ks wx (Kg hks (Zn hb0 hwx)) (Kg hks' (Zn hb0 hwx)) hl2
  have HXA := Za hxa
  have HXB := Za hxb
  have HN1 : xQ (∀ w1, (∃ q, w1 = W.drewN q) → xQ (Below W.heap.size W w1) ∧ xQ (∀ wx, Below w1.heap.size w1 wx → wx.cell? ⟨w.heap.size, 0, none⟩ = some (.int .i64 k) ∧ wx.cell? ⟨w.heap.size, 1, none⟩ = some (.string nm) ∧ wx.cell? ⟨w.heap.size, 3, none⟩ = some (.slice ka ks.length kc) ∧ wx.cell? ⟨w.heap.size + 1, 0, none⟩ = some (.int .i64 k) ∧ wx.cell? ⟨w.heap.size + 1, 1, none⟩ = some (.string nm) ∧ wx.cell? ⟨w.heap.size + 1, 3, none⟩ = some (.slice ka' ks.length kc'))) := by
   rintro w1 ⟨q, rfl⟩
   refine ⟨below_drewN (Below.refl _ _) _, fun wx hwx => ?_⟩
   have hB := Zn (below_drewN (Below.refl W.heap.size W) q) hwx
   have hs : W.heap.size = w.heap.size + 2 := by rw [hW]; simp
   have ha : ∀ o, wx.cell? ⟨w.heap.size, o, none⟩ = W.cell? ⟨w.heap.size, o, none⟩ := fun o => hB.cell (p := ⟨w.heap.size, o, none⟩) (by show w.heap.size < W.heap.size; omega)
   have hb : ∀ o, wx.cell? ⟨w.heap.size + 1, o, none⟩ = W.cell? ⟨w.heap.size + 1, o, none⟩ := fun o => hB.cell (p := ⟨w.heap.size + 1, o, none⟩) (by show w.heap.size + 1 < W.heap.size; omega)
   rw [ha, ha, ha, hb, hb, hb]
   simp [World.cell?, hxa, hxb, Zq]
  have HB0 := Za hb0
  subst hW
  have e3 : (nm.toList == nm.toList) = true := by simp
  clear hns hns' hks hks' hb0 hxa hxb e e2 hnl hkl
  go_enter func62, ntmps62
  go_wp2_with fail
  refine HC1.o.mono ?_
  rintro e w1 ⟨rfl, hq⟩
  obtain ⟨HB1, HS1⟩ := HN1.o _ hq
  obtain ⟨a0, a1, a3, b0, b1, b3⟩ := HS1.o w1 (Below.refl _ _)
  clear hq
  go_wp2_with fail
  refine (HC2.o w1 HB1.o).mono ?_
  rintro e w2 ⟨rfl, hb2⟩
  obtain ⟨a0, a1, a3, b0, b1, b3⟩ := HS1.o w2 hb2
  have HB2 := Za hb2
  clear hb2
  go_wp2_with fail
  go_ret
  exact ⟨rfl, Zn HB0.o (Zn HB1.o HB2.o)⟩
theorem zew {w : World} {lo n : Nat} {v : Value} {D : Ty} (h : Uh w lo n v D) : Mg w false n v D := by
 induction n generalizing v D with
 | zero => exact h.elim
 | succ n ih =>
  obtain ⟨k, nm, na, nc, ka, kc, ns, ks, h1, h2, h3, h4, h5, h6, h7, h8, h9⟩ := h
  refine ⟨k, nm, na, nc, ka, kc, ns, ks, h1, h2, h3, h4, h5, h6, h7, h8.at, ?_⟩
  rcases h9 with h9 | ⟨b, o, e, _, hcl, hc⟩
  ·exact .inl h9
  ·refine .inr ⟨b, o, e, Ux hcl, Di hcl, (fun e => by cases e), fun i hi => ?_⟩
   obtain ⟨c0, c1, c2, c3, e0, e1, e2, e3, ht⟩ := hc i hi
   exact ⟨c0, c1, c2, c3, e0, e1, e2, e3, ih ht⟩
theorem Ge {w : World} {lo n : Nat} {ka : Option Addr} {ks : List Ty} (h : Xw w lo n ka ks) : Bh w false n ka ks := by
 rcases h with h9 | ⟨b, o, e, _, hcl, hc⟩
 ·exact .inl h9
 ·refine .inr ⟨b, o, e, Ux hcl, Di hcl, (fun e => by cases e), fun i hi => ?_⟩
  obtain ⟨c0, c1, c2, c3, e0, e1, e2, e3, ht⟩ := hc i hi
  exact ⟨c0, c1, c2, c3, e0, e1, e2, e3, zew ht⟩
def Iy (n : Nat) : Prop := ∀ (x y : NV) (D : Ty) (lo lo' : Nat) (w : World), Um w lo n x D → Um w lo' n y D → Calls prog 11 #[x.val, y.val] w fun e w' => e = .returned (.bool true) ∧ Below w.heap.size w w'
theorem D8 : ∀ n, Iy n
 | 0 => fun _ _ _ _ _ _ h => h.elim
 | n + 1 => fun x y D lo lo' w h h' => by
  obtain ⟨tys, ns, ks, hD, ⟨hx1, hx2, hx3⟩, ⟨hl1, hl2, hl3⟩, ht, hn, hk⟩ := h
  obtain ⟨tys', ns', ks', hD', ⟨hy1, hy2, hy3⟩, _, ht', hn', hk'⟩ := h'
  obtain ⟨k, tx, N, li, co, ta, tl, tc, na, nl, nc, ka, kl, kc⟩ := x
  obtain ⟨k', tx', N', li', co', ta', tl', tc', na', nl', nc', ka', kl', kc'⟩ := y
  dsimp only at hD hD' hx1 hx2 hx3 hy1 hy2 hy3 ht hn hk ht' hn' hk'
  obtain ⟨rfl, e2, rfl, rfl, rfl, rfl, rfl, rfl⟩ := Kl (hD.symm.trans hD')
  obtain rfl : tx = tx' := by cases tx; cases tx'; simp at e2; rw [e2]
  subst hx1 hx2 hx3 hy1 hy2 hy3
  clear hD hD' e2
  obtain ⟨W, hW⟩ := xE ((w.alloc (NV.obj ⟨k, tx, N, li, co, ta, tys.length, tc, na, ns.length, nc, ka, ks.length, kc⟩)).alloc (NV.obj ⟨k, tx, N, li, co, ta', tys.length, tc', na', ns.length, nc', ka', ks.length, kc'⟩))
  have hb0 : Below w.heap.size w W := by rw [hW]; exact Zn (Zl _ _) (Zl _ _)
  have HXA : xQ (W.heap[w.heap.size]? = some (NV.obj ⟨k, tx, N, li, co, ta, tys.length, tc, na, ns.length, nc, ka, ks.length, kc⟩)) := by rw [hW]; exact (xA (by simp)).trans (xL w _)
  have HXB : xQ (W.heap[w.heap.size + 1]? = some (NV.obj ⟨k, tx, N, li, co, ta', tys.length, tc', na', ns.length, nc', ka', ks.length, kc'⟩)) := by rw [hW]; exact Wn w _ _
  have HC1 := Za (G4 na na' nc nc' ns W (Lc hn.at hb0) (Lc hn'.at hb0) (by omega))
  have HC2 : xQ (∀ wx, Below W.heap.size W wx → Calls prog 28 #[.slice ta tys.length tc, .slice ta' tys.length tc'] wx fun e w' => e = .returned (.bool true) ∧ Below wx.heap.size wx w') := fun wx hwx => Sk n (G3 n) ta ta' tc tc' tys wx (Kg (Ge ht) (Zn hb0 hwx)) (Kg (Ge ht') (Zn hb0 hwx)) (by omega)
  have zhu : xQ (∀ wx, Below W.heap.size W wx → wx.heap[w.heap.size]? = some (NV.obj ⟨k, tx, N, li, co, ta, tys.length, tc, na, ns.length, nc, ka, ks.length, kc⟩) ∧ wx.heap[w.heap.size + 1]? = some (NV.obj ⟨k, tx, N, li, co, ta', tys.length, tc', na', ns.length, nc', ka', ks.length, kc'⟩)) := fun wx hwx => ⟨(hwx.block _ (xB HXA.o)).trans HXA.o, (hwx.block _ (xB HXB.o)).trans HXB.o⟩
  have HKA := Za (Dv hk hb0)
  have HKB := Za (Dv hk' hb0)
  have HB0 := Za hb0
  have IH := Za (D8 n)
  have e3 : (tx.toList == tx.toList) = true := by simp
  have hks : ks.length ≤ 100000 := hl3
  clear ht hn hk ht' hn' hk' hb0 hl1 hl2 hl3
  obtain ⟨⟨x0, x1, x2, x3, x4, x5, x6, x7⟩, _, hltx⟩ := Zh HXA.o
  obtain ⟨⟨y0, y1, y2, y3, y4, y5, y6, y7⟩, _, hlty⟩ := Zh HXB.o
  go_enter func11, ntmps11
  go_wp2_with fail
  rw [← hW]
  clear hW
  refine HC1.o.mono ?_
  rintro e w1 ⟨rfl, q, rfl⟩
  have hb1 : Below W.heap.size W (W.drewN q) := below_drewN (Below.refl _ _) q
  have HB1 := Za hb1
  clear hb1
  go_wp2_with fail
  refine (HC2.o _ HB1.o).mono ?_
  rintro e w2 ⟨rfl, hb2⟩
  have HB2 := Za (Zn HB1.o hb2)
  clear hb2
  obtain ⟨⟨x0, x1, x2, x3, x4, x5, x6, x7⟩, _, hltx⟩ := Zh (zhu.o w2 HB2.o).1
  obtain ⟨⟨y0, y1, y2, y3, y4, y5, y6, y7⟩, _, hlty⟩ := Zh (zhu.o w2 HB2.o).2
  go_wp2_with fail
  go_loopw [7] (fun i wx => ∃ j : Nat, i = .int .i64 j ∧ j ≤ ks.length ∧ xQ (Below W.heap.size W wx)) (fun i _ => ks.length - (intOf i).toNat)
  case atStart => exact ⟨0, rfl, xZ _, HB2⟩
  case round =>
   obtain ⟨j, rfl, hj, hbl⟩ := hrel
   clear x0 x1 x2 x3 x4 x5 x6 x7 y0 y1 y2 y3 y4 y5 y6 y7
   obtain ⟨⟨x0, x1, x2, x3, x4, x5, x6, x7⟩, _, hltx⟩ := Zh (zhu.o wr hbl.o).1
   obtain ⟨⟨y0, y1, y2, y3, y4, y5, y6, y7⟩, _, hlty⟩ := Zh (zhu.o wr hbl.o).2
   clear x0 x1 x2 x3 x4 x5 x6 y0 y1 y2 y3 y4 y5 y6
   by_cases hlt : j < ks.length
   ·have hjl : (j : Int) < (ks.length : Int) := by omega
    obtain ⟨b, o, u, rfl, hb1, hc1, ht1⟩ := Fq HKA.o hlt
    obtain ⟨b', o', v, rfl, hb2, hc2, ht2⟩ := Fq HKB.o hlt
    have HSK : xQ (∀ wx, Below wr.heap.size wr wx → wx.cell? ⟨w.heap.size, 7, none⟩ = some (.slice (some ⟨b, o, none⟩) ks.length kc) ∧ wx.cell? ⟨w.heap.size + 1, 7, none⟩ = some (.slice (some ⟨b', o', none⟩) ks.length kc') ∧ wx.cell? ⟨b, o + j * 8, none⟩ = some (.int .i64 u.k) ∧ wx.cell? ⟨b, o + j * 8 + 1, none⟩ = some (.string u.tx) ∧ wx.cell? ⟨b, o + j * 8 + 2, none⟩ = some (.int .i64 u.N) ∧ wx.cell? ⟨b, o + j * 8 + 3, none⟩ = some (.int .i64 u.li) ∧ wx.cell? ⟨b, o + j * 8 + 4, none⟩ = some (.int .i64 u.co) ∧ wx.cell? ⟨b, o + j * 8 + 5, none⟩ = some (.slice u.ta u.tl u.tc) ∧ wx.cell? ⟨b, o + j * 8 + 6, none⟩ = some (.slice u.na u.nl u.nc) ∧ wx.cell? ⟨b, o + j * 8 + 7, none⟩ = some (.slice u.ka u.kl u.kc) ∧ wx.cell? ⟨b', o' + j * 8, none⟩ = some (.int .i64 v.k) ∧ wx.cell? ⟨b', o' + j * 8 + 1, none⟩ = some (.string v.tx) ∧ wx.cell? ⟨b', o' + j * 8 + 2, none⟩ = some (.int .i64 v.N) ∧ wx.cell? ⟨b', o' + j * 8 + 3, none⟩ = some (.int .i64 v.li) ∧ wx.cell? ⟨b', o' + j * 8 + 4, none⟩ = some (.int .i64 v.co) ∧ wx.cell? ⟨b', o' + j * 8 + 5, none⟩ = some (.slice v.ta v.tl v.tc) ∧ wx.cell? ⟨b', o' + j * 8 + 6, none⟩ = some (.slice v.na v.nl v.nc) ∧ wx.cell? ⟨b', o' + j * 8 + 7, none⟩ = some (.slice v.ka v.kl v.kc)) := fun wx hwx => by
     have hB := Zn hbl.o hwx
     have g1 := hc1.keep (hB.block b hb1)
     have g2 := hc2.keep (hB.block b' hb2)
     refine ⟨(Zh (zhu.o wx hB).1).1.2.2.2.2.2.2.2, (Zh (zhu.o wx hB).2).1.2.2.2.2.2.2.2, ?_⟩
     obtain ⟨p0, p1, p2, p3, p4, p5, p6, p7⟩ := g1
     exact ⟨p0, p1, p2, p3, p4, p5, p6, p7, g2⟩
    have HC : xQ (∀ wx, Below wr.heap.size wr wx → Calls prog 11 #[u.val, v.val] wx fun e w' => e = .returned (.bool true) ∧ Below wr.heap.size wr w') := fun wx hwx =>
     (IH.o _ _ ks[j] lo lo' wx (As ht1 (Zn hbl.o hwx)) (As ht2 (Zn hbl.o hwx))).mono fun e w' ⟨e1, e2⟩ => ⟨e1, Zn hwx e2⟩
    have hS0 := HSK.o wr.drew (Below.refl _ _).drew
    clear hc1 hc2 ht1 ht2
    go_wp2_with fail
    go_region_held (fun W => W.cell? ⟨w.heap.size, 7, none⟩ = some (.slice (some ⟨b, o, none⟩) ks.length kc) ∧ W.cell? ⟨w.heap.size + 1, 7, none⟩ = some (.slice (some ⟨b', o', none⟩) ks.length kc') ∧ W.cell? ⟨b, o + j * 8, none⟩ = some (.int .i64 u.k) ∧ W.cell? ⟨b, o + j * 8 + 1, none⟩ = some (.string u.tx) ∧ W.cell? ⟨b, o + j * 8 + 2, none⟩ = some (.int .i64 u.N) ∧ W.cell? ⟨b, o + j * 8 + 3, none⟩ = some (.int .i64 u.li) ∧ W.cell? ⟨b, o + j * 8 + 4, none⟩ = some (.int .i64 u.co) ∧ W.cell? ⟨b, o + j * 8 + 5, none⟩ = some (.slice u.ta u.tl u.tc) ∧ W.cell? ⟨b, o + j * 8 + 6, none⟩ = some (.slice u.na u.nl u.nc) ∧ W.cell? ⟨b, o + j * 8 + 7, none⟩ = some (.slice u.ka u.kl u.kc) ∧ W.cell? ⟨b', o' + j * 8, none⟩ = some (.int .i64 v.k) ∧ W.cell? ⟨b', o' + j * 8 + 1, none⟩ = some (.string v.tx) ∧ W.cell? ⟨b', o' + j * 8 + 2, none⟩ = some (.int .i64 v.N) ∧ W.cell? ⟨b', o' + j * 8 + 3, none⟩ = some (.int .i64 v.li) ∧ W.cell? ⟨b', o' + j * 8 + 4, none⟩ = some (.int .i64 v.co) ∧ W.cell? ⟨b', o' + j * 8 + 5, none⟩ = some (.slice v.ta v.tl v.tc) ∧ W.cell? ⟨b', o' + j * 8 + 6, none⟩ = some (.slice v.na v.nl v.nc) ∧ W.cell? ⟨b', o' + j * 8 + 7, none⟩ = some (.slice v.ka v.kl v.kc)) (with_reducible assumption) (first
     | (go_at_call 11; refine (HC.o _ (by first | exact Below.refl _ _ | exact below_drewN (Below.refl _ _) _ | exact (Below.refl _ _).drew)).mono ?_; rintro e w5 ⟨rfl, hb5⟩; have t5 := HSK.o _ hb5; have HB5 := Za hb5; clear hb5))
    all_goals go_wp2_with fail
    all_goals exact ⟨⟨j + 1, by go_num, by omega, Zn hbl.o HB5.o⟩, by simp [intOf]; omega⟩
   ·have hjl : ¬ (j : Int) < (ks.length : Int) := by omega
    go_wp2_with fail
    go_ret
    exact ⟨rfl, Zn HB0.o hbl.o⟩
def ndT : Ty ⊕ (Int × Nat × Nat) → Ty
 | .inl D => D
 | .inr _ => Zi 0 [] 0 0 0 [] [] []
def dgN : Ty ⊕ (Int × Nat × Nat) → Int × Nat × Nat
 | .inl _ => (0, 0, 0)
 | .inr p => p
theorem A1 {w : World} {R : Ty ⊕ (Int × Nat × Nat)} {e : Ending} {w' : World} (h : Tx w Ze.val Zo R e w') : Below w.heap.size w w' ∧ ∃ x : NV, e = .returned (.tuple #[x.val, Vx (dgN R).2.1 (dgN R).2.2 (dgN R).1]) ∧ Zv w.heap.size w' x (ndT R) := by
 obtain ⟨hb, hm⟩ := h
 refine ⟨hb, ?_⟩
 cases R with
 | inl D =>
  obtain ⟨v, rfl, x, rfl, hv⟩ := hm
  exact ⟨x, rfl, hv⟩
 | inr p =>
  obtain ⟨er, li, co⟩ := p
  exact ⟨Ze, hm, 1, [], [], [], rfl, ⟨rfl, rfl, rfl⟩, ⟨xZ _, xZ _, xZ _⟩, .inl rfl, .inl rfl, .inl rfl⟩
theorem parseExprs_walk (a : ByteArray) (w : World) (hw : Jm w) (hs : a.size ≤ 140737488351232) :
  Calls prog 3 #[.string a] w fun e w' => e = .returned (.bool true) ∧ Below w.heap.size w w' := by
 have HW := Za hw
 have HA := Za (zds w hw)
 clear hw
 have hz : ((a.size : Int) ≤ 9223372036854775807) := by omega
 go_enter func3, ntmps3
 go_wp2_with fail
 refine HA.o.mono ?_
 rintro e w1 ⟨rfl, hb1⟩
 have HB1 := Za hb1
 clear hb1 HA
 by_cases hlong : (70000 : Int) < (a.size : Int)
 ·go_wp2_with fail
  go_ret
  exact ⟨rfl, HB1.o⟩
 go_wp2_with fail
 obtain ⟨R, hR⟩ := xE (Ui a.data.toList)
 have HR := Za hR
 refine (Gh a hs _ (HW.o.lx.below HB1.o)).mono ?_
 rw [← hR]
 clear hR
 intro e w2 zhm
 obtain ⟨hb2, x, rfl, hv1⟩ := A1 zhm
 have HB2 := Za (Zn HB1.o hb2)
 have HV1 := Za hv1
 clear zhm hb2 hv1
 obtain ⟨li, hli⟩ := xE ((dgN R).2.1)
 obtain ⟨co, hco⟩ := xE ((dgN R).2.2)
 obtain ⟨er, her⟩ := xE ((dgN R).1)
 rw [← hli, ← hco, ← her]
 have HG := Za (And.intro hli (And.intro hco her))
 clear hli hco her
 have hB2 := Zn (Zl w2 x.obj) (Zl _ (Xn li co er))
 have HBw := Za (Zn HB2.o hB2)
 have HAw := Za ((Below.heap_alloc (w2.alloc x.obj) (Xn li co er) _ (by rw [xS]; omega)).trans (xL w2 x.obj))
 have HDw := Za (Wn w2 x.obj (Xn li co er))
 have HVw := Za ((HV1.o.alloc x.obj).alloc (Xn li co er))
 clear hB2 HV1 HB2
 go_wp2_with fail
 obtain ⟨ab, hab⟩ := xE w2.heap.size
 rw [← hab] at HAw HDw ⊢
 clear hab
 generalize (w2.alloc (.cells #[.int .i64 x.k, .string x.tx, .int .i64 x.N, .int .i64 x.li, .int .i64 x.co, .slice x.ta x.tl x.tc, .slice x.na x.nl x.nc, .slice x.ka x.kl x.kc] 27)).alloc (.cells #[.int .i64 0, .int .i64 li, .int .i64 co, .int .i64 er] 30) = W2 at HBw HAw HDw HVw ⊢
 refine (zgm a hs _).mono ?_
 rw [← HR.o]
 intro e w3 zhm
 obtain ⟨hb3, y, rfl, hv2⟩ := A1 zhm
 rw [← HG.o.1, ← HG.o.2.1, ← HG.o.2.2]
 have hB3 := Zn hb3 (Zn (Zl w3 y.obj) (Zl _ (Xn li co er)))
 have HB3 := Za (Zn HBw.o hB3)
 have HA3 := Za ((hB3.block _ (xB HAw.o)).trans HAw.o)
 have HD3 := Za ((hB3.block _ (xB HDw.o)).trans HDw.o)
 have HV3 := Za (HVw.o.keep hB3.size fun b _ hl => hB3.block b hl)
 have HE3 := Za ((Below.heap_alloc (w3.alloc y.obj) (Xn li co er) _ (by rw [xS]; omega)).trans (xL w3 y.obj))
 have HF3 := Za (Wn w3 y.obj (Xn li co er))
 have HU3 := Za ((hv2.alloc y.obj).alloc (Xn li co er))
 have HS2 := Za HBw.o.size
 clear zhm hb3 hv2 hB3 HBw HAw HDw HVw
 obtain ⟨⟨a0, a1, a2, a3, a4, a5, a6, a7⟩, _, hla⟩ := Zh HA3.o
 obtain ⟨⟨e0, e1, e2, e3, e4, e5, e6, e7⟩, _, hle⟩ := Zh HE3.o
 have hw0 := HB3.o.size
 have HSz : xQ (((w3.alloc y.obj).alloc (Xn li co er)).heap.size = w3.heap.size + 1 + 1) := by show _ = _; rw [xS, xS]
 have HW1 : xQ (w.heap.size ≤ w1.heap.size) := HB1.o.size
 have HW2 : xQ (w.heap.size ≤ W2.heap.size) := HS2.o
 go_wp2_with fail
 generalize (w3.alloc (.cells #[.int .i64 y.k, .string y.tx, .int .i64 y.N, .int .i64 y.li, .int .i64 y.co, .slice y.ta y.tl y.tc, .slice y.na y.nl y.nc, .slice y.ka y.kl y.kc] 27)).alloc (.cells #[.int .i64 0, .int .i64 li, .int .i64 co, .int .i64 er] 30) = W3 at HB3 HA3 HD3 HV3 HE3 HF3 HU3 hla hle a0 a1 a2 a3 a4 a5 a6 a7 e0 e1 e2 e3 e4 e5 e6 e7 hw0 HSz ⊢
 clear a0 a1 a2 a3 a4 a5 a6 a7 e0 e1 e2 e3 e4 e5 e6 e7
 obtain ⟨m1, hx⟩ := HV3.o
 obtain ⟨m2, hy⟩ := HU3.o
 refine (D8 (max m1 m2) x y _ _ _ _ (Qh hx (Nat.le_max_left _ _)) (Qh hy (Nat.le_max_right _ _))).mono ?_
 rintro e w4 ⟨rfl, hb4⟩
 have HB4 := Za (Zn HB3.o hb4)
 obtain ⟨⟨d0, d1, d2, d3⟩, _, hdl⟩ := Zr ((hb4.block _ (xB HD3.o)).trans HD3.o)
 obtain ⟨⟨f0, f1, f2, f3⟩, _, hfl⟩ := Zr ((hb4.block _ (xB HF3.o)).trans HF3.o)
 clear hx hy hb4
 go_wp2_with fail
 go_ret
 exact ⟨rfl, HB4.o⟩
end Go.Proofs.YtbnjllkkhhkkaaaGreatDoor
