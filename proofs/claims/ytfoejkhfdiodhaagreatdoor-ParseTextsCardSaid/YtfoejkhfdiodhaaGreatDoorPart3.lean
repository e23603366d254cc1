/- Part. -/
import Derived.Deep.RegionHeld
import Derived.Deep.RegionWith
import Derived.RegionTactic
import Derived.Test.YtfoejkhfdiodhaaGreatDoorPart2
set_option maxRecDepth 100000
set_option maxHeartbeats 4000000
namespace Go.Proofs.YtfoejkhfdiodhaaGreatDoor
open Go.Proofs.Tryz
open Go.RowKit
theorem hY {w0 wr : World} {n : Nat} {v : Value} {Ds : List Ty} {ps : List (Value × List Ty)} {vs : List Value} (h : Qy w0 wr true n v Ds ps vs) (Z3 : Ds ≠ []) : 1 + Bm n ps = Nj (Ds.map (Ud (n + 1))) := by
 apply Nat.le_antisymm
 ·have h1 : Bm n ps <= Nj (Ds.map (Ud (n + 1))) - 1 := by
   refine E3 fun a ha => ?_
   obtain ⟨p, hp, rfl⟩ := List.mem_map.1 ha;obtain ⟨D, hD, e⟩ := h.fr p hp;have := Dq (List.mem_map.2 ⟨D, hD, rfl⟩ : Ud (n + 1) D ∈ Ds.map (Ud (n + 1)));rw [Ud] at this;rw [e];omega
  obtain ⟨D, rest, e⟩ := List.exists_cons_of_ne_nil Z3;have h2 := Dq (List.mem_map.2 ⟨D, by rw [e]; simp, rfl⟩ : Ud (n + 1) D ∈ Ds.map (Ud (n + 1)));rw [Ud] at h2;omega
 ·refine E3 fun a ha => ?_
  obtain ⟨D, hD, rfl⟩ := List.mem_map.1 ha;rw [Ud];by_cases hk : Ms D = []
  ·rw [hk]
   simp [Nj]
  ·obtain ⟨p, hp, e⟩ := h.al rfl D hD hk
   have := Dq (List.mem_map.2 ⟨p, hp, rfl⟩ : Nj (p.2.map (Ud n)) ∈ ps.map fun p => Nj (p.2.map (Ud n)));rw [e] at this;unfold Bm;omega
theorem hH {w : World} {u : Bool} {n : Nat} {ps : List (Value × List Ty)} (h : ∀ p ∈ ps, Bw w u n p.1 p.2) (Z3 : ps ≠ []) : 1 <= Bm n ps := by
 obtain ⟨p, rest, rfl⟩ := List.exists_cons_of_ne_nil Z3
 obtain ⟨b, o, c, _, Wl, _, hk⟩ := h p (by simp)
 obtain ⟨D, ks, e⟩ := List.exists_cons_of_ne_nil Wl
 have hm : ∃ m, n = m + 1 := by
  rcases hk with hk | ⟨_, _, _, _, hc⟩
  ·exact absurd hk Wl
  ·obtain ⟨_, _, _, _, _, _, _, _, ht⟩ := hc 0 (List.length_pos_iff.2 Wl)
   cases n with
   | zero => exact ht.elim
   | succ m => exact ⟨m, rfl⟩
 obtain ⟨m, rfl⟩ := hm
 have h1 := Dq (List.mem_map.2 ⟨D, by rw [e]; simp, rfl⟩ : Ud (m + 1) D ∈ p.2.map (Ud (m + 1)))
 have h2 := Dq (List.mem_map.2 ⟨p, by simp, rfl⟩ : Nj (p.2.map (Ud (m + 1))) ∈ (p :: rest).map fun p => Nj (p.2.map (Ud (m + 1))))
 rw [Ud] at h1
 unfold Bm
 omega
theorem jY {w : World} {u : Bool} {n : Nat} {ps : List (Value × List Ty)} (h : ∀ p ∈ ps, Bw w u n p.1 p.2) (Z3 : ps ≠ []) : (ps.map (·.2)).flatten ≠ [] := by
 obtain ⟨p, rest, rfl⟩ := List.exists_cons_of_ne_nil Z3
 obtain ⟨b, o, c, _, Wl, _, hk⟩ := h p (by simp)
 simp [Wl]
def El (w : World) (u : Bool) (m : Nat) (v : Value) (ps : List (Value × List Ty)) : Prop :=
 ∃ a c, v = .slice a ps.length c /\ Eo w a (ps.map (·.1)) /\ (∀ p ∈ ps, Bw w u m p.1 p.2) /\ Gf m ps <= 1000
theorem hZ {w0 wr : World} {u : Bool} {n : Nat} {v : Value} {Ds : List Ty} {ps : List (Value × List Ty)} {vs : List Value} (h : Qy w0 wr u n v Ds ps vs) (ht : (Ds.map (Qw (n + 1))).sum <= 1000) : El wr u n v ps := by
 obtain ⟨a, c, e, hr, _⟩ := dV h.ow
 rw [List.length_map] at e
 exact ⟨a, c, e, hr, fun p hp => tD (h.ls p hp) h.bl, Nat.le_trans h.tt ht⟩
theorem jX {w : World} {u : Bool} {n : Nat} {k : Nat} {tx : ByteArray} {N : Nat} {pq : PX} {ka : Option Addr} {kl kc : Nat} {D : Ty} {B : Nat} (hB : B = w.heap.size) (h : Bb w n k tx N pq ka kl kc D) (hs : Qw n D <= 1000) :
  El ((w.alloc (Up k tx N pq ka kl kc)).alloc (.cells #[.slice (some ⟨B, 0, none⟩) 1 1] 36)) u n (.slice (some ⟨B + 1, 0, none⟩) 1 1) [(.slice (some ⟨B, 0, none⟩) 1 1, [D])] := by
 subst hB
 have hb := Zx (Zq w (Up k tx N pq ka kl kc)) (Zq _ (.cells #[.slice (some ⟨w.heap.size, 0, none⟩) 1 1] 36))
 have h0 : ((w.alloc (Up k tx N pq ka kl kc)).alloc (.cells #[.slice (some ⟨w.heap.size, 0, none⟩) 1 1] 36)).heap[w.heap.size]? = some (Up k tx N pq ka kl kc) := by
  rw [xA (by simp)];exact xL w _
 have h1 : ((w.alloc (Up k tx N pq ka kl kc)).alloc (.cells #[.slice (some ⟨w.heap.size, 0, none⟩) 1 1] 36)).heap[w.heap.size + 1]? = some (.cells #[.slice (some ⟨w.heap.size, 0, none⟩) 1 1] 36) := Ti w _ _
 refine ⟨_, _, rfl, .inr ⟨_, 0, rfl, xB h1, fun i hi => ?_⟩, fun p hp => ?_, by simpa [Gf] using hs⟩
 ·obtain rfl : i = 0 := by simp at hi; omega
  rw [cell_of_row _ _ _ _ _ _ h1];rfl
 ·rw [List.mem_singleton.1 hp]
  refine ⟨_, _, _, rfl, by simp, by simp [reachBytes], .inr ⟨_, _, rfl, ⟨_, _, h0⟩, fun i hi => ?_⟩⟩
  obtain rfl : i = 0 := by simp at hi; omega
  exact ⟨k, tx, N, pq, ka, kl, kc, by simpa using (Rq h0).1, Rp h hb⟩
theorem gB (u : Bool) (v : Value) (ps : List (Value × List Ty)) (w : World) (h : El w u 0 v ps) : ps = [] := by
 obtain ⟨a, c, _, _, Ng, _⟩ := h
 cases ps with
 | nil => rfl
 | cons p ps =>
  obtain ⟨b, o, c, _, Wl, _, hk⟩ := Ng p (by simp);rcases hk with hk | ⟨_, _, _, _, hc⟩
  ·exact absurd hk Wl
  ·obtain ⟨_, _, _, _, _, _, _, _, ht⟩ := hc 0 (List.length_pos_iff.2 Wl)
   exact ht.elim
theorem lG (n : Nat) (k : Nat) (tx : ByteArray) (N : Nat) (pq : PX) (ka : Option Addr) (kl kc : Nat) (D : Ty) (S : Ty -> Prop) (fb : Ty -> Bool) (w : World) (h : Bb w (n + 1) k tx N pq ka kl kc D) (hs : Qw (n + 1) D <= 1000) (hh : Ud (n + 1) D <= 25) (hn : S D) (hS : ∀ D, S D -> ∀ x ∈ Ms D, S x) (Nd : ∀ D, S D -> fb D = true) (hf : Ek w S fb) :
  Calls prog 48 #[Jm k tx N pq ka kl kc, .int .i64 25, zC, Fm] w fun e w' => e = .returned (.bool true) /\ Below w.heap.size w w' := by
 have Zt := Zx (Zq w (Up k tx N pq ka kl kc)) (Zq _ (.cells #[Fm] 67))
 have Ki := jX (u := true) (B := w.heap.size + 1 + 1) (by simp) (Rp h Zt) hs
 have Z0 := Zx (Zx Zt (Zq _ (Up k tx N pq ka kl kc))) (Zq _ (.cells #[.slice (some ⟨w.heap.size + 1 + 1, 0, none⟩) 1 1] 36))
 obtain ⟨W, hW⟩ := xE ((((w.alloc (Up k tx N pq ka kl kc)).alloc (.cells #[Fm] 67)).alloc (Up k tx N pq ka kl kc)).alloc (.cells #[.slice (some ⟨w.heap.size + 1 + 1, 0, none⟩) 1 1] 36))
 have hxb : W.heap[w.heap.size + 1]? = some (.cells #[Fm] 67) := by
  rw [hW, xA (by simp), xA (by simp)];exact Ti w _ _
 rw [<- hW] at Ki Z0
 have HLV := Za Ki
 have Yx := Za Z0
 have Lm := Za hxb
 have HWW := Za hW
 have HF := Za hf
 have HSS := Za hS
 have HFB := Za Nd
 have HH := Za hh
 have HN := Za hn
 have HI : xQ (Bm (n + 1) [(Value.slice (some ⟨w.heap.size + 1 + 1, 0, none⟩) 1 1, [D])] + 0 = Ud (n + 1) D) := by
  show _ = _;simp [Bm, Nj]
 clear Zt Ki Z0 hxb hW hf hn h hs hS Nd hh
 go_enter func48, ntmps48
 go_wp2_with fail
 go_loopw [9, 10] (fun l s wr => ∃ (h m : Nat) (ps : List (Value × List Ty)), s = .int .i64 h /\ h <= 25 /\ xQ (El wr true m l ps) /\ xQ (Bm m ps + h = Ud (n + 1) D) /\ xQ (∀ p ∈ ps, ∀ x ∈ p.2, S x) /\ xQ (Below W.heap.size W wr)) (fun _ s _ => 26 - (intOf s).toNat)
 case atStart =>
  refine ⟨0, n + 1, _, rfl, by omega, by show El _ _ _ _ _; rw [<- HWW.o]; exact HLV.o, HI, ?_, by show Below _ _ _; rw [<- HWW.o]; exact Below.refl _ _⟩;intro p hp x hx;rw [List.mem_singleton.1 hp] at hx;rw [List.mem_singleton.1 hx];exact HN.o
 case round =>
  obtain ⟨h, m, ps, rfl, h2, Ki, hhi, hnn, hb⟩ := hrel;have hlv' := Ki.o;obtain ⟨a, c, rfl, Yu, Ng, htot⟩ := hlv';have Vd : ps.length <= 1000 := Nat.le_trans (I7 Ng) htot;have HLS := Za Ng;have HT := Za htot;have HR := Za Yu;have HBW := Za (Zx Yx.o hb.o);have hxr := (hb.o.block _ (xB Lm.o)).trans Lm.o;clear Yu Ng htot;by_cases hz : ps = []
  ·subst hz
   clear Ki HLS hxr;go_wp2_with fail;go_ret;exact ⟨rfl, HBW.o⟩
  ·have hp : 1 <= ps.length := List.length_pos_iff.2 hz
   have hpi : (0 : Int) < (ps.length : Int) := by omega
   by_cases hh : h = 25
   ·have h1 := hhi.o
    have h3 := hH HLS.o hz;have := HH.o;omega
   ·have h16 : h < 25 := by omega
    have hhe : ((h : Int) == 25) = false := by rw [beq_eq_false_iff_ne]; omega
    cases m with
    | zero => exact absurd (gB true _ _ _ Ki.o) hz
    | succ m =>
     have hcx : wr.cell? ⟨w.heap.size + 1, 0, none⟩ = some Fm := by rw [cell_of_row _ _ _ _ _ _ hxr]; rfl
     have V7 := Za (mT (m + 1) (w.heap.size + 1) S fb a c ps wr hcx (fun n k tx N pq ka kl kc D wx Xd => HF.o n k tx N pq ka kl kc D wx (Zx HBW.o Xd)) HR.o HLS.o (by omega) hnn.o)
     have hqa : (ps.all fun q => q.2.all fb) = true := by
      rw [List.all_eq_true];intro q hq;rw [List.all_eq_true]
      exact fun x hx => HFB.o x (hnn.o q hq x hx)
     rw [hqa] at V7;clear hqa;have Bu := Za (jY HLS.o hz);clear Ki hz hh hxr hcx;go_wp2_with fail;refine V7.o.mono ?_;rintro e w1 ⟨rfl, Zt⟩;have hb1' := Zx hb.o Zt
     have Yn : Eo w1 a (ps.map (·.1)) := by
      rcases HR.o with h0 | ⟨b, o, e, hbb, hc⟩
      ·exact .inl h0
      ·exact .inr ⟨b, o, e, xT hbb Zt.size, fun i hi => (Zt.cell (p := ⟨b, o + i, none⟩) hbb).trans (hc i hi)⟩
     have Q6 := Za (rG true m ps a c w1 Yn (fun q hq => tD (HLS.o q hq) Zt) HT.o);have Yl := Za hb1';clear Zt hb1' Yn;go_wp2_with fail;refine Q6.o.mono ?_;rintro e w2 ⟨v2, ps2, vs2, rfl, hlev⟩;have HLV2 := Za (hZ hlev (by rw [rE]; exact HT.o));have Vr := Za (Zx Yl.o hlev.bl)
     have HI2 : xQ (Bm m ps2 + (h + 1) = Ud (n + 1) D) := by
      show _ = _;have h1 := hhi.o;have h3 := hY hlev Bu.o;rw [<- l5] at h3;omega
     have Xz : xQ (∀ p ∈ ps2, ∀ x ∈ p.2, S x) := by
      intro p hp x hx;obtain ⟨D', hD', e⟩ := hlev.fr p hp;rw [e] at hx;obtain ⟨L, hL, hDL⟩ := List.mem_flatten.1 hD';obtain ⟨q, hq, rfl⟩ := List.mem_map.1 hL;exact HSS.o D' (hnn.o q hq D' hDL) x hx
     clear hlev;go_wp2_with fail;exact ⟨⟨h + 1, m, ps2, by go_num, by omega, HLV2, HI2, Xz, Vr⟩, by simp [intOf]; omega⟩
theorem kF (k : Nat) (tx : ByteArray) (N : Nat) (pq : PX) (ka : Option Addr) (kl kc : Nat) (r : Bool) (w : World) (h : ∀ wx, Below w.heap.size w wx -> Calls prog 48 #[Jm k tx N pq ka kl kc, .int .i64 25, zC, Fm] wx fun e w' => e = .returned (.bool r) /\ Below wx.heap.size wx w') :
  Calls prog 22 #[Jm k tx N pq ka kl kc] w fun e w' => e = .returned (.bool r) /\ Below w.heap.size w w' := by
 have hb := Zq w (Up k tx N pq ka kl kc)
 have HC := Za (h _ hb)
 have HB := Za hb
 clear hb h
 go_enter func22, ntmps22
 go_wp2_with fail
 refine HC.o.mono ?_
 rintro e w1 ⟨rfl, Zt⟩
 have Yl := Za (Zx HB.o Zt)
 clear Zt
 go_wp2_with fail
 go_ret
 exact ⟨rfl, Yl.o⟩
def A0 (w : World) (k : Nat) (tx : ByteArray) (N : Nat) (pq : PX) (ka : Option Addr) (kl kc : Nat) (t : List UInt8) : Prop := ∀ wx, Below w.heap.size w wx -> Calls prog 23 #[Jm k tx N pq ka kl kc] wx fun e w' => (∃ s : ByteArray, e = .returned (.string s) /\ s.data.toList = t /\ s.size <= 1000) /\ Below wx.heap.size wx w'
theorem lK (tx : ByteArray) (hs : tx.size <= 1000) (N : Nat) (pq : PX) (ka : Option Addr) (kl kc : Nat) (w : World) : A0 w 4 tx N pq ka kl kc tx.data.toList := by
 intro wx _
 go_enter func23, ntmps23
 go_wp2_with fail
 go_ret
 exact ⟨⟨_, rfl, rfl, hs⟩, Zq _ _⟩
def Sq (w : World) (ka : Option Addr) (kl i : Nat) (t : List UInt8) : Prop := i < kl /\ kl <= 1000 /\ ∃ b o k tx N pq la ll lc, ka = some ⟨b, o, none⟩ /\ b < w.heap.size /\ Sr w b (o + i * 8) k tx N pq la ll lc /\ A0 w k tx N pq la ll lc t
theorem Sq.below {w w' : World} {ka : Option Addr} {kl i : Nat} {t : List UInt8} (h : Sq w ka kl i t) (hb : Below w.heap.size w w') : Sq w' ka kl i t := by
 obtain ⟨h1, h2, b, o, k, tx, N, pq, la, ll, lc, e, Zo, q, hx⟩ := h
 exact ⟨h1, h2, b, o, k, tx, N, pq, la, ll, lc, e, xT Zo hb.size, q.below Zo hb, fun wx Xd => hx wx (Zx hb Xd)⟩
theorem vU (T k : Nat) (tx : ByteArray) (N : Nat) (pq : PX) (ka : Option Addr) (kl kc i : Nat) (t : List UInt8) (w : World) (hT : w.heap[T]? = some (Up k tx N pq ka kl kc)) (h : Sq w ka kl i t) :
  Calls prog 51 #[.int .i64 i, .pointer (some ⟨T, 0, none⟩)] w fun e w' => (∃ s : ByteArray, e = .returned (.string s) /\ s.data.toList = t /\ s.size <= 1000) /\ Below w.heap.size w w' := by
 obtain ⟨h1, h2, b, o, k', tx', N', pq', la, ll, lc, rfl, Zo, ⟨r0, r1, r2, r3, r4, r5, r6, r7⟩, hx⟩ := h
 obtain ⟨⟨x0, x1, x2, x3, x4, x5, x6, x7⟩, Hg⟩ := Rq hT
 simp only [Nat.zero_add] at x0 x1 x2 x3 x4 x5 x6 x7
 have B4 : (i : Int) < (kl : Int) := by omega
 have HC := Za (hx w (Below.refl _ _))
 clear hx hT
 go_enter func51, ntmps51
 go_wp2_with fail
 refine HC.o.mono ?_
 rintro e w' ⟨⟨s, rfl, hs, hz⟩, hb⟩
 have HS := Za hs
 have HB := Za hb
 clear hs hb
 go_wp2_with fail
 go_ret
 exact ⟨⟨_, rfl, HS.o, hz⟩, HB.o⟩
theorem lL (tx : ByteArray) (N : Nat) (pq : PX) (ka : Option Addr) (kl kc : Nat) (t u : List UInt8) (w : World) (h0 : Sq w ka kl 0 t) (h1 : Sq w ka kl 1 u) (hl : t.length + u.length + tx.size <= 990) : A0 w 14 tx N pq ka kl kc (40 :: t ++ 32 :: tx.data.toList ++ 32 :: u ++ [41]) := by
 intro wx Xd
 have hb := Zq wx (Up 14 tx N pq ka kl kc)
 have hT : (wx.alloc (Up 14 tx N pq ka kl kc)).heap[wx.heap.size]? = some (Up 14 tx N pq ka kl kc) := xL _ _
 obtain ⟨W, hW⟩ := xE (wx.alloc (Up 14 tx N pq ka kl kc))
 rw [<- hW] at hb hT
 have HC0 : xQ (∀ wy, Below W.heap.size W wy -> Calls prog 51 #[.int .i64 0, .pointer (some ⟨wx.heap.size, 0, none⟩)] wy fun e w' => (∃ s : ByteArray, e = .returned (.string s) /\ s.data.toList = t /\ s.size <= 1000) /\ Below W.heap.size W w') := fun wy Nx => (vU wx.heap.size 14 tx N pq ka kl kc 0 t wy ((Nx.block _ (xB hT)).trans hT) (h0.below (Zx (Zx Xd hb) Nx))).mono fun e w' ⟨e1, e2⟩ => ⟨e1, Zx Nx e2⟩
 have V7 : xQ (∀ wy, Below W.heap.size W wy -> Calls prog 51 #[.int .i64 1, .pointer (some ⟨wx.heap.size, 0, none⟩)] wy fun e w' => (∃ s : ByteArray, e = .returned (.string s) /\ s.data.toList = u /\ s.size <= 1000) /\ Below W.heap.size W w') := fun wy Nx => (vU wx.heap.size 14 tx N pq ka kl kc 1 u wy ((Nx.block _ (xB hT)).trans hT) (h1.below (Zx (Zx Xd hb) Nx))).mono fun e w' ⟨e1, e2⟩ => ⟨e1, Zx Nx e2⟩
 have Po : xQ (∀ wy, Below W.heap.size W wy -> wy.cell? ⟨wx.heap.size, 1, none⟩ = some (.string tx)) := fun wy Nx => by
  have := (Rq ((Nx.block _ (xB hT)).trans hT)).1.2.1
  simpa using this
 have Vx := Po.o W.drew (Below.refl _ _).drew
 have HB := Za hb
 have HL := Za hl
 have Jk : tx.size <= 990 := by omega
 subst hW
 clear hb hT h0 h1 Xd hl
 go_enter func23, ntmps23
 go_wp2_with fail
 go_region_held (fun W => W.cell? ⟨wx.heap.size, 1, none⟩ = some (.string tx)) (assumption) (first
  | (go_at_call 51; refine (HC0.o _ (by first | exact Below.refl _ _ | exact below_drewN (Below.refl _ _) _ | exact (Below.refl _ _).drew)).mono ?_; rintro e w1 ⟨⟨s0, rfl, hs0, Wp⟩, Zt⟩; have t0 := Po.o _ Zt; have Nn := Za hs0; have Yl := Za Zt; have v1 : ¬ 9223372036854775807 < 1 + s0.size := (by omega); have v2 : ¬ 9223372036854775807 < 1 + s0.size + 1 := (by omega); have v3 : ¬ 9223372036854775807 < 1 + s0.size + 1 + tx.size := (by omega); have v4 : ¬ 9223372036854775807 < 1 + s0.size + 1 + tx.size + 1 := (by omega); clear hs0 Zt)
  | (go_at_call 51; refine (V7.o _ (by first | exact Yl.o | exact below_drewN Yl.o _ | exact Yl.o.drew)).mono ?_; rintro e w2 ⟨⟨s1, rfl, Xx, Xy⟩, Z0⟩; have t1 := Po.o _ Z0; have Y7 := Za Xx; have Yx := Za Z0; have v5 : ¬ 9223372036854775807 < 1 + s0.size + 1 + tx.size + 1 + s1.size := (by omega); have v6 : ¬ 9223372036854775807 < 1 + s0.size + 1 + tx.size + 1 + s1.size + 1 := (by omega); clear Xx Z0))
 all_goals go_wp2_with fail
 all_goals go_ret
 all_goals refine ⟨⟨_, rfl, ?_, ?_⟩, Zx HB.o Yx.o⟩
 ·rw [<- Nn.o, <- Y7.o]
  simp [ByteArray.data_append]
 ·have h1 : s0.size = t.length := by rw [<- Nn.o]; rfl
  have h2 : s1.size = u.length := by rw [<- Y7.o]; rfl
  have := HL.o;simp [ByteArray.size_append];have h3 : (⟨#[40]⟩ : ByteArray).size = 1 := rfl;have h4 : (⟨#[41]⟩ : ByteArray).size = 1 := rfl;have h5 : (⟨#[32]⟩ : ByteArray).size = 1 := rfl;omega
def Dc : Nat -> Ty -> Prop
 | 0, _ => False
 | n + 1, D => (∃ s, D = Mt 4 s 0 [] /\ Ho s = true /\ s.length <= 100) ∨ ∃ o x y, D = Mt 14 o 0 [x, y] /\ Kk.contains o = true /\ o.length <= 100 /\ Dc n x /\ Dc n y
def Ep (D : Ty) : Prop := ∃ n, Dc n D
theorem uQ {k k' : Nat} {a b : List UInt8} {N N' : Nat} {ks ks' : List Ty} (h : Mt k a N ks = Mt k' b N' ks') : k = k' /\ a = b /\ N = N' /\ ks = ks' := by
 obtain ⟨h1, h2, h3, h4⟩ := Iy h
 have := congrArg List.length h3
 simp at this
 exact ⟨by omega, h2, this, h4⟩
theorem sO (D : Ty) (h : Ep D) : ∀ x ∈ Ms D, Ep x := by
 intro x hx
 obtain ⟨n, h⟩ := h
 cases n with
 | zero => exact h.elim
 | succ n =>
  rcases h with ⟨s, rfl, _⟩ | ⟨o, y, z, rfl, _, _, hy, hz⟩
  ·rw [Mt, Il] at hx; cases hx
  ·rw [Mt, Il] at hx
   simp at hx;rcases hx with rfl | rfl
   ·exact ⟨n, hy⟩
   ·exact ⟨n, hz⟩
theorem pC {tx : ByteArray} {a : List UInt8} (h : tx.data.toList = a) : tx = ⟨a.toArray⟩ := by cases tx; cases h; rfl
theorem I3 {w : World} {n k : Nat} {tx : ByteArray} {N : Nat} {pq : PX} {ka : Option Addr} {kl kc : Nat} {k' : Nat} {a : List UInt8} {N' : Nat} {ks : List Ty} (h : Bb w n k tx N pq ka kl kc (Mt k' a N' ks)) : k = k' /\ tx = ⟨a.toArray⟩ /\ N = N' /\ kl = ks.length := by
 cases n with
 | zero => exact h.elim
 | succ n =>
  obtain ⟨ks', e1, e2, _⟩ := h;obtain ⟨h1, h2, h3, h4⟩ := uQ e2;exact ⟨h1.symm, pC h2.symm, h3.symm, by rw [e1, h4]⟩
theorem lP (w : World) (hf : F7 w) (hw : Words w) (ho : Hy w) : Ek w Ep fun _ => true := by
 intro n k tx N pq ka kl kc D wx Xd hS hD
 obtain ⟨m, hS⟩ := hS
 cases m with
 | zero => exact hS.elim
 | succ m =>
  rcases hS with ⟨s, rfl, hs, hl⟩ | ⟨o, y, z, rfl, hs, hl, _, _⟩
  ·obtain ⟨rfl, rfl, rfl, rfl⟩ := I3 hD
   exact wY 4 _ 0 pq ka 0 kc true wx (by decide) (hf.below Xd) (by decide) rfl (by decide) (by decide) rfl (by decide) (by decide) fun wy Nx => by
    have := aU ⟨s.toArray⟩ (by show s.length <= 1000; omega) wy ((hw.below Xd).below Nx);rw [show Ho (⟨s.toArray⟩ : ByteArray).data.toList = true from hs] at this;exact this
  ·obtain ⟨rfl, rfl, rfl, rfl⟩ := I3 hD
   exact wY 14 _ 0 pq ka 2 kc true wx (by decide) (hf.below Xd) (by decide) rfl (by decide) (by decide) rfl (by decide) (by decide) fun wy Nx => by
    have := aV ⟨o.toArray⟩ wy ((ho.below Xd).below Nx);rw [show Kk.contains (⟨o.toArray⟩ : ByteArray).data.toList = true from hs] at this;exact this
def Ow (w : World) (t : List UInt8) (e : Ending) (w' : World) : Prop := (∃ s : ByteArray, e = .returned (.string s) /\ s.data.toList = t) /\ Below w.heap.size w w'
theorem rF (k : Nat) (tx : ByteArray) (N : Nat) (pq : PX) (ka : Option Addr) (kl kc : Nat) (t : List UInt8) (w : World) (h : ∀ wx, Below w.heap.size w wx -> Calls prog 22 #[Jm k tx N pq ka kl kc] wx fun e w' => e = .returned (.bool true) /\ Below wx.heap.size wx w') (hx : A0 w k tx N pq ka kl kc t) :
  Calls prog 10 #[Jm k tx N pq ka kl kc] w (Ow w t) := by
 have hb := Zq w (Up k tx N pq ka kl kc)
 have HBX : xQ ((w.alloc (Up k tx N pq ka kl kc)).heap[w.heap.size]? = some (Up k tx N pq ka kl kc)) := xL w _
 have HC := Za (h _ hb)
 have HX := Za hx
 have HB := Za hb
 clear hb h hx
 go_enter func10, ntmps10
 go_wp2_with fail
 refine HC.o.mono ?_
 rintro e w1 ⟨rfl, Zt⟩
 have Z0 := Zx HB.o Zt
 obtain ⟨⟨x0, x1, x2, x3, x4, x5, x6, x7⟩, Hg⟩ := Rq ((Zt.block _ (xB HBX.o)).trans HBX.o)
 simp only [Nat.zero_add] at x0 x1 x2 x3 x4 x5 x6 x7
 have Q6 := Za (HX.o _ Z0)
 have Yx := Za Z0
 clear Zt Z0
 go_wp2_with fail
 refine Q6.o.mono ?_
 rintro e w2 ⟨⟨s, rfl, hs, _⟩, Q1⟩
 have HS := Za hs
 have Vr := Za (Zx Yx.o Q1)
 clear hs Q1
 go_wp2_with fail
 go_ret
 exact ⟨⟨_, rfl, HS.o⟩, Vr.o⟩
structure Sa (w : World) : Prop where
 ff : F7 w
 ww : Words w
 oo : Hy w
theorem Sa.below {w w' : World} (h : Sa w) (hb : Below w.heap.size w w') : Sa w' := ⟨h.ff.below hb, h.ww.below hb, h.oo.below hb⟩
theorem isN {w : World} (hB : Sa w) {n k : Nat} {tx : ByteArray} {N : Nat} {pq : PX} {ka : Option Addr} {kl kc : Nat} {D : Ty} (hD : Ep D) (h : Bb w (n + 1) k tx N pq ka kl kc D) (hs : Qw (n + 1) D <= 1000) (hh : Ud (n + 1) D <= 25) : ∀ wx, Below w.heap.size w wx -> Calls prog 22 #[Jm k tx N pq ka kl kc] wx fun e w' => e = .returned (.bool true) /\ Below wx.heap.size wx w' := fun wx Xd =>
 kF k tx N pq ka kl kc true wx fun wy Nx => lG n k tx N pq ka kl kc D Ep (fun _ => true) wy (Rp (Rp h Xd) Nx) hs hh hD sO (fun _ _ => rfl) (lP wy ((hB.below Xd).below Nx).ff ((hB.below Xd).below Nx).ww ((hB.below Xd).below Nx).oo)
theorem vW {w : World} {n : Nat} {ka : Option Addr} {ks : List Ty} {i : Nat} {t : List UInt8} (h : Ff w n ka ks) (hi : i < ks.length) (hl : ks.length <= 1000) (ht : ∀ k tx N pq la ll lc, Bb w n k tx N pq la ll lc ks[i] -> A0 w k tx N pq la ll lc t) : Sq w ka ks.length i t := by
 obtain ⟨b, o, k, tx, N, pq, la, ll, lc, e, Zo, q, hd⟩ := zQ h hi
 exact ⟨hi, hl, b, o, k, tx, N, pq, la, ll, lc, e, Zo, q, ht k tx N pq la ll lc hd⟩
def Ko : Nat -> Ty -> List UInt8
 | 0, _ => []
 | n + 1, D => match Ms D with
  | [x, y] => 40 :: Ko n x ++ 32 :: zK D ++ 32 :: Ko n y ++ [41]
  | _ => zK D
theorem aT (n : Nat) (o : List UInt8) (x y : Ty) : Ko (n + 1) (Mt 14 o 0 [x, y]) = 40 :: Ko n x ++ 32 :: o ++ 32 :: Ko n y ++ [41] := rfl
theorem yK {w : World} : ∀ (n m k : Nat) (tx : ByteArray) (N : Nat) (pq : PX) (ka : Option Addr) (kl kc : Nat) (D : Ty), Dc m D -> m <= n -> Bb w n k tx N pq ka kl kc D -> (Ko m D).length <= 900 -> A0 w k tx N pq ka kl kc (Ko m D)
 | 0, m, _, _, _, _, _, _, _, _, hS, hm, _, _ => by
  obtain rfl : m = 0 := by omega
  exact hS.elim
 | n + 1, 0, _, _, _, _, _, _, _, _, hS, _, _, _ => hS.elim
 | n + 1, m + 1, k, tx, N, pq, ka, kl, kc, D, hS, hm, hD, hl => by
  rcases hS with ⟨s, rfl, hs, hl⟩ | ⟨o, y, z, rfl, hs, Tj, hy, hz⟩
  ·obtain ⟨rfl, rfl, rfl, rfl⟩ := I3 hD
   exact lK ⟨s.toArray⟩ (by show s.length <= 1000; omega) 0 pq ka 0 kc w
  ·have hp := I3 hD
   obtain ⟨rfl, rfl, rfl, rfl⟩ := hp;obtain ⟨ks', e1, e2, _, _, _, _, _, hr⟩ := hD;obtain ⟨_, _, _, h4⟩ := uQ e2;subst h4;rw [aT] at hl ⊢;simp only [List.length_append, List.length_cons, List.length_nil] at hl
   have h0 := vW (i := 0) hr (by simp) (by simp) fun k tx N pq la ll lc h => yK n m k tx N pq la ll lc y hy (by omega) h (by omega)
   have h1 := vW (i := 1) hr (by simp) (by simp) fun k tx N pq la ll lc h => yK n m k tx N pq la ll lc z hz (by omega) h (by omega)
   exact lL ⟨o.toArray⟩ 0 pq ka 2 kc (Ko m y) (Ko m z) w h0 h1 (by show _ + _ + o.length <= _; omega)
theorem jU {w : World} (hB : Sa w) {n m k : Nat} {tx : ByteArray} {N : Nat} {pq : PX} {ka : Option Addr} {kl kc : Nat} {D : Ty} (hS : Dc m D) (hm : m <= n + 1) (h : Bb w (n + 1) k tx N pq ka kl kc D) (hs : Qw (n + 1) D <= 1000) (hh : Ud (n + 1) D <= 25) (hl : (Ko m D).length <= 900) :
  Calls prog 10 #[Jm k tx N pq ka kl kc] w (Ow w (Ko m D)) :=
 rF k tx N pq ka kl kc _ w (isN hB ⟨m, hS⟩ h hs hh) (yK (n + 1) m k tx N pq ka kl kc D hS hm h hl)
abbrev pP (pb : Nat) : Value := .pointer (some ⟨pb, 0, none⟩)
theorem r38 {fn : Func} {p : Tmp} {Q : Ending -> World -> Prop} {a : Act} {W : World} {rb : Nat} {v0 v1 v2 v3 v4 v5 v6 v7 : Value} (h : fn.results = #[.cell p 38]) (hp : a.tmps.getD p undef = .pointer (some ⟨rb, 0, none⟩)) (hg : W.heap[rb]? = some (.cells #[v0, v1, v2, v3, v4, v5, v6, v7] 38)) (hd : a.defers = []) (hQ : Q (.returned (.agg #[v0, v1, v2, v3, v4, v5, v6, v7])) W) : bodyPost prog fn Q .ret a W := bodyPost_ret (results_cell_row h _ _ rb 38 _ (0, 0) _ hp hg underlying38 rfl (by kernel_rfl)) hd hQ
theorem r42 {fn : Func} {p : Tmp} {Q : Ending -> World -> Prop} {a : Act} {W : World} {rb : Nat} {v0 v1 v2 v3 : Value} (h : fn.results = #[.cell p 42]) (hp : a.tmps.getD p undef = .pointer (some ⟨rb, 0, none⟩)) (hg : W.heap[rb]? = some (.cells #[v0, v1, v2, v3] 42)) (hd : a.defers = []) (hQ : Q (.returned (.agg #[v0, v1, v2, v3])) W) : bodyPost prog fn Q .ret a W := bodyPost_ret (results_cell_row h _ _ rb 42 _ (0, 0) _ hp hg underlying42 rfl (by kernel_rfl)) hd hQ
end Go.Proofs.YtfoejkhfdiodhaaGreatDoor
namespace Go.Proofs.YtfoejkhfdiodhaaGreatDoor
open Go.Proofs.Tryz
def Zn (k : Int) (tx : List UInt8) (N : Int) (l c : Nat) (ts : List Ty) (ns : List (List UInt8)) (ks : List Ty) : Ty :=
 .agg [.lit (.int .i64 k), .lit (.string tx), .lit (.int .i64 N), .lit (.int .i64 l), .lit (.int .i64 c), .agg ts, .agg (ns.map fun s => .lit (.string s)), .agg ks]
abbrev Pr (α : Type) := (α × Nat) ⊕ (Int × Nat × Nat)
def Pr.go {α β : Type} (r : Pr α) (f : α -> Nat -> Pr β) : Pr β :=
 match r with
 | .inl (x, a) => f x a
 | .inr e => .inr e
section
variable (ts : List Tok)
def Zk (a : Nat) : Tok := ts.getD a ⟨0, [], 0, 0⟩
def Wa {α : Type} (e : Int) (a : Nat) : Pr α := .inr (e, (Zk ts a).line, (Zk ts a).col)
def Zh (a : Nat) (s : List UInt8) : Bool := ((Zk ts a).kind == 2 || (Zk ts a).kind == 5) && (Zk ts a).text == s
def Ze (a : Nat) (s : List UInt8) : Pr Unit := if Zh ts a s then .inl ((), a + 1) else Wa ts 7 a
def Zr (a : Nat) : Pr (List UInt8) := if (Zk ts a).kind == 1 then .inl ((Zk ts a).text, a + 1) else Wa ts 7 a
def Yd {α : Type} (one : Nat -> Pr α) (sep : List UInt8) : Nat -> Nat -> Pr (List α)
 | 0, a => Wa ts 7 a
 | f + 1, a => (one a).go fun x a => if Zh ts a sep then (Yd one sep f (a + 1)).go fun l a => .inl (x :: l, a) else .inl ([x], a)
def Tg {α : Type} (K : Nat -> Pr α) (a : Nat) : Pr (List UInt8 × α) := (Zr ts a).go fun s a => (Ze ts a [58]).go fun _ a => (K a).go fun t a => .inl ((s, t), a)
def Pj (K : Nat -> Pr Ty) (f a : Nat) : Pr Ty :=
 if Zh ts a (Y4 0) then .inl (Yq 0 [] [] [], a + 1)
 else if Zh ts a (Y4 1) then .inl (Yq 1 [] [] [], a + 1)
 else if Zh ts a (Y4 2) then .inl (Yq 2 [] [] [], a + 1)
 else if Zh ts a (Y4 3) then .inl (Yq 3 [] [] [], a + 1)
 else if Zh ts a (Y4 4) then .inl (Yq 4 [] [] [], a + 1)
 else if Zh ts a [40] then (K (a + 1)).go fun t a => (Ze ts a [41]).go fun _ a => .inl (t, a)
 else if Zh ts a [123] then
  if Zh ts (a + 1) [125] then .inl (Yq 5 [] [] [], a + 2)
  else (Yd ts (Tg ts K) [44] f (a + 1)).go fun l a => (Ze ts a [125]).go fun _ a => .inl (Yq 5 [] (l.map (·.1)) (l.map (·.2)), a)
 else (Zr ts a).go fun s a => .inl (Yq 8 s [] [], a)
def Ke (K : Nat -> Pr Ty) (f a : Nat) : Pr Ty := (Yd ts (Pj ts K f) [124] f a).go fun l a => match l with
 | [t] => .inl (t, a)
 | l => .inl (Yq 7 [] [] l, a)
def Xl (f : Nat) : Nat -> Nat -> Nat -> Pr Ty
 | 0, _, a => Wa ts 6 a
 | n + 1, d, a => if 100 <= d then Wa ts 6 a else (Ke ts (Xl f n (d + 1)) f a).go fun t a => if Zh ts a [45, 62] then (Xl f n (d + 1) (a + 1)).go fun r a => .inl (Yq 6 [] [] [t, r], a) else .inl (t, a)
def Ve (K : Nat -> Pr Ty) (a : Nat) : Pr (List Ty) := if Zh ts a [58] then (K (a + 1)).go fun t a => .inl ([t], a) else .inl ([], a)
def Nb (K : Nat -> Pr Ty) (a : Nat) : Pr (List UInt8 × List Ty) := (Ze ts a [40]).go fun _ a => (Zr ts a).go fun s a => (Ve ts K a).go fun x a => (Ze ts a [41]).go fun _ a => (Ve ts K a).go fun y a => .inl ((s, (if x.isEmpty then [Yq 0 [] [] []] else x) ++ y), a)
def Yg (a : Nat) : Nat := (Zk ts a).line
def Yf (a : Nat) : Nat := (Zk ts a).col
def V3 (signs : List (List UInt8)) (sub : Nat -> Pr Ty) : Nat -> Ty -> Nat -> Pr Ty
 | 0, _, a => Wa ts 7 a
 | f + 1, x, a => match signs.find? (Zh ts a) with
  | none => .inl (x, a)
  | some s => (sub (a + 1)).go fun y b => V3 signs sub f (Zn 14 s 0 (Yg ts a) (Yf ts a) [] [] [x, y]) b
def Us : List (List UInt8) := [[110, 117, 108, 108], [98, 111, 111, 108], [105, 110, 116], [115, 116, 114], [114, 101, 99, 111, 114, 100], [102, 117, 110, 99, 116, 105, 111, 110]]
def K5 (K : Nat -> Pr Ty) (sub : Nat -> Pr Ty) (a : Nat) : Pr Ty := (sub a).go fun x a => match ([[60], [60, 61], [61, 61]] : List (List UInt8)).find? (Zh ts a) with
 | some s => (sub (a + 1)).go fun y b => .inl (Zn 14 s 0 (Yg ts a) (Yf ts a) [] [] [x, y], b)
 | none =>
  if Zh ts a [97, 115] then (K (a + 1)).go fun t b => .inl (Zn 13 [] 0 (Yg ts a) (Yf ts a) [t] [] [x], b)
  else if Zh ts a [105, 115] then match Us.findIdx? (Zh ts (a + 1)) with
   | some i => .inl (Zn 12 [] i (Yg ts a) (Yf ts a) [] [] [x], a + 2)
   | none => Wa ts 7 (a + 1)
  else .inl (x, a)
def As (U : Nat -> Pr Ty) (f a : Nat) : Pr Ty := (U a).go fun x a => V3 ts [[42], [47], [37], [38], [60, 60], [62, 62]] U f x a
def D8 (U : Nat -> Pr Ty) (f a : Nat) : Pr Ty := (As ts U f a).go fun x a => V3 ts [[43], [45], [94]] (As ts U f) f x a
def J7 (U : Nat -> Pr Ty) (f a : Nat) : Pr Ty := (D8 ts U f a).go fun x a => V3 ts [[43, 43]] (D8 ts U f) f x a
def Sv (K U : Nat -> Pr Ty) (f a : Nat) : Pr Ty := (K5 ts K (J7 ts U f) a).go fun x a => V3 ts [[97, 110, 100]] (K5 ts K (J7 ts U f)) f x a
def Dy (K U : Nat -> Pr Ty) (f a : Nat) : Pr Ty := (Sv ts K U f a).go fun x a => V3 ts [[111, 114]] (Sv ts K U f) f x a
def P6 (K E U : Nat -> Pr Ty) (f a : Nat) : Pr Ty :=
 if Zh ts a [108, 101, 116] then (Zr ts (a + 1)).go fun s b => (Ve ts K b).go fun t b => (Ze ts b [61]).go fun _ b => (E b).go fun v b => (Ze ts b [59]).go fun _ b => (E b).go fun r b => .inl (Zn 5 s 0 (Yg ts a) (Yf ts a) t [] [v, r], b)
 else if Zh ts a [105, 102] then (E (a + 1)).go fun c b => (Ze ts b [116, 104, 101, 110]).go fun _ b => (E b).go fun x b => (Ze ts b [101, 108, 115, 101]).go fun _ b => (E b).go fun y b => .inl (Zn 11 [] 0 (Yg ts a) (Yf ts a) [] [] [c, x, y], b)
 else if Zh ts a [102, 110] then (Nb ts K (a + 1)).go fun h b => (Ze ts b [61, 62]).go fun _ b => (E b).go fun x b => .inl (Zn 6 h.1 0 (Yg ts a) (Yf ts a) h.2 [] [x], b)
 else Dy ts K U f a
def G0 (E : Nat -> Pr Ty) (f a : Nat) : Pr Ty :=
 if Zh ts (a + 1) [125] then .inl (Zn 8 [] 0 (Yg ts a) (Yf ts a) [] [] [], a + 2)
 else if (Zk ts (a + 1)).kind == 1 && ((Zk ts (a + 2)).kind == 5 && (Zk ts (a + 2)).text == [58]) then (Yd ts (Tg ts E) [44] f (a + 1)).go fun l b => (Ze ts b [125]).go fun _ b => .inl (Zn 8 [] 0 (Yg ts a) (Yf ts a) [] (l.map (·.1)) (l.map (·.2)), b)
 else (E (a + 1)).go fun x b => (Ze ts b [119, 105, 116, 104]).go fun _ b => (Zr ts b).go fun s b => (Ze ts b [58]).go fun _ b => (E b).go fun y b => (Ze ts b [125]).go fun _ b => .inl (Zn 10 s 0 (Yg ts a) (Yf ts a) [] [] [x, y], b)
def Qp (K E : Nat -> Pr Ty) (f a : Nat) : Pr Ty :=
 if (Zk ts a).kind == 3 then .inl (Zn 0 [] ((Pi (Zk ts a).text).getD 0) (Yg ts a) (Yf ts a) [] [] [], a + 1)
 else if (Zk ts a).kind == 4 then .inl (Zn 1 (Zk ts a).text 0 (Yg ts a) (Yf ts a) [] [] [], a + 1)
 else if Zh ts a [116, 114, 117, 101] then .inl (Zn 2 [] 1 (Yg ts a) (Yf ts a) [] [] [], a + 1)
 else if Zh ts a [102, 97, 108, 115, 101] then .inl (Zn 2 [] 0 (Yg ts a) (Yf ts a) [] [] [], a + 1)
 else if Zh ts a [110, 117, 108, 108] then .inl (Zn 3 [] 0 (Yg ts a) (Yf ts a) [] [] [], a + 1)
 else if Zh ts a [114, 101, 97, 100] then (Ze ts (a + 1) [40]).go fun _ b => (Ze ts b [41]).go fun _ b => .inl (Zn 18 [] 0 (Yg ts a) (Yf ts a) [] [] [], b)
 else if Zh ts a [112, 114, 105, 110, 116] then (Ze ts (a + 1) [40]).go fun _ b => (E b).go fun x b => (Ze ts b [41]).go fun _ b => .inl (Zn 17 [] 0 (Yg ts a) (Yf ts a) [] [] [x], b)
 else if Zh ts a [40] then (E (a + 1)).go fun x b => (Ze ts b [41]).go fun _ b => .inl (x, b)
 else if Zh ts a [123] then G0 ts E f a
 else (Zr ts a).go fun s b => if Zh ts b [91] then (Yd ts K [44] f (b + 1)).go fun l b => (Ze ts b [93]).go fun _ b => .inl (Zn 19 s 0 (Yg ts a) (Yf ts a) l [] [], b) else .inl (Zn 4 s 0 (Yg ts a) (Yf ts a) [] [] [], b)
def Uf (E : Nat -> Pr Ty) : Nat -> Ty -> Nat -> Pr Ty
 | 0, _, a => Wa ts 7 a
 | f + 1, x, a =>
  if Zh ts a [40] then (E (a + 1)).go fun y b => (Ze ts b [41]).go fun _ b => Uf E f (Zn 7 [] 0 (Yg ts a) (Yf ts a) [] [] [x, y]) b
  else if Zh ts a [46] then (Zr ts (a + 1)).go fun s b => Uf E f (Zn 9 s 0 (Yg ts a) (Yf ts a) [] [] [x]) b
  else .inl (x, a)
def Wo (f : Nat) : Nat -> Bool -> Nat -> Nat -> Pr Ty
 | 0, _, _, a => Wa ts 6 a
 | n + 1, u, d, a => if 100 <= d then Wa ts 6 a else
  match u with
  | false => P6 ts (Xl ts f 101 (d + 1)) (Wo f n false (d + 1)) (Wo f n true (d + 1)) f a
  | true =>
   if Zh ts a [45] then (Wo f n true (d + 1) (a + 1)).go fun x b => .inl (Zn 16 [] 0 (Yg ts a) (Yf ts a) [] [] [x], b)
   else if Zh ts a [110, 111, 116] then (Wo f n true (d + 1) (a + 1)).go fun x b => .inl (Zn 15 [] 0 (Yg ts a) (Yf ts a) [] [] [x], b)
   else (Qp ts (Xl ts f 101 (d + 1)) (Wo f n false (d + 1)) f a).go fun x b => Uf ts (Wo f n false (d + 1)) f x b
def Pl (K : Nat -> Pr Ty) (a : Nat) : Pr (List UInt8 × Ty) := (Zr ts a).go fun s b => if Zh ts b [60, 58] then (K (b + 1)).go fun t b => .inl ((s, t), b) else .inl ((s, Yq 0 [] [] []), b)
def Q5 (K : Nat -> Pr Ty) (f a : Nat) : Pr (List (List UInt8 × Ty)) := if Zh ts a [91] then (Yd ts (Pl ts K) [44] f (a + 1)).go fun l b => (Ze ts b [93]).go fun _ b => .inl (l, b) else .inl ([], a)
def Bo (from' : List UInt8) (ns : List (List UInt8)) (l c : Nat) : Ty := .agg [.lit (.string from'), .agg (ns.map fun s => .lit (.string s)), .lit (.int .i64 l), .lit (.int .i64 c)]
def Qu (nm : List UInt8) (ex : Bool) (vs : List (List UInt8 × Ty)) (pm : List UInt8) (tys : List Ty) (body : Ty) (l c : Nat) : Ty := .agg [.lit (.string nm), .lit (.bool ex), .agg (vs.map fun v => .agg [.lit (.string v.1), v.2]), .lit (.string pm), .agg tys, body, .lit (.int .i64 l), .lit (.int .i64 c)]
def L1 : Nat -> Nat -> Pr (List Ty)
 | 0, a => Wa ts 7 a
 | f + 1, a => if Zh ts a [105, 109, 112, 111, 114, 116] then (Zr ts (a + 1)).go fun s b => (Ze ts b [58]).go fun _ b => (Yd ts (Zr ts) [44] ts.length b).go fun l b => (Ze ts b [59]).go fun _ b => (L1 f b).go fun r b => .inl (Bo s l (Yg ts a) (Yf ts a) :: r, b) else .inl ([], a)
def M5 (a : Nat) : Pr Ty :=
 let ex := Zh ts a [101, 120, 112, 111, 114, 116]
 let a := if ex then a + 1 else a
 (Ze ts a [102, 110]).go fun _ b => (Zr ts b).go fun s b => (Q5 ts (Xl ts ts.length 101 0) ts.length b).go fun vs b => (Nb ts (Xl ts ts.length 101 0) b).go fun h b => (Ze ts b [61]).go fun _ b => (Wo ts ts.length 101 false 0 b).go fun x b => (Ze ts b [59]).go fun _ b =>
  .inl (Qu s ex vs h.1 (if h.2.length = 1 then h.2 ++ [Yq 0 [] [] []] else h.2) x (Yg ts a) (Yf ts a), b)
def Bf : Nat -> Nat -> Pr (List Ty)
 | 0, a => Wa ts 7 a
 | f + 1, a => if (Zk ts a).kind == 0 then .inl ([], a) else (M5 ts a).go fun d b => (Bf f b).go fun r b => .inl (d :: r, b)
def Fw : Pr (List Ty × List Ty) := (L1 ts ts.length 0).go fun i a => (Bf ts (ts.length + 1) a).go fun d a => .inl ((i, d), a)
def Bz {α : Type} (r : Pr α) : Pr α := r.go fun x a => if (Zk ts a).kind == 0 then .inl (x, a) else Wa ts 7 a
end
def Hq (l : List UInt8) : Ty ⊕ (Int × Nat × Nat) := match Tk l with
 | .inr e => .inr e
 | .inl ts => match Bz ts (Xl ts ts.length 101 0 0) with
  | .inl (t, _) => .inl t
  | .inr e => .inr e
def J8 (l : List UInt8) : Ty ⊕ (Int × Nat × Nat) := match Tk l with
 | .inr e => .inr e
 | .inl ts => match Bz ts (Wo ts ts.length 101 false 0 0) with
  | .inl (t, _) => .inl t
  | .inr e => .inr e
def Nk (l : List UInt8) : (List Ty × List Ty) ⊕ (Int × Nat × Nat) := match Tk l with
 | .inr e => .inr e
 | .inl ts => match Bz ts (Fw ts) with
  | .inl (t, _) => .inl t
  | .inr e => .inr e
end Go.Proofs.YtfoejkhfdiodhaaGreatDoor
namespace Go.Proofs.YtfoejkhfdiodhaaGreatDoor
open Go.Proofs.Tryz
open Go.RowKit
structure NV where
 k : Int
 tx : ByteArray
 N : Int
 li : Nat
 co : Nat
 ta : Option Addr
 tl : Nat
 tc : Nat
 na : Option Addr
 nl : Nat
 nc : Nat
 ka : Option Addr
 kl : Nat
 kc : Nat
abbrev NV.val (x : NV) : Value := .agg #[.int .i64 x.k, .string x.tx, .int .i64 x.N, .int .i64 x.li, .int .i64 x.co, .slice x.ta x.tl x.tc, .slice x.na x.nl x.nc, .slice x.ka x.kl x.kc]
abbrev NV.obj (x : NV) : Obj := .cells #[.int .i64 x.k, .string x.tx, .int .i64 x.N, .int .i64 x.li, .int .i64 x.co, .slice x.ta x.tl x.tc, .slice x.na x.nl x.nc, .slice x.ka x.kl x.kc] 38
def Em (w : World) (b o : Nat) (x : NV) : Prop :=
 w.cell? ⟨b, o, none⟩ = some (.int .i64 x.k) /\ w.cell? ⟨b, o + 1, none⟩ = some (.string x.tx) /\ w.cell? ⟨b, o + 2, none⟩ = some (.int .i64 x.N) /\ w.cell? ⟨b, o + 3, none⟩ = some (.int .i64 x.li) /\ w.cell? ⟨b, o + 4, none⟩ = some (.int .i64 x.co) /\
 w.cell? ⟨b, o + 5, none⟩ = some (.slice x.ta x.tl x.tc) /\ w.cell? ⟨b, o + 6, none⟩ = some (.slice x.na x.nl x.nc) /\ w.cell? ⟨b, o + 7, none⟩ = some (.slice x.ka x.kl x.kc)
def xF (w : World) (lo : Nat) (T : NV -> Ty -> Prop) (ka : Option Addr) (ks : List Ty) : Prop :=
 ks = [] ∨ ∃ b o, ka = some ⟨b, o, none⟩ /\ lo <= b /\ N0 w b /\ ∀ i (h : i < ks.length), ∃ x, Em w b (o + i * 8) x /\ T x ks[i]
def Bx (w : World) (lo : Nat) : Nat -> NV -> Ty -> Prop
 | 0, _, _ => False
 | n + 1, x, D => ∃ (tys : List Ty) (ns : List (List UInt8)) (ks : List Ty), D = Zn x.k x.tx.data.toList x.N x.li x.co tys ns ks /\ (x.tl = tys.length /\ x.nl = ns.length /\ x.kl = ks.length) /\
  (tys.length <= 100000 /\ ns.length <= 100000 /\ ks.length <= 100000) /\ Ut w lo n x.ta tys /\ Ba w lo x.na ns /\ xF w lo (Bx w lo n) x.ka ks
abbrev Ss (w : World) (lo n : Nat) (ka : Option Addr) (ks : List Ty) : Prop := xF w lo (Bx w lo n) ka ks
section
variable {w w' : World} {lo lo' n m : Nat} {x : NV} {D : Ty} {ka : Option Addr} {ks : List Ty}
theorem Em.keep {b o : Nat} (h : Em w b o x) (hk : w'.heap[b]? = w.heap[b]?) : Em w' b o x := by
 have hc : ∀ j, w'.cell? ⟨b, j, none⟩ = w.cell? ⟨b, j, none⟩ := fun j => World.cell?_of_block (w := w) (a := ⟨b, j, none⟩) hk
 obtain ⟨h0, h1, h2, h3, h4, h5, h6, h7⟩ := h
 exact ⟨(hc _).trans h0, (hc _).trans h1, (hc _).trans h2, (hc _).trans h3, (hc _).trans h4, (hc _).trans h5, (hc _).trans h6, (hc _).trans h7⟩
theorem Fx {a : Option Addr} {ns : List (List UInt8)} (h : Ba w lo a ns) (hsz : w.heap.size <= w'.heap.size) (hk : ∀ b, lo <= b -> b < w.heap.size -> w'.heap[b]? = w.heap[b]?) : Ba w' lo a ns := by
 rcases h with h8 | ⟨b, o, e, hl, Zo, hc⟩
 ·exact .inl h8
 ·exact .inr ⟨b, o, e, hl, xT Zo hsz, fun i hi => (World.cell?_of_block (w := w) (a := ⟨b, o + i, none⟩) (hk b hl Zo)).trans (hc i hi)⟩
theorem Ni (h : Ut w lo n ka ks) (hsz : w.heap.size <= w'.heap.size) (hk : ∀ b, lo <= b -> b < w.heap.size -> w'.heap[b]? = w.heap[b]?) : Ut w' lo n ka ks := by
 rcases h with h9 | ⟨b, o, e, hl, Yz, hc⟩
 ·exact .inl h9
 ·have Zo := Nr Yz
  have Aa : N0 w' b := by
   obtain ⟨cs, t, hh⟩ := Yz;exact ⟨cs, t, (hk b hl Zo).trans hh⟩
  refine .inr ⟨b, o, e, hl, Aa, fun i hi => ?_⟩;obtain ⟨c0, c1, c2, c3, e0, e1, e2, e3, ht⟩ := hc i hi
  have U6 : ∀ j, w'.cell? ⟨b, j, none⟩ = w.cell? ⟨b, j, none⟩ := fun j => World.cell?_of_block (w := w) (a := ⟨b, j, none⟩) (hk b hl Zo)
  exact ⟨c0, c1, c2, c3, (U6 _).trans e0, (U6 _).trans e1, (U6 _).trans e2, (U6 _).trans e3, On ht hsz hk⟩
theorem zS (h : Bx w lo n x D) (hsz : w.heap.size <= w'.heap.size) (hk : ∀ b, lo <= b -> b < w.heap.size -> w'.heap[b]? = w.heap[b]?) : Bx w' lo n x D := by
 induction n generalizing x D with
 | zero => exact h.elim
 | succ n ih =>
  obtain ⟨tys, ns, ks, e, h1, h2, h3, h4, h5⟩ := h;refine ⟨tys, ns, ks, e, h1, h2, Ni h3 hsz hk, Fx h4 hsz hk, ?_⟩;rcases h5 with h5 | ⟨b, o, e, hl, Yz, hc⟩
  ·exact .inl h5
  ·have Zo := Nr Yz
   have Aa : N0 w' b := by
    obtain ⟨cs, t, hh⟩ := Yz;exact ⟨cs, t, (hk b hl Zo).trans hh⟩
   refine .inr ⟨b, o, e, hl, Aa, fun i hi => ?_⟩;obtain ⟨y, hy, ht⟩ := hc i hi;exact ⟨y, hy.keep (hk b hl Zo), ih ht⟩
theorem I6 (h : Bx w lo n x D) (hb : Below w.heap.size w w') : Bx w' lo n x D := zS h hb.size fun b _ Zo => hb.block b Zo
theorem tH (h : Ss w lo n ka ks) (hsz : w.heap.size <= w'.heap.size) (hk : ∀ b, lo <= b -> b < w.heap.size -> w'.heap[b]? = w.heap[b]?) : Ss w' lo n ka ks := by
 rcases h with h5 | ⟨b, o, e, hl, Yz, hc⟩
 ·exact .inl h5
 ·have Zo := Nr Yz
  have Aa : N0 w' b := by
   obtain ⟨cs, t, hh⟩ := Yz;exact ⟨cs, t, (hk b hl Zo).trans hh⟩
  refine .inr ⟨b, o, e, hl, Aa, fun i hi => ?_⟩;obtain ⟨y, hy, ht⟩ := hc i hi;exact ⟨y, hy.keep (hk b hl Zo), zS ht hsz hk⟩
theorem tG (h : Ss w lo n ka ks) (hb : Below w.heap.size w w') : Ss w' lo n ka ks := tH h hb.size fun b _ Zo => hb.block b Zo
theorem kK (h : Ut w lo n ka ks) (hb : Below w.heap.size w w') : Ut w' lo n ka ks := Ni h hb.size fun b _ Zo => hb.block b Zo
theorem tF (h : Ss w lo n ka ks) {i : Nat} (hi : i < ks.length) : ∃ b o y, ka = some ⟨b, o, none⟩ /\ b < w.heap.size /\ Em w b (o + i * 8) y /\ Bx w lo n y ks[i] := by
 rcases h with rfl | ⟨b, o, rfl, _, Yz, hc⟩
 ·cases hi
 ·obtain ⟨y, hy, ht⟩ := hc i hi
  exact ⟨b, o, y, rfl, Nr Yz, hy, ht⟩
end
theorem Ix {k k' : Int} {tx tx' : List UInt8} {N N' : Int} {l l' c c' : Nat} {ts ts' : List Ty} {ns ns' : List (List UInt8)} {ks ks' : List Ty} (h : Zn k tx N l c ts ns ks = Zn k' tx' N' l' c' ts' ns' ks') : k = k' /\ tx = tx' /\ N = N' /\ l = l' /\ c = c' /\ ts = ts' /\ ns = ns' /\ ks = ks' := by
 unfold Zn at h
 simp only [DataW.agg.injEq, List.cons.injEq, DataW.lit.injEq, Lit.int.injEq, Lit.string.injEq, true_and, and_true] at h
 obtain ⟨h1, h2, h3, h4, h5, h6, h7, h8⟩ := h
 refine ⟨h1, h2, h3, by omega, by omega, h6, ?_, h8⟩
 have := congrArg (List.map Cb) h7
 rw [List.map_map, List.map_map] at this
 have hid : ∀ l : List (List UInt8), l.map (Cb ∘ fun s => (DataW.lit (.string s) : Ty)) = l := fun l => List.map_id _
 rw [hid, hid] at this
 exact this
end Go.Proofs.YtfoejkhfdiodhaaGreatDoor
namespace Go.Proofs.YtfoejkhfdiodhaaGreatDoor
open Go.Proofs.Tryz
def OkP {α : Type} (ts : List Tok) (r : Pr α) : Prop :=
 match r with
 | .inl (_, a) => a < ts.length
 | .inr (e, l, c) => (e = 6 ∨ e = 7) /\ ∃ t ∈ ts, t.line = l /\ t.col = c
def Ov (ts : List Tok) : Prop := ∀ a, a < ts.length -> (Zk ts a).kind ≠ 0 -> a + 1 < ts.length
section
variable {ts : List Tok} {α β : Type}
theorem tok_in {a : Nat} (h : a < ts.length) : Zk ts a ∈ ts := by
 unfold Zk
 rw [List.getD_eq_getElem?_getD, List.getElem?_eq_getElem h]
 exact List.getElem_mem h
theorem bad_ok {e : Int} (he : e = 6 ∨ e = 7) {a : Nat} (h : a < ts.length) : OkP ts (Wa ts e a : Pr α) := ⟨he, _, tok_in h, rfl, rfl⟩
theorem Q4 (hE : Ov ts) {a : Nat} {s : List UInt8} (h : a < ts.length) (hs : Zh ts a s = true) : a + 1 < ts.length := by
 refine hE a h fun h0 => ?_
 unfold Zh at hs
 rw [h0] at hs
 simp at hs
theorem jS (hE : Ov ts) {a : Nat} (h : a < ts.length) : OkP ts (Zr ts a) := by
 unfold Zr
 split
 ·rename_i hs
  exact hE a h fun h0 => by rw [h0] at hs; simp at hs
 ·exact bad_ok (.inr rfl) h
section
variable {K E U : Nat -> Pr Ty}
end
end
end Go.Proofs.YtfoejkhfdiodhaaGreatDoor
namespace Go.Proofs.YtfoejkhfdiodhaaGreatDoor
open Go.Proofs.Tryz
open Go.RowKit
def Gl (w : World) (tb : Nat) (ts : List Tok) : Prop := ∀ a, a < ts.length ->
 w.cell? ⟨tb, a * 4, none⟩ = some (.int .i64 (Zk ts a).kind) /\ w.cell? ⟨tb, a * 4 + 1, none⟩ = some (.string ⟨(Zk ts a).text.toArray⟩) /\
 w.cell? ⟨tb, a * 4 + 2, none⟩ = some (.int .i64 (Zk ts a).line) /\ w.cell? ⟨tb, a * 4 + 3, none⟩ = some (.int .i64 (Zk ts a).col)
structure Yh (ts : List Tok) : Prop where
 ends : Ov ts
 pos : 0 < ts.length
 len : ts.length <= 8193
 txt : ∀ a, (Zk ts a).text.length <= 70000
 wrd : ∀ a, a < ts.length -> (Zk ts a).kind = 2 -> (Zk ts a).text ≠ [58]
structure Ps (w : World) (pb tb cap : Nat) (ts : List Tok) (a d : Nat) : Prop where
 blk : w.heap[pb]? = some (.cells #[.slice (some ⟨tb, 0, none⟩) ts.length cap, .int .i64 a, .int .i64 d] 74)
 tlt : tb < pb
 toks : Gl w tb ts
 lt : a < ts.length
structure Gk (w : World) (pb tb cap : Nat) (ts : List Tok) (a : Nat) : Prop where
 c0 : w.cell? ⟨pb, 0, none⟩ = some (.slice (some ⟨tb, 0, none⟩) ts.length cap)
 c1 : w.cell? ⟨pb, 1, none⟩ = some (.int .i64 a)
 ltp : pb < w.heap.size
 tlt : tb < w.heap.size
 toks : Gl w tb ts
 lt : a < ts.length
structure Zl (pb : Nat) (w w' : World) : Prop where
 below : Below pb w w'
 keep : ∀ b, pb < b -> b < w.heap.size -> w'.heap[b]? = w.heap[b]?
abbrev F3 (t : Tok) : Value := .agg #[.int .i64 t.kind, .string ⟨t.text.toArray⟩, .int .i64 t.line, .int .i64 t.col]
abbrev M6 (li co e : Int) : Value := .agg #[.int .i64 0, .int .i64 li, .int .i64 co, .int .i64 e]
abbrev vG (e : Int) (li co : Nat) : Ending := .panicked [{ v := .iface 29 (M6 li co e), recovered := false }]
def Z7 {α : Type} (pb tb cap : Nat) (ts : List Tok) (d : Nat) (w : World) (rep : Nat -> World -> Value -> α -> Prop) (r : Pr α) (e : Ending) (w' : World) : Prop :=
 Zl pb w w' /\ match r with
 | .inl (x, b) => Ps w' pb tb cap ts b d /\ ∃ v, e = .returned v /\ rep w.heap.size w' v x
 | .inr (er, li, co) => e = vG er li co
theorem Ye (w : World) (a : Addr) (u : Value) : (w.setCell a u).heap.size = w.heap.size := by simp [World.setCell]
theorem vL (w : World) (a : Addr) (u : Value) (o : Obj) : ((w.setCell a u).alloc o).heap[w.heap.size]? = some o := by
 have := xL (w.setCell a u) o
 rw [Ye] at this
 exact this
section
variable {w w1 w2 : World} {pb tb cap a d : Nat} {ts : List Tok}
theorem Zl.refl (pb : Nat) (w : World) : Zl pb w w := ⟨Below.refl _ _, fun _ _ _ => rfl⟩
theorem Zl.trans (h : Zl pb w w1) (k : Zl pb w1 w2) : Zl pb w w2 := ⟨h.below.trans k.below, fun b hb hl => (k.keep b hb (xT hl h.below.size)).trans (h.keep b hb hl)⟩
theorem Zl.of (hp : pb < w.heap.size) (h : Below w.heap.size w w1) : Zl pb w w1 := ⟨h.mono (Nat.le_of_lt hp), fun b _ hl => h.block b hl⟩
theorem Zl.set (h : Zl pb w w1) (o : Nat) (u : Value) : Zl pb w (w1.setCell ⟨pb, o, none⟩ u) := ⟨h.below.setCell (xR) _, fun b hb hl => (xH (by show b ≠ pb; omega)).trans (h.keep b hb hl)⟩
theorem Zl.drew (h : Zl pb w w1) : Zl pb w w1.drew := ⟨h.below.drew, h.keep⟩
theorem Zl.alloc (h : Zl pb w w1) (hp : pb < w.heap.size) (o : Obj) : Zl pb w (w1.alloc o) := ⟨h.below.alloc (by have := h.below.size; omega) _, fun b hb hl => (xA (xT hl h.below.size)).trans (h.keep b hb hl)⟩
theorem Zl.own (h : Zl pb w w1) {b : Nat} (hp : pb < w.heap.size) (hb : w.heap.size <= b) (o : Nat) (u : Value) : Zl pb w (w1.setCell ⟨b, o, none⟩ u) := ⟨h.below.setCell (by show pb <= b; omega) _, fun c _ hl => (xH (by show c ≠ b; omega)).trans (h.keep c ‹_› hl)⟩
theorem Zl.undrew (h : Zl pb w.drew w1) : Zl pb w w1 := ⟨⟨h.below.os, h.below.tape, h.below.output, h.below.size, h.below.block⟩, h.keep⟩
theorem Zl.size (h : Zl pb w w1) : w.heap.size <= w1.heap.size := h.below.size
theorem Ps.ltp (h : Ps w pb tb cap ts a d) : pb < w.heap.size := xB h.blk
theorem Ps.cells (h : Ps w pb tb cap ts a d) : w.cell? ⟨pb, 0, none⟩ = some (.slice (some ⟨tb, 0, none⟩) ts.length cap) /\ w.cell? ⟨pb, 1, none⟩ = some (.int .i64 a) /\ w.cell? ⟨pb, 2, none⟩ = some (.int .i64 d) := by
 refine ⟨?_, ?_, ?_⟩ <;> (rw [cell_of_row _ _ _ _ _ _ h.blk]; rfl)
theorem Ps.fz (h : Ps w pb tb cap ts a d) (o : Nat) : w.frozen? ⟨pb, o, none⟩ = false := by simp [World.frozen?, h.blk]
theorem Qk (h : Gl w tb ts) (hk : w1.heap[tb]? = w.heap[tb]?) : Gl w1 tb ts := fun i hi => by
 have hc : ∀ j, w1.cell? ⟨tb, j, none⟩ = w.cell? ⟨tb, j, none⟩ := fun j => World.cell?_of_block (w := w) (a := ⟨tb, j, none⟩) hk
 obtain ⟨q0, q1, q2, q3⟩ := h i hi
 exact ⟨(hc _).trans q0, (hc _).trans q1, (hc _).trans q2, (hc _).trans q3⟩
theorem Ps.below (h : Ps w pb tb cap ts a d) (hb : Below w.heap.size w w1) : Ps w1 pb tb cap ts a d :=
 ⟨(hb.block _ h.ltp).trans h.blk, h.tlt, Qk h.toks (hb.block _ (Nat.lt_trans h.tlt h.ltp)), h.lt⟩
theorem Ps.alloc (h : Ps w pb tb cap ts a d) (o : Obj) : Ps (w.alloc o) pb tb cap ts a d := h.below (Zq _ _)
theorem Ps.drew (h : Ps w pb tb cap ts a d) : Ps w.drew pb tb cap ts a d := h.below (Below.refl _ _).drew
theorem Ps.other (h : Ps w pb tb cap ts a d) {b : Nat} (hb : pb < b) (o : Nat) (u : Value) : Ps (w.setCell ⟨b, o, none⟩ u) pb tb cap ts a d :=
 ⟨(xH (by show pb ≠ b; omega)).trans h.blk, h.tlt, Qk h.toks (xH (by show tb ≠ b; have := h.tlt; omega)), h.lt⟩
theorem Ps.setAt (h : Ps w pb tb cap ts a d) {b : Nat} (hb : b < ts.length) : Ps (w.setCell ⟨pb, 1, none⟩ (.int .i64 b)) pb tb cap ts b d :=
 ⟨Xe h.blk, h.tlt, Qk h.toks (xH (by show tb ≠ pb; have := h.tlt; omega)), hb⟩
theorem Ps.setDeep (h : Ps w pb tb cap ts a d) (b : Nat) : Ps (w.setCell ⟨pb, 2, none⟩ (.int .i64 b)) pb tb cap ts a b :=
 ⟨Xe h.blk, h.tlt, Qk h.toks (xH (by show tb ≠ pb; have := h.tlt; omega)), h.lt⟩
theorem Ps.rd (h : Ps w pb tb cap ts a d) : Gk w pb tb cap ts a := ⟨h.cells.1, h.cells.2.1, h.ltp, Nat.lt_trans h.tlt h.ltp, h.toks, h.lt⟩
theorem Gk.below (h : Gk w pb tb cap ts a) (hb : Below w.heap.size w w1) : Gk w1 pb tb cap ts a :=
 ⟨(hb.cell (p := ⟨pb, 0, none⟩) h.ltp).trans h.c0, (hb.cell (p := ⟨pb, 1, none⟩) h.ltp).trans h.c1, xT h.ltp hb.size, xT h.tlt hb.size, Qk h.toks (hb.block _ h.tlt), h.lt⟩
end
theorem tW (pb tb cap a : Nat) (ts : List Tok) (w : World) (h : Gk w pb tb cap ts a) :
  Calls prog 63 #[pP pb] w fun e w' => e = .returned (F3 (Zk ts a)) /\ Below w.heap.size w w' := by
 have c0 := h.c0
 have c1 := h.c1
 obtain ⟨t0, t1, t2, t3⟩ := h.toks a h.lt
 have Zo : (a : Int) < (ts.length : Int) := by have := h.lt; omega
 generalize Zk ts a = t at t0 t1 t2 t3 ⊢
 have hp := h.ltp
 have Ww : tb < w.heap.size := h.tlt
 clear h
 go_enter func63, ntmps63
 go_wp2
 go_region
 all_goals
  go_wp2;refine bodyPost_ret (results_cell_row rfl _ _ w.heap.size 81 #[.int .i64 t.kind, .string ⟨t.text.toArray⟩, .int .i64 t.line, .int .i64 t.col] (0, 0) _ rfl (xL w _) underlying81 rfl (by kernel_rfl)) rfl ⟨rfl, ?_⟩;exact (Zq _ _).drew
theorem B9 (pb tb cap a d : Nat) (ts : List Tok) (w : World) (h : Ps w pb tb cap ts a d) :
  Calls prog 63 #[pP pb] w fun e w' => e = .returned (F3 (Zk ts a)) /\ Below w.heap.size w w' := tW pb tb cap a ts w h.rd
abbrev zTok : Obj := .cells #[.int .i64 0, .string ⟨#[]⟩, .int .i64 0, .int .i64 0] 81
theorem Bq (pb tb cap a d : Nat) (ts : List Tok) (w : World) (h : Ps w pb tb cap ts a d) (hb : a + 1 < ts.length) (hts : ts.length <= 8193) :
  Calls prog 113 #[pP pb] w fun e w' => e = .returned (F3 (Zk ts a)) /\ Zl pb w w' /\ Ps w' pb tb cap ts (a + 1) d := by
 have H := Za h
 clear h
 go_enter func113, ntmps113
 go_wp2_with fail
 refine (B9 pb tb cap a d ts _ (H.o.below (Zq _ _))).mono ?_
 rintro e w1 ⟨rfl, Zt⟩
 have P1 := Za (H.o.below (Zx (Zq _ _) Zt))
 have Yl := Za (Zx (Zq _ _) Zt)
 have hr : w1.heap[w.heap.size]? = some zTok := (Zt.block _ (by simp)).trans (xL w _)
 obtain ⟨⟨r0, r1, r2, r3⟩, ⟨f0, f1, f2, f3⟩, Yn⟩ := Z6 hr
 have HR := Za hr
 obtain ⟨c0, c1, c2⟩ := P1.o.cells
 have z1 := P1.o.fz 1
 have Qi := P1.o.ltp
 have hpw : ¬ pb = w.heap.size := by have := H.o.ltp; omega
 have hpw' : ¬ w.heap.size = pb := by have := H.o.ltp; omega
 clear Zt hr
 go_wp2_with fail
 have e1 : ((a : Int) + 1) = ((a + 1 : Nat) : Int) := by omega
 rw [e1]
 refine bodyPost_ret (results_cell_row rfl _ _ w.heap.size 81 #[.int .i64 (Zk ts a).kind, .string ⟨(Zk ts a).text.toArray⟩, .int .i64 (Zk ts a).line, .int .i64 (Zk ts a).col] (0, 0) _ rfl ?_ underlying81 rfl (by kernel_rfl)) rfl ⟨rfl, ?_, ?_⟩
 ·rw [xA (by simpa [World.setCell] using Yn)]
  exact set4 ((xH hpw').trans HR.o) _ _ _ _
 ·have hp := H.o.ltp
  exact (((((((Zl.of hp Yl.o).set 1 _).own hp (xR) 0 _).own hp (xR) 1 _).own hp (xR) 2 _).own hp (xR) 3 _).alloc hp _)
 ·have hp := H.o.ltp
  exact ((((((P1.o.setAt hb).other hp 0 _).other hp 1 _).other hp 2 _).other hp 3 _).alloc _)
theorem Az (pb tb cap a d : Nat) (ts : List Tok) (w : World) (h : Ps w pb tb cap ts a d) (x : Int) :
  Calls prog 64 #[pP pb, .int .i64 x] w fun e w' => e = .returned (M6 (Zk ts a).line (Zk ts a).col x) /\ Below w.heap.size w w' := by
 have H := Za h
 clear h
 go_enter func64, ntmps64
 go_wp2_with fail
 refine (B9 pb tb cap a d ts _ (H.o.below (Zq _ _))).mono ?_
 rintro e w1 ⟨rfl, Zt⟩
 have Yl := Za (Zx (Zq _ _) Zt)
 have hr := (Zt.block w.heap.size (by simp)).trans (xL w _)
 obtain ⟨⟨r0, r1, r2, r3⟩, ⟨f0, f1, f2, f3⟩, Yn⟩ := Z6 hr
 have HR := Za hr
 clear Zt hr
 go_wp2_with fail
 refine bodyPost_ret (results_cell_row rfl _ _ w.heap.size 29 #[.int .i64 0, .int .i64 (Zk ts a).line, .int .i64 (Zk ts a).col, .int .i64 x] (0, 0) _ rfl ?_ underlying29 rfl (by kernel_rfl)) rfl ⟨rfl, ?_⟩
 ·rw [xA (by simpa [World.setCell] using Yn)]
  exact set4 HR.o _ _ _ _
 ·exact (V9 Yl.o (xR) _ _ _ _).alloc (by simp [World.setCell]; omega) _
def Hn (L : List (List UInt8)) (s : List UInt8) : Int := match L.findIdx? (· == s) with
 | some i => i
 | none => -1
theorem l7 {L : List (List UInt8)} {s : List UInt8} {j : Nat} (hj : j < L.length) (h : (L[j] == s) = true) (Vb : ∀ m (hm : m < L.length), m < j -> (L[m] == s) = false) : Hn L s = j := by
 have : L.findIdx? (· == s) = some j := List.findIdx?_eq_some_iff_getElem.2 ⟨hj, h, fun m hm => by rw [Vb m (by omega) hm]; simp⟩
 rw [Hn, this]
theorem l6 {L : List (List UInt8)} {s : List UInt8} (Vb : ∀ m (hm : m < L.length), (L[m] == s) = false) : Hn L s = -1 := by
 have : L.findIdx? (· == s) = none := List.findIdx?_eq_none_iff.2 fun x hx => by
  obtain ⟨m, hm, rfl⟩ := List.mem_iff_getElem.1 hx;exact Vb m hm
 rw [Hn, this]
theorem kC (xb cap : Nat) (L : List (List UInt8)) (s : List UInt8) (w : World) (hL : ∀ i (h : i < L.length), w.cell? ⟨xb, i, none⟩ = some (.string ⟨L[i].toArray⟩)) (hl : L.length <= 100) :
  Calls prog 112 #[.slice (some ⟨xb, 0, none⟩) L.length cap, .string ⟨s.toArray⟩] w fun e w' => e = .returned (.int .i64 (Hn L s)) /\ ∃ q, w' = w.drewN q := by
 have HL := Za hL
 clear hL
 go_enter func112, ntmps112
 go_wp2_with fail
 go_loopw [5, 8] (fun _ i wx => ∃ j q : Nat, i = .int .i64 j /\ j <= L.length /\ wx = w.drewN q /\ xQ (∀ m (hm : m < L.length), m < j -> (L[m] == s) = false)) (fun _ i _ => L.length - (intOf i).toNat)
 case atStart => exact ⟨0, 0, rfl, xZ _, rfl, fun _ _ h => absurd h (Nat.not_lt_zero _)⟩
 case round =>
  obtain ⟨j, q, rfl, hj, rfl, Vb⟩ := hrel;by_cases Zo : j < L.length
  ·have Qt : (j : Int) < (L.length : Int) := by omega
   have hc := HL.o j Zo
   obtain ⟨S1, P7⟩ : ∃ S1 : ByteArray, S1 = ⟨L[j].toArray⟩ := ⟨_, rfl⟩
   obtain ⟨S0, Vx⟩ : ∃ S0 : ByteArray, S0 = ⟨s.toArray⟩ := ⟨_, rfl⟩
   rw [<- P7] at hc;rw [<- Vx]
   cases he : (L[j] == s) with
   | true =>
    have e5 : (S0.toList == S1.toList) = true := Ge.2 (by rw [P7, Vx, beq_iff_eq.1 he]);have HE := Za he;have HS := Za (And.intro P7 Vx);clear he P7 Vx;go_wp2_with fail;go_ret;refine ⟨?_, q, rfl⟩;exact congrArg (fun x => Ending.returned (.int .i64 x)) (l7 Zo HE.o Vb.o).symm
   | false =>
    have e5 : (S0.toList == S1.toList) = false := by
     rw [P7, Vx, ByteArray.toList_eq, ByteArray.toList_eq, beq_eq_false_iff_ne]
     exact fun e => beq_eq_false_iff_ne.1 he (by simpa using e.symm)
    have HE := Za he;have HS := Za (And.intro P7 Vx);clear he P7 Vx;go_wp2_with fail;refine ⟨⟨j + 1, _, by go_num, by omega, rfl, ?_⟩, by simp [intOf]; omega⟩;intro m hm hlm;by_cases hmj : m = j
    ·subst hmj; exact HE.o
    ·exact Vb.o m hm (by omega)
  ·have Qt : ¬ (j : Int) < (L.length : Int) := by omega
   go_wp2_with fail;go_ret;refine ⟨?_, q, rfl⟩;exact congrArg (fun x => Ending.returned (.int .i64 x)) (l6 fun m hm => Vb.o m hm (by omega)).symm
end Go.Proofs.YtfoejkhfdiodhaaGreatDoor
