/- Part. -/
import Derived.Deep.RegionHeld
import Derived.Deep.RegionWith
import Derived.RegionTactic
import Derived.Test.YtbnjllkkhhkkaaaGreatDoorPart2
set_option maxRecDepth 100000
set_option maxHeartbeats 4000000
namespace Go.Proofs.YtbnjllkkhhkkaaaGreatDoor
open Tryz
open Go.RowKit
theorem Ot {w0 wr : World} {n : Nat} {v : Value} {Ds : List Ty} {ps : List (Value × List Ty)} {vs : List Value} (h : Wo w0 wr true n v Ds ps vs) (hne : Ds ≠ []) : 1 + V9 n ps = Vw (Ds.map (Xf (n + 1))) := by
 apply Nat.le_antisymm
 ·have h1 : V9 n ps ≤ Vw (Ds.map (Xf (n + 1))) - 1 := by
   refine Ld fun a ha => ?_
   obtain ⟨p, hp, rfl⟩ := List.mem_map.1 ha
   obtain ⟨D, hD, e⟩ := h.fr p hp
   have := P3 (List.mem_map.2 ⟨D, hD, rfl⟩ : Xf (n + 1) D ∈ Ds.map (Xf (n + 1)))
   rw [Xf] at this
   rw [e]
   omega
  obtain ⟨D, rest, e⟩ := List.exists_cons_of_ne_nil hne
  have h2 := P3 (List.mem_map.2 ⟨D, by rw [e]; simp, rfl⟩ : Xf (n + 1) D ∈ Ds.map (Xf (n + 1)))
  rw [Xf] at h2
  omega
 ·refine Ld fun a ha => ?_
  obtain ⟨D, hD, rfl⟩ := List.mem_map.1 ha
  rw [Xf]
  by_cases hk : Vl D = []
  ·rw [hk]
   simp [Vw]
  ·obtain ⟨p, hp, e⟩ := h.al rfl D hD hk
   have := P3 (List.mem_map.2 ⟨p, hp, rfl⟩ : Vw (p.2.map (Xf n)) ∈ ps.map fun p => Vw (p.2.map (Xf n)))
   rw [e] at this
   unfold V9
   omega
theorem zfm {w : World} {u : Bool} {n : Nat} {ps : List (Value × List Ty)} (h : ∀ p ∈ ps, Un w u n p.1 p.2) (hne : ps ≠ []) : 1 ≤ V9 n ps := by
 obtain ⟨p, rest, rfl⟩ := List.exists_cons_of_ne_nil hne
 obtain ⟨b, o, c, _, hne2, _, hk⟩ := h p (by simp)
 obtain ⟨D, ks, e⟩ := List.exists_cons_of_ne_nil hne2
 have hm : ∃ m, n = m + 1 := by
  rcases hk with hk | ⟨_, _, _, _, hc⟩
  ·exact absurd hk hne2
  ·obtain ⟨_, _, _, _, _, _, _, _, ht⟩ := hc 0 (List.length_pos_iff.2 hne2)
   cases n with
   | zero => exact ht.elim
   | succ m => exact ⟨m, rfl⟩
 obtain ⟨m, rfl⟩ := hm
 have h1 := P3 (List.mem_map.2 ⟨D, by rw [e]; simp, rfl⟩ : Xf (m + 1) D ∈ p.2.map (Xf (m + 1)))
 have h2 := P3 (List.mem_map.2 ⟨p, by simp, rfl⟩ : Vw (p.2.map (Xf (m + 1))) ∈ (p :: rest).map fun p => Vw (p.2.map (Xf (m + 1))))
 rw [Xf] at h1
 unfold V9
 omega
theorem zbt {w : World} {u : Bool} {n : Nat} {ps : List (Value × List Ty)} (h : ∀ p ∈ ps, Un w u n p.1 p.2) (hne : ps ≠ []) : (ps.map (·.2)).flatten ≠ [] := by
 obtain ⟨p, rest, rfl⟩ := List.exists_cons_of_ne_nil hne
 obtain ⟨b, o, c, _, hne2, _, hk⟩ := h p (by simp)
 simp [hne2]
def Ln (w : World) (u : Bool) (m : Nat) (v : Value) (ps : List (Value × List Ty)) : Prop :=
 ∃ a c, v = .slice a ps.length c ∧ Lb w a (ps.map (·.1)) ∧ (∀ p ∈ ps, Un w u m p.1 p.2) ∧ Qc m ps ≤ 1000
theorem Cw {w0 wr : World} {u : Bool} {n : Nat} {v : Value} {Ds : List Ty} {ps : List (Value × List Ty)} {vs : List Value} (h : Wo w0 wr u n v Ds ps vs) (ht : (Ds.map (Wl (n + 1))).sum ≤ 1000) : Ln wr u n v ps := by
 obtain ⟨a, c, e, hr, _⟩ := zhk h.ow
 rw [List.length_map] at e
 exact ⟨a, c, e, hr, fun p hp => Ay (h.ls p hp) h.bl, Nat.le_trans h.tt ht⟩
theorem E7 {w : World} {u : Bool} {n : Nat} {k : Nat} {tx : ByteArray} {N : Nat} {pq : PX} {ka : Option Addr} {kl kc : Nat} {D : Ty} {B : Nat} (hB : B = w.heap.size) (h : V4 w n k tx N pq ka kl kc D) (hs : Wl n D ≤ 1000) :
  Ln ((w.alloc (Xl k tx N pq ka kl kc)).alloc (.cells #[.slice (some ⟨B, 0, none⟩) 1 1] 25)) u n (.slice (some ⟨B + 1, 0, none⟩) 1 1) [(.slice (some ⟨B, 0, none⟩) 1 1, [D])] := by
 subst hB
 have hb := Zn (Zl w (Xl k tx N pq ka kl kc)) (Zl _ (.cells #[.slice (some ⟨w.heap.size, 0, none⟩) 1 1] 25))
 have h0 : ((w.alloc (Xl k tx N pq ka kl kc)).alloc (.cells #[.slice (some ⟨w.heap.size, 0, none⟩) 1 1] 25)).heap[w.heap.size]? = some (Xl k tx N pq ka kl kc) := by
  rw [xA (by simp)]
  exact xL w _
 have h1 : ((w.alloc (Xl k tx N pq ka kl kc)).alloc (.cells #[.slice (some ⟨w.heap.size, 0, none⟩) 1 1] 25)).heap[w.heap.size + 1]? = some (.cells #[.slice (some ⟨w.heap.size, 0, none⟩) 1 1] 25) := Wn w _ _
 refine ⟨_, _, rfl, .inr ⟨_, 0, rfl, xB h1, fun i hi => ?_⟩, fun p hp => ?_, by simpa [Qc] using hs⟩
 ·obtain rfl : i = 0 := by simp at hi; omega
  rw [cell_of_row _ _ _ _ _ _ h1]
  rfl
 ·rw [List.mem_singleton.1 hp]
  refine ⟨_, _, _, rfl, by simp, by simp [reachBytes], .inr ⟨_, _, rfl, ⟨_, _, h0⟩, fun i hi => ?_⟩⟩
  obtain rfl : i = 0 := by simp at hi; omega
  exact ⟨k, tx, N, pq, ka, kl, kc, by simpa using (N5 h0).1, N3 h hb⟩
theorem Oc (u : Bool) (v : Value) (ps : List (Value × List Ty)) (w : World) (h : Ln w u 0 v ps) : ps = [] := by
 obtain ⟨a, c, _, _, hls, _⟩ := h
 cases ps with
 | nil => rfl
 | cons p ps =>
  obtain ⟨b, o, c, _, hne2, _, hk⟩ := hls p (by simp)
  rcases hk with hk | ⟨_, _, _, _, hc⟩
  ·exact absurd hk hne2
  ·obtain ⟨_, _, _, _, _, _, _, _, ht⟩ := hc 0 (List.length_pos_iff.2 hne2)
   exact ht.elim
theorem Iv (n : Nat) (k : Nat) (tx : ByteArray) (N : Nat) (pq : PX) (ka : Option Addr) (kl kc : Nat) (D : Ty) (S : Ty → Prop) (fb : Ty → Bool) (w : World) (h : V4 w (n + 1) k tx N pq ka kl kc D) (hs : Wl (n + 1) D ≤ 1000) (hh : Xf (n + 1) D ≤ 25) (hn : S D) (hS : ∀ D, S D → ∀ x ∈ Vl D, S x) (hfb : ∀ D, S D → fb D = true) (hf : Bw w S fb) :
  Calls prog 94 #[Tv k tx N pq ka kl kc, .int .i64 25, Jh, Pn] w fun e w' => e = .returned (.bool true) ∧ Below w.heap.size w w' := by
 have hb1 := Zn (Zl w (Xl k tx N pq ka kl kc)) (Zl _ (.cells #[Pn] 96))
 have hlv := E7 (u := true) (B := w.heap.size + 1 + 1) (by simp) (N3 h hb1) hs
 have hb2 := Zn (Zn hb1 (Zl _ (Xl k tx N pq ka kl kc))) (Zl _ (.cells #[.slice (some ⟨w.heap.size + 1 + 1, 0, none⟩) 1 1] 25))
 obtain ⟨W, hW⟩ := xE ((((w.alloc (Xl k tx N pq ka kl kc)).alloc (.cells #[Pn] 96)).alloc (Xl k tx N pq ka kl kc)).alloc (.cells #[.slice (some ⟨w.heap.size + 1 + 1, 0, none⟩) 1 1] 25))
 have hxb : W.heap[w.heap.size + 1]? = some (.cells #[Pn] 96) := by
  rw [hW, xA (by simp), xA (by simp)]
  exact Wn w _ _
 rw [← hW] at hlv hb2
 have HLV := Za hlv
 have HB2 := Za hb2
 have HXB := Za hxb
 have HWW := Za hW
 have HF := Za hf
 have HSS := Za hS
 have HFB := Za hfb
 have HH := Za hh
 have HN := Za hn
 have HI : xQ (V9 (n + 1) [(Value.slice (some ⟨w.heap.size + 1 + 1, 0, none⟩) 1 1, [D])] + 0 = Xf (n + 1) D) := by
  show _ = _
  simp [V9, Vw]
 clear hb1 hlv hb2 hxb hW hf hn h hs hS hfb hh
 go_enter func94, ntmps94
 go_wp2_with fail
 go_loopw [9, 10] (fun l s wr => ∃ (h m : Nat) (ps : List (Value × List Ty)), s = .int .i64 h ∧ h ≤ 25 ∧ xQ (Ln wr true m l ps) ∧ xQ (V9 m ps + h = Xf (n + 1) D) ∧ xQ (∀ p ∈ ps, ∀ x ∈ p.2, S x) ∧ xQ (Below W.heap.size W wr)) (fun _ s _ => 26 - (intOf s).toNat)
 case atStart =>
  refine ⟨0, n + 1, _, rfl, by omega, by show Ln _ _ _ _ _; rw [← HWW.o]; exact HLV.o, HI, ?_, by show Below _ _ _; rw [← HWW.o]; exact Below.refl _ _⟩
  intro p hp x hx
  rw [List.mem_singleton.1 hp] at hx
  rw [List.mem_singleton.1 hx]
  exact HN.o
 case round =>
  obtain ⟨h, m, ps, rfl, h2, hlv, hhi, hnn, hb⟩ := hrel
  have hlv' := hlv.o
  obtain ⟨a, c, rfl, hrow, hls, htot⟩ := hlv'
  have htl : ps.length ≤ 1000 := Nat.le_trans (L4 hls) htot
  have HLS := Za hls
  have HT := Za htot
  have HR := Za hrow
  have HBW := Za (Zn HB2.o hb.o)
  have hxr := (hb.o.block _ (xB HXB.o)).trans HXB.o
  clear hrow hls htot
  by_cases hz : ps = []
  ·subst hz
   clear hlv HLS hxr
   go_wp2_with fail
   go_ret
   exact ⟨rfl, HBW.o⟩
  ·have hp : 1 ≤ ps.length := List.length_pos_iff.2 hz
   have hpi : (0 : Int) < (ps.length : Int) := by omega
   by_cases hh : h = 25
   ·have h1 := hhi.o
    have h3 := zfm HLS.o hz
    have := HH.o
    omega
   ·have h16 : h < 25 := by omega
    have hhe : ((h : Int) == 25) = false := by rw [beq_eq_false_iff_ne]; omega
    cases m with
    | zero => exact absurd (Oc true _ _ _ hlv.o) hz
    | succ m =>
     have hcx : wr.cell? ⟨w.heap.size + 1, 0, none⟩ = some Pn := by rw [cell_of_row _ _ _ _ _ _ hxr]; rfl
     have HC1 := Za (zfa (m + 1) (w.heap.size + 1) S fb a c ps wr hcx (fun n k tx N pq ka kl kc D wx hwx => HF.o n k tx N pq ka kl kc D wx (Zn HBW.o hwx)) HR.o HLS.o (by omega) hnn.o)
     have hqa : (ps.all fun q => q.2.all fb) = true := by
      rw [List.all_eq_true]
      intro q hq
      rw [List.all_eq_true]
      exact fun x hx => HFB.o x (hnn.o q hq x hx)
     rw [hqa] at HC1
     clear hqa
     have HNE := Za (zbt HLS.o hz)
     clear hlv hz hh hxr hcx
     go_wp2_with fail
     refine HC1.o.mono ?_
     rintro e w1 ⟨rfl, hb1⟩
     have hb1' := Zn hb.o hb1
     have hr1 : Lb w1 a (ps.map (·.1)) := by
      rcases HR.o with h0 | ⟨b, o, e, hbb, hc⟩
      ·exact .inl h0
      ·exact .inr ⟨b, o, e, xT hbb hb1.size, fun i hi => (hb1.cell (p := ⟨b, o + i, none⟩) hbb).trans (hc i hi)⟩
     have HC2 := Za (E5 true m ps a c w1 hr1 (fun q hq => Ay (HLS.o q hq) hb1) HT.o)
     have HB1 := Za hb1'
     clear hb1 hb1' hr1
     go_wp2_with fail
     refine HC2.o.mono ?_
     rintro e w2 ⟨v2, ps2, vs2, rfl, hlev⟩
     have HLV2 := Za (Cw hlev (by rw [zgn]; exact HT.o))
     have HB3 := Za (Zn HB1.o hlev.bl)
     have HI2 : xQ (V9 m ps2 + (h + 1) = Xf (n + 1) D) := by
      show _ = _
      have h1 := hhi.o
      have h3 := Ot hlev HNE.o
      rw [← O1] at h3
      omega
     have HN2 : xQ (∀ p ∈ ps2, ∀ x ∈ p.2, S x) := by
      intro p hp x hx
      obtain ⟨D', hD', e⟩ := hlev.fr p hp
      rw [e] at hx
      obtain ⟨L, hL, hDL⟩ := List.mem_flatten.1 hD'
      obtain ⟨q, hq, rfl⟩ := List.mem_map.1 hL
      exact HSS.o D' (hnn.o q hq D' hDL) x hx
     clear hlev
     go_wp2_with fail
     exact ⟨⟨h + 1, m, ps2, by go_num, by omega, HLV2, HI2, HN2, HB3⟩, by simp [intOf]; omega⟩
theorem zhe (k : Nat) (tx : ByteArray) (N : Nat) (pq : PX) (ka : Option Addr) (kl kc : Nat) (r : Bool) (w : World) (h : ∀ wx, Below w.heap.size w wx → Calls prog 94 #[Tv k tx N pq ka kl kc, .int .i64 25, Jh, Pn] wx fun e w' => e = .returned (.bool r) ∧ Below wx.heap.size wx w') :
  Calls prog 51 #[Tv k tx N pq ka kl kc] w fun e w' => e = .returned (.bool r) ∧ Below w.heap.size w w' := by
 have hb := Zl w (Xl k tx N pq ka kl kc)
 have HC := Za (h _ hb)
 have HB := Za hb
 clear hb h
 go_enter func51, ntmps51
 go_wp2_with fail
 refine HC.o.mono ?_
 rintro e w1 ⟨rfl, hb1⟩
 have HB1 := Za (Zn HB.o hb1)
 clear hb1
 go_wp2_with fail
 go_ret
 exact ⟨rfl, HB1.o⟩
def N9 (w : World) (k : Nat) (tx : ByteArray) (N : Nat) (pq : PX) (ka : Option Addr) (kl kc : Nat) (t : List UInt8) : Prop := ∀ wx, Below w.heap.size w wx → Calls prog 52 #[Tv k tx N pq ka kl kc] wx fun e w' => (∃ s : ByteArray, e = .returned (.string s) ∧ s.data.toList = t ∧ s.size ≤ 1000) ∧ Below wx.heap.size wx w'
theorem Ck (tx : ByteArray) (hs : tx.size ≤ 1000) (N : Nat) (pq : PX) (ka : Option Addr) (kl kc : Nat) (w : World) : N9 w 4 tx N pq ka kl kc tx.data.toList := by
 intro wx _
 go_enter func52, ntmps52
 go_wp2_with fail
 go_ret
 exact ⟨⟨_, rfl, rfl, hs⟩, Zl _ _⟩
def Mz (w : World) (ka : Option Addr) (kl i : Nat) (t : List UInt8) : Prop := i < kl ∧ kl ≤ 1000 ∧ ∃ b o k tx N pq la ll lc, ka = some ⟨b, o, none⟩ ∧ b < w.heap.size ∧ My w b (o + i * 8) k tx N pq la ll lc ∧ N9 w k tx N pq la ll lc t
theorem Mz.below {w w' : World} {ka : Option Addr} {kl i : Nat} {t : List UInt8} (h : Mz w ka kl i t) (hb : Below w.heap.size w w') : Mz w' ka kl i t := by
 obtain ⟨h1, h2, b, o, k, tx, N, pq, la, ll, lc, e, hlt, q, hx⟩ := h
 exact ⟨h1, h2, b, o, k, tx, N, pq, la, ll, lc, e, xT hlt hb.size, q.below hlt hb, fun wx hwx => hx wx (Zn hb hwx)⟩
theorem Dt (T k : Nat) (tx : ByteArray) (N : Nat) (pq : PX) (ka : Option Addr) (kl kc i : Nat) (t : List UInt8) (w : World) (hT : w.heap[T]? = some (Xl k tx N pq ka kl kc)) (h : Mz w ka kl i t) :
  Calls prog 97 #[.int .i64 i, .pointer (some ⟨T, 0, none⟩)] w fun e w' => (∃ s : ByteArray, e = .returned (.string s) ∧ s.data.toList = t ∧ s.size ≤ 1000) ∧ Below w.heap.size w w' := by
 obtain ⟨h1, h2, b, o, k', tx', N', pq', la, ll, lc, rfl, hlt, ⟨r0, r1, r2, r3, r4, r5, r6, r7⟩, hx⟩ := h
 obtain ⟨⟨x0, x1, x2, x3, x4, x5, x6, x7⟩, hltx⟩ := N5 hT
 simp only [Nat.zero_add] at x0 x1 x2 x3 x4 x5 x6 x7
 have hil : (i : Int) < (kl : Int) := by omega
 have HC := Za (hx w (Below.refl _ _))
 clear hx hT
 go_enter func97, ntmps97
 go_wp2_with fail
 refine HC.o.mono ?_
 rintro e w' ⟨⟨s, rfl, hs, hz⟩, hb⟩
 have HS := Za hs
 have HB := Za hb
 clear hs hb
 go_wp2_with fail
 go_ret
 exact ⟨⟨_, rfl, HS.o, hz⟩, HB.o⟩
theorem zfe (tx : ByteArray) (N : Nat) (pq : PX) (ka : Option Addr) (kl kc : Nat) (t u : List UInt8) (w : World) (h0 : Mz w ka kl 0 t) (h1 : Mz w ka kl 1 u) (hl : t.length + u.length + tx.size ≤ 990) : N9 w 14 tx N pq ka kl kc (40 :: t ++ 32 :: tx.data.toList ++ 32 :: u ++ [41]) := by
 intro wx hwx
 have hb := Zl wx (Xl 14 tx N pq ka kl kc)
 have hT : (wx.alloc (Xl 14 tx N pq ka kl kc)).heap[wx.heap.size]? = some (Xl 14 tx N pq ka kl kc) := xL _ _
 obtain ⟨W, hW⟩ := xE (wx.alloc (Xl 14 tx N pq ka kl kc))
 rw [← hW] at hb hT
 have HC0 : xQ (∀ wy, Below W.heap.size W wy → Calls prog 97 #[.int .i64 0, .pointer (some ⟨wx.heap.size, 0, none⟩)] wy fun e w' => (∃ s : ByteArray, e = .returned (.string s) ∧ s.data.toList = t ∧ s.size ≤ 1000) ∧ Below W.heap.size W w') := fun wy hwy => (Dt wx.heap.size 14 tx N pq ka kl kc 0 t wy ((hwy.block _ (xB hT)).trans hT) (h0.below (Zn (Zn hwx hb) hwy))).mono fun e w' ⟨e1, e2⟩ => ⟨e1, Zn hwy e2⟩
 have HC1 : xQ (∀ wy, Below W.heap.size W wy → Calls prog 97 #[.int .i64 1, .pointer (some ⟨wx.heap.size, 0, none⟩)] wy fun e w' => (∃ s : ByteArray, e = .returned (.string s) ∧ s.data.toList = u ∧ s.size ≤ 1000) ∧ Below W.heap.size W w') := fun wy hwy => (Dt wx.heap.size 14 tx N pq ka kl kc 1 u wy ((hwy.block _ (xB hT)).trans hT) (h1.below (Zn (Zn hwx hb) hwy))).mono fun e w' ⟨e1, e2⟩ => ⟨e1, Zn hwy e2⟩
 have zhu : xQ (∀ wy, Below W.heap.size W wy → wy.cell? ⟨wx.heap.size, 1, none⟩ = some (.string tx)) := fun wy hwy => by
  have := (N5 ((hwy.block _ (xB hT)).trans hT)).1.2.1
  simpa using this
 have hS0 := zhu.o W.drew (Below.refl _ _).drew
 have HB := Za hb
 have HL := Za hl
 have htx : tx.size ≤ 990 := by omega
 subst hW
 clear hb hT h0 h1 hwx hl
 go_enter func52, ntmps52
 go_wp2_with fail
 go_region_held (fun W => W.cell? ⟨wx.heap.size, 1, none⟩ = some (.string tx)) (assumption) (first
  | (go_at_call 97; refine (HC0.o _ (by first | exact Below.refl _ _ | exact below_drewN (Below.refl _ _) _ | exact (Below.refl _ _).drew)).mono ?_; rintro e w1 ⟨⟨s0, rfl, hs0, hz0⟩, hb1⟩; have t0 := zhu.o _ hb1; have HS0 := Za hs0; have HB1 := Za hb1; have v1 : ¬ 9223372036854775807 < 1 + s0.size := (by omega); have v2 : ¬ 9223372036854775807 < 1 + s0.size + 1 := (by omega); have v3 : ¬ 9223372036854775807 < 1 + s0.size + 1 + tx.size := (by omega); have v4 : ¬ 9223372036854775807 < 1 + s0.size + 1 + tx.size + 1 := (by omega); clear hs0 hb1)
  | (go_at_call 97; refine (HC1.o _ (by first | exact HB1.o | exact below_drewN HB1.o _ | exact HB1.o.drew)).mono ?_; rintro e w2 ⟨⟨s1, rfl, hs1, hz1⟩, hb2⟩; have t1 := zhu.o _ hb2; have HS1 := Za hs1; have HB2 := Za hb2; have v5 : ¬ 9223372036854775807 < 1 + s0.size + 1 + tx.size + 1 + s1.size := (by omega); have v6 : ¬ 9223372036854775807 < 1 + s0.size + 1 + tx.size + 1 + s1.size + 1 := (by omega); clear hs1 hb2))
 all_goals go_wp2_with fail
 all_goals go_ret
 all_goals refine ⟨⟨_, rfl, ?_, ?_⟩, Zn HB.o HB2.o⟩
 ·rw [← HS0.o, ← HS1.o]
  simp [ByteArray.data_append]
 ·have h1 : s0.size = t.length := by rw [← HS0.o]; rfl
  have h2 : s1.size = u.length := by rw [← HS1.o]; rfl
  have := HL.o
  simp [ByteArray.size_append]
  have h3 : (⟨#[40]⟩ : ByteArray).size = 1 := rfl
  have h4 : (⟨#[41]⟩ : ByteArray).size = 1 := rfl
  have h5 : (⟨#[32]⟩ : ByteArray).size = 1 := rfl
  omega
def Mj : Nat → Ty → Prop
 | 0, _ => False
 | n + 1, D => (∃ s, D = Vt 4 s 0 [] ∧ Tz s = true ∧ s.length ≤ 100) ∨ ∃ o x y, D = Vt 14 o 0 [x, y] ∧ Tc.contains o = true ∧ o.length ≤ 100 ∧ Mj n x ∧ Mj n y
def Bu (D : Ty) : Prop := ∃ n, Mj n D
theorem Av {k k' : Nat} {a b : List UInt8} {N N' : Nat} {ks ks' : List Ty} (h : Vt k a N ks = Vt k' b N' ks') : k = k' ∧ a = b ∧ N = N' ∧ ks = ks' := by
 obtain ⟨h1, h2, h3, h4⟩ := Kf h
 have := congrArg List.length h3
 simp at this
 exact ⟨by omega, h2, this, h4⟩
theorem zgy (D : Ty) (h : Bu D) : ∀ x ∈ Vl D, Bu x := by
 intro x hx
 obtain ⟨n, h⟩ := h
 cases n with
 | zero => exact h.elim
 | succ n =>
  rcases h with ⟨s, rfl, _⟩ | ⟨o, y, z, rfl, _, _, hy, hz⟩
  ·rw [Vt, Kb] at hx; cases hx
  ·rw [Vt, Kb] at hx
   simp at hx
   rcases hx with rfl | rfl
   ·exact ⟨n, hy⟩
   ·exact ⟨n, hz⟩
theorem F1 {tx : ByteArray} {a : List UInt8} (h : tx.data.toList = a) : tx = ⟨a.toArray⟩ := by cases tx; cases h; rfl
theorem Kh {w : World} {n k : Nat} {tx : ByteArray} {N : Nat} {pq : PX} {ka : Option Addr} {kl kc : Nat} {k' : Nat} {a : List UInt8} {N' : Nat} {ks : List Ty} (h : V4 w n k tx N pq ka kl kc (Vt k' a N' ks)) : k = k' ∧ tx = ⟨a.toArray⟩ ∧ N = N' ∧ kl = ks.length := by
 cases n with
 | zero => exact h.elim
 | succ n =>
  obtain ⟨ks', e1, e2, _⟩ := h
  obtain ⟨h1, h2, h3, h4⟩ := Av e2
  exact ⟨h1.symm, F1 h2.symm, h3.symm, by rw [e1, h4]⟩
theorem zfo (w : World) (hf : Md w) (hw : Words w) (ho : Qi w) : Bw w Bu fun _ => true := by
 intro n k tx N pq ka kl kc D wx hwx hS hD
 obtain ⟨m, hS⟩ := hS
 cases m with
 | zero => exact hS.elim
 | succ m =>
  rcases hS with ⟨s, rfl, hs, hl⟩ | ⟨o, y, z, rfl, hs, hl, _, _⟩
  ·obtain ⟨rfl, rfl, rfl, rfl⟩ := Kh hD
   exact Rh 4 _ 0 pq ka 0 kc true wx (by decide) (hf.below hwx) (by decide) rfl (by decide) (by decide) rfl (by decide) (by decide) fun wy hwy => by
    have := zhg ⟨s.toArray⟩ (by show s.length ≤ 1000; omega) wy ((hw.below hwx).below hwy)
    rw [show Tz (⟨s.toArray⟩ : ByteArray).data.toList = true from hs] at this
    exact this
  ·obtain ⟨rfl, rfl, rfl, rfl⟩ := Kh hD
   exact Rh 14 _ 0 pq ka 2 kc true wx (by decide) (hf.below hwx) (by decide) rfl (by decide) (by decide) rfl (by decide) (by decide) fun wy hwy => by
    have := zcx ⟨o.toArray⟩ wy ((ho.below hwx).below hwy)
    rw [show Tc.contains (⟨o.toArray⟩ : ByteArray).data.toList = true from hs] at this
    exact this
def J4 (w : World) (t : List UInt8) (e : Ending) (w' : World) : Prop := (∃ s : ByteArray, e = .returned (.string s) ∧ s.data.toList = t) ∧ Below w.heap.size w w'
theorem zfg (k : Nat) (tx : ByteArray) (N : Nat) (pq : PX) (ka : Option Addr) (kl kc : Nat) (t : List UInt8) (w : World) (h : ∀ wx, Below w.heap.size w wx → Calls prog 51 #[Tv k tx N pq ka kl kc] wx fun e w' => e = .returned (.bool true) ∧ Below wx.heap.size wx w') (hx : N9 w k tx N pq ka kl kc t) :
  Calls prog 21 #[Tv k tx N pq ka kl kc] w (J4 w t) := by
 have hb := Zl w (Xl k tx N pq ka kl kc)
 have HBX : xQ ((w.alloc (Xl k tx N pq ka kl kc)).heap[w.heap.size]? = some (Xl k tx N pq ka kl kc)) := xL w _
 have HC := Za (h _ hb)
 have HX := Za hx
 have HB := Za hb
 clear hb h hx
 go_enter func21, ntmps21
 go_wp2_with fail
 refine HC.o.mono ?_
 rintro e w1 ⟨rfl, hb1⟩
 have hb2 := Zn HB.o hb1
 obtain ⟨⟨x0, x1, x2, x3, x4, x5, x6, x7⟩, hltx⟩ := N5 ((hb1.block _ (xB HBX.o)).trans HBX.o)
 simp only [Nat.zero_add] at x0 x1 x2 x3 x4 x5 x6 x7
 have HC2 := Za (HX.o _ hb2)
 have HB2 := Za hb2
 clear hb1 hb2
 go_wp2_with fail
 refine HC2.o.mono ?_
 rintro e w2 ⟨⟨s, rfl, hs, _⟩, hb3⟩
 have HS := Za hs
 have HB3 := Za (Zn HB2.o hb3)
 clear hs hb3
 go_wp2_with fail
 go_ret
 exact ⟨⟨_, rfl, HS.o⟩, HB3.o⟩
structure Nc (w : World) : Prop where
 ff : Md w
 ww : Words w
 oo : Qi w
theorem Nc.below {w w' : World} (h : Nc w) (hb : Below w.heap.size w w') : Nc w' := ⟨h.ff.below hb, h.ww.below hb, h.oo.below hb⟩
theorem isN {w : World} (hB : Nc w) {n k : Nat} {tx : ByteArray} {N : Nat} {pq : PX} {ka : Option Addr} {kl kc : Nat} {D : Ty} (hD : Bu D) (h : V4 w (n + 1) k tx N pq ka kl kc D) (hs : Wl (n + 1) D ≤ 1000) (hh : Xf (n + 1) D ≤ 25) : ∀ wx, Below w.heap.size w wx → Calls prog 51 #[Tv k tx N pq ka kl kc] wx fun e w' => e = .returned (.bool true) ∧ Below wx.heap.size wx w' := fun wx hwx =>
 zhe k tx N pq ka kl kc true wx fun wy hwy => Iv n k tx N pq ka kl kc D Bu (fun _ => true) wy (N3 (N3 h hwx) hwy) hs hh hD zgy (fun _ _ => rfl) (zfo wy ((hB.below hwx).below hwy).ff ((hB.below hwx).below hwy).ww ((hB.below hwx).below hwy).oo)
theorem Rx {w : World} {n : Nat} {ka : Option Addr} {ks : List Ty} {i : Nat} {t : List UInt8} (h : Pt w n ka ks) (hi : i < ks.length) (hl : ks.length ≤ 1000) (ht : ∀ k tx N pq la ll lc, V4 w n k tx N pq la ll lc ks[i] → N9 w k tx N pq la ll lc t) : Mz w ka ks.length i t := by
 obtain ⟨b, o, k, tx, N, pq, la, ll, lc, e, hlt, q, hd⟩ := Hj h hi
 exact ⟨hi, hl, b, o, k, tx, N, pq, la, ll, lc, e, hlt, q, ht k tx N pq la ll lc hd⟩
def Td : Nat → Ty → List UInt8
 | 0, _ => []
 | n + 1, D => match Vl D with
  | [x, y] => 40 :: Td n x ++ 32 :: Jn D ++ 32 :: Td n y ++ [41]
  | _ => Jn D
theorem zgt (n : Nat) (o : List UInt8) (x y : Ty) : Td (n + 1) (Vt 14 o 0 [x, y]) = 40 :: Td n x ++ 32 :: o ++ 32 :: Td n y ++ [41] := rfl
theorem Hu {w : World} : ∀ (n m k : Nat) (tx : ByteArray) (N : Nat) (pq : PX) (ka : Option Addr) (kl kc : Nat) (D : Ty), Mj m D → m ≤ n → V4 w n k tx N pq ka kl kc D → (Td m D).length ≤ 900 → N9 w k tx N pq ka kl kc (Td m D)
 | 0, m, _, _, _, _, _, _, _, _, hS, hm, _, _ => by
  obtain rfl : m = 0 := by omega
  exact hS.elim
 | n + 1, 0, _, _, _, _, _, _, _, _, hS, _, _, _ => hS.elim
 | n + 1, m + 1, k, tx, N, pq, ka, kl, kc, D, hS, hm, hD, hl => by
  rcases hS with ⟨s, rfl, hs, hl⟩ | ⟨o, y, z, rfl, hs, hlo, hy, hz⟩
  ·obtain ⟨rfl, rfl, rfl, rfl⟩ := Kh hD
   exact Ck ⟨s.toArray⟩ (by show s.length ≤ 1000; omega) 0 pq ka 0 kc w
  ·have hp := Kh hD
   obtain ⟨rfl, rfl, rfl, rfl⟩ := hp
   obtain ⟨ks', e1, e2, _, _, _, _, _, hr⟩ := hD
   obtain ⟨_, _, _, h4⟩ := Av e2
   subst h4
   rw [zgt] at hl ⊢
   simp only [List.length_append, List.length_cons, List.length_nil] at hl
   have h0 := Rx (i := 0) hr (by simp) (by simp) fun k tx N pq la ll lc h => Hu n m k tx N pq la ll lc y hy (by omega) h (by omega)
   have h1 := Rx (i := 1) hr (by simp) (by simp) fun k tx N pq la ll lc h => Hu n m k tx N pq la ll lc z hz (by omega) h (by omega)
   exact zfe ⟨o.toArray⟩ 0 pq ka 2 kc (Td m y) (Td m z) w h0 h1 (by show _ + _ + o.length ≤ _; omega)
theorem Ik {w : World} (hB : Nc w) {n m k : Nat} {tx : ByteArray} {N : Nat} {pq : PX} {ka : Option Addr} {kl kc : Nat} {D : Ty} (hS : Mj m D) (hm : m ≤ n + 1) (h : V4 w (n + 1) k tx N pq ka kl kc D) (hs : Wl (n + 1) D ≤ 1000) (hh : Xf (n + 1) D ≤ 25) (hl : (Td m D).length ≤ 900) :
  Calls prog 21 #[Tv k tx N pq ka kl kc] w (J4 w (Td m D)) :=
 zfg k tx N pq ka kl kc _ w (isN hB ⟨m, hS⟩ h hs hh) (Hu (n + 1) m k tx N pq ka kl kc D hS hm h hl)
end Go.Proofs.YtbnjllkkhhkkaaaGreatDoor
namespace Go.Proofs.YtbnjllkkhhkkaaaGreatDoor
open Tryz
def Zi (k : Int) (tx : List UInt8) (N : Int) (l c : Nat) (ts : List Ty) (ns : List (List UInt8)) (ks : List Ty) : Ty :=
 .agg [.lit (.int .i64 k), .lit (.string tx), .lit (.int .i64 N), .lit (.int .i64 l), .lit (.int .i64 c), .agg ts, .agg (ns.map fun s => .lit (.string s)), .agg ks]
abbrev Pr (α : Type) := (α × Nat) ⊕ (Int × Nat × Nat)
def Pr.go {α β : Type} (r : Pr α) (f : α → Nat → Pr β) : Pr β :=
 match r with
 | .inl (x, a) => f x a
 | .inr e => .inr e
section
variable (ts : List Tok)
def Zg (a : Nat) : Tok := ts.getD a ⟨0, [], 0, 0⟩
def Ys {α : Type} (e : Int) (a : Nat) : Pr α := .inr (e, (Zg ts a).line, (Zg ts a).col)
def Zc (a : Nat) (s : List UInt8) : Bool := ((Zg ts a).kind == 2 || (Zg ts a).kind == 5) && (Zg ts a).text == s
def Zb (a : Nat) (s : List UInt8) : Pr Unit := if Zc ts a s then .inl ((), a + 1) else Ys ts 7 a
def Zm (a : Nat) : Pr (List UInt8) := if (Zg ts a).kind == 1 then .inl ((Zg ts a).text, a + 1) else Ys ts 7 a
def Z1 {α : Type} (one : Nat → Pr α) (sep : List UInt8) : Nat → Nat → Pr (List α)
 | 0, a => Ys ts 7 a
 | f + 1, a => (one a).go fun x a => if Zc ts a sep then (Z1 one sep f (a + 1)).go fun l a => .inl (x :: l, a) else .inl ([x], a)
def Xy {α : Type} (K : Nat → Pr α) (a : Nat) : Pr (List UInt8 × α) := (Zm ts a).go fun s a => (Zb ts a [58]).go fun _ a => (K a).go fun t a => .inl ((s, t), a)
def Wt (K : Nat → Pr Ty) (f a : Nat) : Pr Ty :=
 if Zc ts a (Yb 0) then .inl (Z6 0 [] [] [], a + 1)
 else if Zc ts a (Yb 1) then .inl (Z6 1 [] [] [], a + 1)
 else if Zc ts a (Yb 2) then .inl (Z6 2 [] [] [], a + 1)
 else if Zc ts a (Yb 3) then .inl (Z6 3 [] [] [], a + 1)
 else if Zc ts a (Yb 4) then .inl (Z6 4 [] [] [], a + 1)
 else if Zc ts a [40] then (K (a + 1)).go fun t a => (Zb ts a [41]).go fun _ a => .inl (t, a)
 else if Zc ts a [123] then
  if Zc ts (a + 1) [125] then .inl (Z6 5 [] [] [], a + 2)
  else (Z1 ts (Xy ts K) [44] f (a + 1)).go fun l a => (Zb ts a [125]).go fun _ a => .inl (Z6 5 [] (l.map (·.1)) (l.map (·.2)), a)
 else (Zm ts a).go fun s a => .inl (Z6 8 s [] [], a)
def U7 (K : Nat → Pr Ty) (f a : Nat) : Pr Ty := (Z1 ts (Wt ts K f) [124] f a).go fun l a => match l with
 | [t] => .inl (t, a)
 | l => .inl (Z6 7 [] [] l, a)
def Yk (f : Nat) : Nat → Nat → Nat → Pr Ty
 | 0, _, a => Ys ts 6 a
 | n + 1, d, a => if 100 ≤ d then Ys ts 6 a else (U7 ts (Yk f n (d + 1)) f a).go fun t a => if Zc ts a [45, 62] then (Yk f n (d + 1) (a + 1)).go fun r a => .inl (Z6 6 [] [] [t, r], a) else .inl (t, a)
def Yx (K : Nat → Pr Ty) (a : Nat) : Pr (List Ty) := if Zc ts a [58] then (K (a + 1)).go fun t a => .inl ([t], a) else .inl ([], a)
def U6 (K : Nat → Pr Ty) (a : Nat) : Pr (List UInt8 × List Ty) := (Zb ts a [40]).go fun _ a => (Zm ts a).go fun s a => (Yx ts K a).go fun x a => (Zb ts a [41]).go fun _ a => (Yx ts K a).go fun y a => .inl ((s, (if x.isEmpty then [Z6 0 [] [] []] else x) ++ y), a)
def Zx (a : Nat) : Nat := (Zg ts a).line
def Zz (a : Nat) : Nat := (Zg ts a).col
def Y9 (signs : List (List UInt8)) (sub : Nat → Pr Ty) : Nat → Ty → Nat → Pr Ty
 | 0, _, a => Ys ts 7 a
 | f + 1, x, a => match signs.find? (Zc ts a) with
  | none => .inl (x, a)
  | some s => (sub (a + 1)).go fun y b => Y9 signs sub f (Zi 14 s 0 (Zx ts a) (Zz ts a) [] [] [x, y]) b
def Xj : List (List UInt8) := [[110, 117, 108, 108], [98, 111, 111, 108], [105, 110, 116], [115, 116, 114], [114, 101, 99, 111, 114, 100], [102, 117, 110, 99, 116, 105, 111, 110]]
def Tm (K : Nat → Pr Ty) (sub : Nat → Pr Ty) (a : Nat) : Pr Ty := (sub a).go fun x a => match ([[60], [60, 61], [61, 61]] : List (List UInt8)).find? (Zc ts a) with
 | some s => (sub (a + 1)).go fun y b => .inl (Zi 14 s 0 (Zx ts a) (Zz ts a) [] [] [x, y], b)
 | none =>
  if Zc ts a [97, 115] then (K (a + 1)).go fun t b => .inl (Zi 13 [] 0 (Zx ts a) (Zz ts a) [t] [] [x], b)
  else if Zc ts a [105, 115] then match Xj.findIdx? (Zc ts (a + 1)) with
   | some i => .inl (Zi 12 [] i (Zx ts a) (Zz ts a) [] [] [x], a + 2)
   | none => Ys ts 7 (a + 1)
  else .inl (x, a)
def M7 (U : Nat → Pr Ty) (f a : Nat) : Pr Ty := (U a).go fun x a => Y9 ts [[42], [47], [37], [38], [60, 60], [62, 62]] U f x a
def P6 (U : Nat → Pr Ty) (f a : Nat) : Pr Ty := (M7 ts U f a).go fun x a => Y9 ts [[43], [45], [94]] (M7 ts U f) f x a
def T2 (U : Nat → Pr Ty) (f a : Nat) : Pr Ty := (P6 ts U f a).go fun x a => Y9 ts [[43, 43]] (P6 ts U f) f x a
def Ms (K U : Nat → Pr Ty) (f a : Nat) : Pr Ty := (Tm ts K (T2 ts U f) a).go fun x a => Y9 ts [[97, 110, 100]] (Tm ts K (T2 ts U f)) f x a
def Mc (K U : Nat → Pr Ty) (f a : Nat) : Pr Ty := (Ms ts K U f a).go fun x a => Y9 ts [[111, 114]] (Ms ts K U f) f x a
def Vc (K E U : Nat → Pr Ty) (f a : Nat) : Pr Ty :=
 if Zc ts a [108, 101, 116] then (Zm ts (a + 1)).go fun s b => (Yx ts K b).go fun t b => (Zb ts b [61]).go fun _ b => (E b).go fun v b => (Zb ts b [59]).go fun _ b => (E b).go fun r b => .inl (Zi 5 s 0 (Zx ts a) (Zz ts a) t [] [v, r], b)
 else if Zc ts a [105, 102] then (E (a + 1)).go fun c b => (Zb ts b [116, 104, 101, 110]).go fun _ b => (E b).go fun x b => (Zb ts b [101, 108, 115, 101]).go fun _ b => (E b).go fun y b => .inl (Zi 11 [] 0 (Zx ts a) (Zz ts a) [] [] [c, x, y], b)
 else if Zc ts a [102, 110] then (U6 ts K (a + 1)).go fun h b => (Zb ts b [61, 62]).go fun _ b => (E b).go fun x b => .inl (Zi 6 h.1 0 (Zx ts a) (Zz ts a) h.2 [] [x], b)
 else Mc ts K U f a
def Q1 (E : Nat → Pr Ty) (f a : Nat) : Pr Ty :=
 if Zc ts (a + 1) [125] then .inl (Zi 8 [] 0 (Zx ts a) (Zz ts a) [] [] [], a + 2)
 else if (Zg ts (a + 1)).kind == 1 && ((Zg ts (a + 2)).kind == 5 && (Zg ts (a + 2)).text == [58]) then (Z1 ts (Xy ts E) [44] f (a + 1)).go fun l b => (Zb ts b [125]).go fun _ b => .inl (Zi 8 [] 0 (Zx ts a) (Zz ts a) [] (l.map (·.1)) (l.map (·.2)), b)
 else (E (a + 1)).go fun x b => (Zb ts b [119, 105, 116, 104]).go fun _ b => (Zm ts b).go fun s b => (Zb ts b [58]).go fun _ b => (E b).go fun y b => (Zb ts b [125]).go fun _ b => .inl (Zi 10 s 0 (Zx ts a) (Zz ts a) [] [] [x, y], b)
def Wm (K E : Nat → Pr Ty) (f a : Nat) : Pr Ty :=
 if (Zg ts a).kind == 3 then .inl (Zi 0 [] ((Ww (Zg ts a).text).getD 0) (Zx ts a) (Zz ts a) [] [] [], a + 1)
 else if (Zg ts a).kind == 4 then .inl (Zi 1 (Zg ts a).text 0 (Zx ts a) (Zz ts a) [] [] [], a + 1)
 else if Zc ts a [116, 114, 117, 101] then .inl (Zi 2 [] 1 (Zx ts a) (Zz ts a) [] [] [], a + 1)
 else if Zc ts a [102, 97, 108, 115, 101] then .inl (Zi 2 [] 0 (Zx ts a) (Zz ts a) [] [] [], a + 1)
 else if Zc ts a [110, 117, 108, 108] then .inl (Zi 3 [] 0 (Zx ts a) (Zz ts a) [] [] [], a + 1)
 else if Zc ts a [114, 101, 97, 100] then (Zb ts (a + 1) [40]).go fun _ b => (Zb ts b [41]).go fun _ b => .inl (Zi 18 [] 0 (Zx ts a) (Zz ts a) [] [] [], b)
 else if Zc ts a [112, 114, 105, 110, 116] then (Zb ts (a + 1) [40]).go fun _ b => (E b).go fun x b => (Zb ts b [41]).go fun _ b => .inl (Zi 17 [] 0 (Zx ts a) (Zz ts a) [] [] [x], b)
 else if Zc ts a [40] then (E (a + 1)).go fun x b => (Zb ts b [41]).go fun _ b => .inl (x, b)
 else if Zc ts a [123] then Q1 ts E f a
 else (Zm ts a).go fun s b => if Zc ts b [91] then (Z1 ts K [44] f (b + 1)).go fun l b => (Zb ts b [93]).go fun _ b => .inl (Zi 19 s 0 (Zx ts a) (Zz ts a) l [] [], b) else .inl (Zi 4 s 0 (Zx ts a) (Zz ts a) [] [] [], b)
def Xe (E : Nat → Pr Ty) : Nat → Ty → Nat → Pr Ty
 | 0, _, a => Ys ts 7 a
 | f + 1, x, a =>
  if Zc ts a [40] then (E (a + 1)).go fun y b => (Zb ts b [41]).go fun _ b => Xe E f (Zi 7 [] 0 (Zx ts a) (Zz ts a) [] [] [x, y]) b
  else if Zc ts a [46] then (Zm ts (a + 1)).go fun s b => Xe E f (Zi 9 s 0 (Zx ts a) (Zz ts a) [] [] [x]) b
  else .inl (x, a)
def Yw (f : Nat) : Nat → Bool → Nat → Nat → Pr Ty
 | 0, _, _, a => Ys ts 6 a
 | n + 1, u, d, a => if 100 ≤ d then Ys ts 6 a else
  match u with
  | false => Vc ts (Yk ts f 101 (d + 1)) (Yw f n false (d + 1)) (Yw f n true (d + 1)) f a
  | true =>
   if Zc ts a [45] then (Yw f n true (d + 1) (a + 1)).go fun x b => .inl (Zi 16 [] 0 (Zx ts a) (Zz ts a) [] [] [x], b)
   else if Zc ts a [110, 111, 116] then (Yw f n true (d + 1) (a + 1)).go fun x b => .inl (Zi 15 [] 0 (Zx ts a) (Zz ts a) [] [] [x], b)
   else (Wm ts (Yk ts f 101 (d + 1)) (Yw f n false (d + 1)) f a).go fun x b => Xe ts (Yw f n false (d + 1)) f x b
def Qa (K : Nat → Pr Ty) (a : Nat) : Pr (List UInt8 × Ty) := (Zm ts a).go fun s b => if Zc ts b [60, 58] then (K (b + 1)).go fun t b => .inl ((s, t), b) else .inl ((s, Z6 0 [] [] []), b)
def M0 (K : Nat → Pr Ty) (f a : Nat) : Pr (List (List UInt8 × Ty)) := if Zc ts a [91] then (Z1 ts (Qa ts K) [44] f (a + 1)).go fun l b => (Zb ts b [93]).go fun _ b => .inl (l, b) else .inl ([], a)
def Ql (from' : List UInt8) (ns : List (List UInt8)) (l c : Nat) : Ty := .agg [.lit (.string from'), .agg (ns.map fun s => .lit (.string s)), .lit (.int .i64 l), .lit (.int .i64 c)]
def Vq (nm : List UInt8) (ex : Bool) (vs : List (List UInt8 × Ty)) (pm : List UInt8) (tys : List Ty) (body : Ty) (l c : Nat) : Ty := .agg [.lit (.string nm), .lit (.bool ex), .agg (vs.map fun v => .agg [.lit (.string v.1), v.2]), .lit (.string pm), .agg tys, body, .lit (.int .i64 l), .lit (.int .i64 c)]
def Qe : Nat → Nat → Pr (List Ty)
 | 0, a => Ys ts 7 a
 | f + 1, a => if Zc ts a [105, 109, 112, 111, 114, 116] then (Zm ts (a + 1)).go fun s b => (Zb ts b [58]).go fun _ b => (Z1 ts (Zm ts) [44] ts.length b).go fun l b => (Zb ts b [59]).go fun _ b => (Qe f b).go fun r b => .inl (Ql s l (Zx ts a) (Zz ts a) :: r, b) else .inl ([], a)
def Qy (a : Nat) : Pr Ty :=
 let ex := Zc ts a [101, 120, 112, 111, 114, 116]
 let a := if ex then a + 1 else a
 (Zb ts a [102, 110]).go fun _ b => (Zm ts b).go fun s b => (M0 ts (Yk ts ts.length 101 0) ts.length b).go fun vs b => (U6 ts (Yk ts ts.length 101 0) b).go fun h b => (Zb ts b [61]).go fun _ b => (Yw ts ts.length 101 false 0 b).go fun x b => (Zb ts b [59]).go fun _ b =>
  .inl (Vq s ex vs h.1 (if h.2.length = 1 then h.2 ++ [Z6 0 [] [] []] else h.2) x (Zx ts a) (Zz ts a), b)
def Mf : Nat → Nat → Pr (List Ty)
 | 0, a => Ys ts 7 a
 | f + 1, a => if (Zg ts a).kind == 0 then .inl ([], a) else (Qy ts a).go fun d b => (Mf f b).go fun r b => .inl (d :: r, b)
def Kd : Pr (List Ty × List Ty) := (Qe ts ts.length 0).go fun i a => (Mf ts (ts.length + 1) a).go fun d a => .inl ((i, d), a)
def Uv {α : Type} (r : Pr α) : Pr α := r.go fun x a => if (Zg ts a).kind == 0 then .inl (x, a) else Ys ts 7 a
end
def T9 (l : List UInt8) : Ty ⊕ (Int × Nat × Nat) := match Wb l with
 | .inr e => .inr e
 | .inl ts => match Uv ts (Yk ts ts.length 101 0 0) with
  | .inl (t, _) => .inl t
  | .inr e => .inr e
def Ui (l : List UInt8) : Ty ⊕ (Int × Nat × Nat) := match Wb l with
 | .inr e => .inr e
 | .inl ts => match Uv ts (Yw ts ts.length 101 false 0 0) with
  | .inl (t, _) => .inl t
  | .inr e => .inr e
def U9 (l : List UInt8) : (List Ty × List Ty) ⊕ (Int × Nat × Nat) := match Wb l with
 | .inr e => .inr e
 | .inl ts => match Uv ts (Kd ts) with
  | .inl (t, _) => .inl t
  | .inr e => .inr e
end Go.Proofs.YtbnjllkkhhkkaaaGreatDoor
namespace Go.Proofs.YtbnjllkkhhkkaaaGreatDoor
open Tryz
open Go.RowKit
structure NV where
 k : Int
 tx : ByteArray
 N : Int
 li : Nat
 co : Nat
 ta : Option Addr
 tl : Nat
 tc : Nat
 na : Option Addr
 nl : Nat
 nc : Nat
 ka : Option Addr
 kl : Nat
 kc : Nat
abbrev NV.val (x : NV) : Value := .agg #[.int .i64 x.k, .string x.tx, .int .i64 x.N, .int .i64 x.li, .int .i64 x.co, .slice x.ta x.tl x.tc, .slice x.na x.nl x.nc, .slice x.ka x.kl x.kc]
abbrev NV.obj (x : NV) : Obj := .cells #[.int .i64 x.k, .string x.tx, .int .i64 x.N, .int .i64 x.li, .int .i64 x.co, .slice x.ta x.tl x.tc, .slice x.na x.nl x.nc, .slice x.ka x.kl x.kc] 27
def La (w : World) (b o : Nat) (x : NV) : Prop :=
 w.cell? ⟨b, o, none⟩ = some (.int .i64 x.k) ∧ w.cell? ⟨b, o + 1, none⟩ = some (.string x.tx) ∧ w.cell? ⟨b, o + 2, none⟩ = some (.int .i64 x.N) ∧ w.cell? ⟨b, o + 3, none⟩ = some (.int .i64 x.li) ∧ w.cell? ⟨b, o + 4, none⟩ = some (.int .i64 x.co) ∧
 w.cell? ⟨b, o + 5, none⟩ = some (.slice x.ta x.tl x.tc) ∧ w.cell? ⟨b, o + 6, none⟩ = some (.slice x.na x.nl x.nc) ∧ w.cell? ⟨b, o + 7, none⟩ = some (.slice x.ka x.kl x.kc)
def Gs (w : World) (lo : Nat) (T : NV → Ty → Prop) (ka : Option Addr) (ks : List Ty) : Prop :=
 ks = [] ∨ ∃ b o, ka = some ⟨b, o, none⟩ ∧ lo ≤ b ∧ V5 w b ∧ ∀ i (h : i < ks.length), ∃ x, La w b (o + i * 8) x ∧ T x ks[i]
def Um (w : World) (lo : Nat) : Nat → NV → Ty → Prop
 | 0, _, _ => False
 | n + 1, x, D => ∃ (tys : List Ty) (ns : List (List UInt8)) (ks : List Ty), D = Zi x.k x.tx.data.toList x.N x.li x.co tys ns ks ∧ (x.tl = tys.length ∧ x.nl = ns.length ∧ x.kl = ks.length) ∧
  (tys.length ≤ 100000 ∧ ns.length ≤ 100000 ∧ ks.length ≤ 100000) ∧ Xw w lo n x.ta tys ∧ Uc w lo x.na ns ∧ Gs w lo (Um w lo n) x.ka ks
abbrev Mu (w : World) (lo n : Nat) (ka : Option Addr) (ks : List Ty) : Prop := Gs w lo (Um w lo n) ka ks
section
variable {w w' : World} {lo lo' n m : Nat} {x : NV} {D : Ty} {ka : Option Addr} {ks : List Ty}
theorem La.keep {b o : Nat} (h : La w b o x) (hk : w'.heap[b]? = w.heap[b]?) : La w' b o x := by
 have hc : ∀ j, w'.cell? ⟨b, j, none⟩ = w.cell? ⟨b, j, none⟩ := fun j => World.cell?_of_block (w := w) (a := ⟨b, j, none⟩) hk
 obtain ⟨h0, h1, h2, h3, h4, h5, h6, h7⟩ := h
 exact ⟨(hc _).trans h0, (hc _).trans h1, (hc _).trans h2, (hc _).trans h3, (hc _).trans h4, (hc _).trans h5, (hc _).trans h6, (hc _).trans h7⟩
theorem Pj {a : Option Addr} {ns : List (List UInt8)} (h : Uc w lo a ns) (hsz : w.heap.size ≤ w'.heap.size) (hk : ∀ b, lo ≤ b → b < w.heap.size → w'.heap[b]? = w.heap[b]?) : Uc w' lo a ns := by
 rcases h with h8 | ⟨b, o, e, hl, hlt, hc⟩
 ·exact .inl h8
 ·exact .inr ⟨b, o, e, hl, xT hlt hsz, fun i hi => (World.cell?_of_block (w := w) (a := ⟨b, o + i, none⟩) (hk b hl hlt)).trans (hc i hi)⟩
theorem Vv (h : Xw w lo n ka ks) (hsz : w.heap.size ≤ w'.heap.size) (hk : ∀ b, lo ≤ b → b < w.heap.size → w'.heap[b]? = w.heap[b]?) : Xw w' lo n ka ks := by
 rcases h with h9 | ⟨b, o, e, hl, hcl, hc⟩
 ·exact .inl h9
 ·have hlt := Ux hcl
  have hcl' : V5 w' b := by
   obtain ⟨cs, t, hh⟩ := hcl
   exact ⟨cs, t, (hk b hl hlt).trans hh⟩
  refine .inr ⟨b, o, e, hl, hcl', fun i hi => ?_⟩
  obtain ⟨c0, c1, c2, c3, e0, e1, e2, e3, ht⟩ := hc i hi
  have zhq : ∀ j, w'.cell? ⟨b, j, none⟩ = w.cell? ⟨b, j, none⟩ := fun j => World.cell?_of_block (w := w) (a := ⟨b, j, none⟩) (hk b hl hlt)
  exact ⟨c0, c1, c2, c3, (zhq _).trans e0, (zhq _).trans e1, (zhq _).trans e2, (zhq _).trans e3, Kr ht hsz hk⟩
theorem Jo (h : Um w lo n x D) (hsz : w.heap.size ≤ w'.heap.size) (hk : ∀ b, lo ≤ b → b < w.heap.size → w'.heap[b]? = w.heap[b]?) : Um w' lo n x D := by
 induction n generalizing x D with
 | zero => exact h.elim
 | succ n ih =>
  obtain ⟨tys, ns, ks, e, h1, h2, h3, h4, h5⟩ := h
  refine ⟨tys, ns, ks, e, h1, h2, Vv h3 hsz hk, Pj h4 hsz hk, ?_⟩
  rcases h5 with h5 | ⟨b, o, e, hl, hcl, hc⟩
  ·exact .inl h5
  ·have hlt := Ux hcl
   have hcl' : V5 w' b := by
    obtain ⟨cs, t, hh⟩ := hcl
    exact ⟨cs, t, (hk b hl hlt).trans hh⟩
   refine .inr ⟨b, o, e, hl, hcl', fun i hi => ?_⟩
   obtain ⟨y, hy, ht⟩ := hc i hi
   exact ⟨y, hy.keep (hk b hl hlt), ih ht⟩
theorem As (h : Um w lo n x D) (hb : Below w.heap.size w w') : Um w' lo n x D := Jo h hb.size fun b _ hlt => hb.block b hlt
theorem A9 (h : Mu w lo n ka ks) (hsz : w.heap.size ≤ w'.heap.size) (hk : ∀ b, lo ≤ b → b < w.heap.size → w'.heap[b]? = w.heap[b]?) : Mu w' lo n ka ks := by
 rcases h with h5 | ⟨b, o, e, hl, hcl, hc⟩
 ·exact .inl h5
 ·have hlt := Ux hcl
  have hcl' : V5 w' b := by
   obtain ⟨cs, t, hh⟩ := hcl
   exact ⟨cs, t, (hk b hl hlt).trans hh⟩
  refine .inr ⟨b, o, e, hl, hcl', fun i hi => ?_⟩
  obtain ⟨y, hy, ht⟩ := hc i hi
  exact ⟨y, hy.keep (hk b hl hlt), Jo ht hsz hk⟩
theorem Dv (h : Mu w lo n ka ks) (hb : Below w.heap.size w w') : Mu w' lo n ka ks := A9 h hb.size fun b _ hlt => hb.block b hlt
theorem I8 (h : Xw w lo n ka ks) (hb : Below w.heap.size w w') : Xw w' lo n ka ks := Vv h hb.size fun b _ hlt => hb.block b hlt
theorem Fq (h : Mu w lo n ka ks) {i : Nat} (hi : i < ks.length) : ∃ b o y, ka = some ⟨b, o, none⟩ ∧ b < w.heap.size ∧ La w b (o + i * 8) y ∧ Um w lo n y ks[i] := by
 rcases h with rfl | ⟨b, o, rfl, _, hcl, hc⟩
 ·cases hi
 ·obtain ⟨y, hy, ht⟩ := hc i hi
  exact ⟨b, o, y, rfl, Ux hcl, hy, ht⟩
end
theorem Kl {k k' : Int} {tx tx' : List UInt8} {N N' : Int} {l l' c c' : Nat} {ts ts' : List Ty} {ns ns' : List (List UInt8)} {ks ks' : List Ty} (h : Zi k tx N l c ts ns ks = Zi k' tx' N' l' c' ts' ns' ks') : k = k' ∧ tx = tx' ∧ N = N' ∧ l = l' ∧ c = c' ∧ ts = ts' ∧ ns = ns' ∧ ks = ks' := by
 unfold Zi at h
 simp only [DataW.agg.injEq, List.cons.injEq, DataW.lit.injEq, Lit.int.injEq, Lit.string.injEq, true_and, and_true] at h
 obtain ⟨h1, h2, h3, h4, h5, h6, h7, h8⟩ := h
 refine ⟨h1, h2, h3, by omega, by omega, h6, ?_, h8⟩
 have := congrArg (List.map Li) h7
 rw [List.map_map, List.map_map] at this
 have hid : ∀ l : List (List UInt8), l.map (Li ∘ fun s => (DataW.lit (.string s) : Ty)) = l := fun l => List.map_id _
 rw [hid, hid] at this
 exact this
end Go.Proofs.YtbnjllkkhhkkaaaGreatDoor
namespace Go.Proofs.YtbnjllkkhhkkaaaGreatDoor
open Tryz
def OkP {α : Type} (ts : List Tok) (r : Pr α) : Prop :=
 match r with
 | .inl (_, a) => a < ts.length
 | .inr (e, l, c) => (e = 6 ∨ e = 7) ∧ ∃ t ∈ ts, t.line = l ∧ t.col = c
def H3 (ts : List Tok) : Prop := ∀ a, a < ts.length → (Zg ts a).kind ≠ 0 → a + 1 < ts.length
section
variable {ts : List Tok} {α β : Type}
theorem tok_in {a : Nat} (h : a < ts.length) : Zg ts a ∈ ts := by
 unfold Zg
 rw [List.getD_eq_getElem?_getD, List.getElem?_eq_getElem h]
 exact List.getElem_mem h
theorem bad_ok {e : Int} (he : e = 6 ∨ e = 7) {a : Nat} (h : a < ts.length) : OkP ts (Ys ts e a : Pr α) := ⟨he, _, tok_in h, rfl, rfl⟩
theorem Wz (hE : H3 ts) {a : Nat} {s : List UInt8} (h : a < ts.length) (hs : Zc ts a s = true) : a + 1 < ts.length := by
 refine hE a h fun h0 => ?_
 unfold Zc at hs
 rw [h0] at hs
 simp at hs
theorem Iz (hE : H3 ts) {a : Nat} (h : a < ts.length) : OkP ts (Zm ts a) := by
 unfold Zm
 split
 ·rename_i hs
  exact hE a h fun h0 => by rw [h0] at hs; simp at hs
 ·exact bad_ok (.inr rfl) h
section
variable {K E U : Nat → Pr Ty}
end
end
end Go.Proofs.YtbnjllkkhhkkaaaGreatDoor
namespace Go.Proofs.YtbnjllkkhhkkaaaGreatDoor
open Tryz
open Go.RowKit
def Q7 (w : World) (tb : Nat) (ts : List Tok) : Prop := ∀ a, a < ts.length →
 w.cell? ⟨tb, a * 4, none⟩ = some (.int .i64 (Zg ts a).kind) ∧ w.cell? ⟨tb, a * 4 + 1, none⟩ = some (.string ⟨(Zg ts a).text.toArray⟩) ∧
 w.cell? ⟨tb, a * 4 + 2, none⟩ = some (.int .i64 (Zg ts a).line) ∧ w.cell? ⟨tb, a * 4 + 3, none⟩ = some (.int .i64 (Zg ts a).col)
structure Z0 (ts : List Tok) : Prop where
 ends : H3 ts
 pos : 0 < ts.length
 len : ts.length ≤ 8193
 txt : ∀ a, (Zg ts a).text.length ≤ 70000
 wrd : ∀ a, a < ts.length → (Zg ts a).kind = 2 → (Zg ts a).text ≠ [58]
structure Ps (w : World) (pb tb cap : Nat) (ts : List Tok) (a d : Nat) : Prop where
 blk : w.heap[pb]? = some (.cells #[.slice (some ⟨tb, 0, none⟩) ts.length cap, .int .i64 a, .int .i64 d] 103)
 tlt : tb < pb
 toks : Q7 w tb ts
 lt : a < ts.length
structure Q4 (w : World) (pb tb cap : Nat) (ts : List Tok) (a : Nat) : Prop where
 c0 : w.cell? ⟨pb, 0, none⟩ = some (.slice (some ⟨tb, 0, none⟩) ts.length cap)
 c1 : w.cell? ⟨pb, 1, none⟩ = some (.int .i64 a)
 ltp : pb < w.heap.size
 tlt : tb < w.heap.size
 toks : Q7 w tb ts
 lt : a < ts.length
structure Zj (pb : Nat) (w w' : World) : Prop where
 below : Below pb w w'
 keep : ∀ b, pb < b → b < w.heap.size → w'.heap[b]? = w.heap[b]?
abbrev Pu (t : Tok) : Value := .agg #[.int .i64 t.kind, .string ⟨t.text.toArray⟩, .int .i64 t.line, .int .i64 t.col]
abbrev Vx (li co e : Int) : Value := .agg #[.int .i64 0, .int .i64 li, .int .i64 co, .int .i64 e]
abbrev F7 (e : Int) (li co : Nat) : Ending := .panicked [{ v := .iface 30 (Vx li co e), recovered := false }]
def Zs {α : Type} (pb tb cap : Nat) (ts : List Tok) (d : Nat) (w : World) (rep : Nat → World → Value → α → Prop) (r : Pr α) (e : Ending) (w' : World) : Prop :=
 Zj pb w w' ∧ match r with
 | .inl (x, b) => Ps w' pb tb cap ts b d ∧ ∃ v, e = .returned v ∧ rep w.heap.size w' v x
 | .inr (er, li, co) => e = F7 er li co
theorem Zw (w : World) (a : Addr) (u : Value) : (w.setCell a u).heap.size = w.heap.size := by simp [World.setCell]
theorem G9 (w : World) (a : Addr) (u : Value) (o : Obj) : ((w.setCell a u).alloc o).heap[w.heap.size]? = some o := by
 have := xL (w.setCell a u) o
 rw [Zw] at this
 exact this
section
variable {w w1 w2 : World} {pb tb cap a d : Nat} {ts : List Tok}
theorem Zj.refl (pb : Nat) (w : World) : Zj pb w w := ⟨Below.refl _ _, fun _ _ _ => rfl⟩
theorem Zj.trans (h : Zj pb w w1) (k : Zj pb w1 w2) : Zj pb w w2 := ⟨h.below.trans k.below, fun b hb hl => (k.keep b hb (xT hl h.below.size)).trans (h.keep b hb hl)⟩
theorem Zj.of (hp : pb < w.heap.size) (h : Below w.heap.size w w1) : Zj pb w w1 := ⟨h.mono (Nat.le_of_lt hp), fun b _ hl => h.block b hl⟩
theorem Zj.set (h : Zj pb w w1) (o : Nat) (u : Value) : Zj pb w (w1.setCell ⟨pb, o, none⟩ u) := ⟨h.below.setCell (xR) _, fun b hb hl => (xH (by show b ≠ pb; omega)).trans (h.keep b hb hl)⟩
theorem Zj.drew (h : Zj pb w w1) : Zj pb w w1.drew := ⟨h.below.drew, h.keep⟩
theorem Zj.alloc (h : Zj pb w w1) (hp : pb < w.heap.size) (o : Obj) : Zj pb w (w1.alloc o) := ⟨h.below.alloc (by have := h.below.size; omega) _, fun b hb hl => (xA (xT hl h.below.size)).trans (h.keep b hb hl)⟩
theorem Zj.own (h : Zj pb w w1) {b : Nat} (hp : pb < w.heap.size) (hb : w.heap.size ≤ b) (o : Nat) (u : Value) : Zj pb w (w1.setCell ⟨b, o, none⟩ u) := ⟨h.below.setCell (by show pb ≤ b; omega) _, fun c _ hl => (xH (by show c ≠ b; omega)).trans (h.keep c ‹_› hl)⟩
theorem Zj.undrew (h : Zj pb w.drew w1) : Zj pb w w1 := ⟨⟨h.below.os, h.below.tape, h.below.output, h.below.size, h.below.block⟩, h.keep⟩
theorem Zj.size (h : Zj pb w w1) : w.heap.size ≤ w1.heap.size := h.below.size
theorem Ps.ltp (h : Ps w pb tb cap ts a d) : pb < w.heap.size := xB h.blk
theorem Ps.cells (h : Ps w pb tb cap ts a d) : w.cell? ⟨pb, 0, none⟩ = some (.slice (some ⟨tb, 0, none⟩) ts.length cap) ∧ w.cell? ⟨pb, 1, none⟩ = some (.int .i64 a) ∧ w.cell? ⟨pb, 2, none⟩ = some (.int .i64 d) := by
 refine ⟨?_, ?_, ?_⟩ <;> (rw [cell_of_row _ _ _ _ _ _ h.blk]; rfl)
theorem Ps.fz (h : Ps w pb tb cap ts a d) (o : Nat) : w.frozen? ⟨pb, o, none⟩ = false := by simp [World.frozen?, h.blk]
theorem Wj (h : Q7 w tb ts) (hk : w1.heap[tb]? = w.heap[tb]?) : Q7 w1 tb ts := fun i hi => by
 have hc : ∀ j, w1.cell? ⟨tb, j, none⟩ = w.cell? ⟨tb, j, none⟩ := fun j => World.cell?_of_block (w := w) (a := ⟨tb, j, none⟩) hk
 obtain ⟨q0, q1, q2, q3⟩ := h i hi
 exact ⟨(hc _).trans q0, (hc _).trans q1, (hc _).trans q2, (hc _).trans q3⟩
theorem Ps.below (h : Ps w pb tb cap ts a d) (hb : Below w.heap.size w w1) : Ps w1 pb tb cap ts a d :=
 ⟨(hb.block _ h.ltp).trans h.blk, h.tlt, Wj h.toks (hb.block _ (Nat.lt_trans h.tlt h.ltp)), h.lt⟩
theorem Ps.alloc (h : Ps w pb tb cap ts a d) (o : Obj) : Ps (w.alloc o) pb tb cap ts a d := h.below (Zl _ _)
theorem Ps.drew (h : Ps w pb tb cap ts a d) : Ps w.drew pb tb cap ts a d := h.below (Below.refl _ _).drew
theorem Ps.other (h : Ps w pb tb cap ts a d) {b : Nat} (hb : pb < b) (o : Nat) (u : Value) : Ps (w.setCell ⟨b, o, none⟩ u) pb tb cap ts a d :=
 ⟨(xH (by show pb ≠ b; omega)).trans h.blk, h.tlt, Wj h.toks (xH (by show tb ≠ b; have := h.tlt; omega)), h.lt⟩
theorem Ps.setAt (h : Ps w pb tb cap ts a d) {b : Nat} (hb : b < ts.length) : Ps (w.setCell ⟨pb, 1, none⟩ (.int .i64 b)) pb tb cap ts b d :=
 ⟨Z9 h.blk, h.tlt, Wj h.toks (xH (by show tb ≠ pb; have := h.tlt; omega)), hb⟩
theorem Ps.setDeep (h : Ps w pb tb cap ts a d) (b : Nat) : Ps (w.setCell ⟨pb, 2, none⟩ (.int .i64 b)) pb tb cap ts a b :=
 ⟨Z9 h.blk, h.tlt, Wj h.toks (xH (by show tb ≠ pb; have := h.tlt; omega)), h.lt⟩
theorem Ps.rd (h : Ps w pb tb cap ts a d) : Q4 w pb tb cap ts a := ⟨h.cells.1, h.cells.2.1, h.ltp, Nat.lt_trans h.tlt h.ltp, h.toks, h.lt⟩
theorem Q4.below (h : Q4 w pb tb cap ts a) (hb : Below w.heap.size w w1) : Q4 w1 pb tb cap ts a :=
 ⟨(hb.cell (p := ⟨pb, 0, none⟩) h.ltp).trans h.c0, (hb.cell (p := ⟨pb, 1, none⟩) h.ltp).trans h.c1, xT h.ltp hb.size, xT h.tlt hb.size, Wj h.toks (hb.block _ h.tlt), h.lt⟩
end
theorem Gc (pb tb cap a : Nat) (ts : List Tok) (w : World) (h : Q4 w pb tb cap ts a) :
  Calls prog 107 #[.pointer (some ⟨pb, 0, none⟩)] w fun e w' => e = .returned (Pu (Zg ts a)) ∧ Below w.heap.size w w' := by
 have c0 := h.c0
 have c1 := h.c1
 obtain ⟨t0, t1, t2, t3⟩ := h.toks a h.lt
 have hlt : (a : Int) < (ts.length : Int) := by have := h.lt; omega
 generalize Zg ts a = t at t0 t1 t2 t3 ⊢
 have hp := h.ltp
 have htb : tb < w.heap.size := h.tlt
 clear h
 go_enter func107, ntmps107
 go_wp2
 go_region
 all_goals
  go_wp2
  refine bodyPost_ret (results_cell_row rfl _ _ w.heap.size 108 #[.int .i64 t.kind, .string ⟨t.text.toArray⟩, .int .i64 t.line, .int .i64 t.col] (0, 0) _ rfl (xL w _) underlying108 rfl (by kernel_rfl)) rfl ⟨rfl, ?_⟩
  exact (Zl _ _).drew
theorem Ul (pb tb cap a d : Nat) (ts : List Tok) (w : World) (h : Ps w pb tb cap ts a d) :
  Calls prog 107 #[.pointer (some ⟨pb, 0, none⟩)] w fun e w' => e = .returned (Pu (Zg ts a)) ∧ Below w.heap.size w w' := Gc pb tb cap a ts w h.rd
abbrev zTok : Obj := .cells #[.int .i64 0, .string ⟨#[]⟩, .int .i64 0, .int .i64 0] 108
theorem V7 (pb tb cap a d : Nat) (ts : List Tok) (w : World) (h : Ps w pb tb cap ts a d) (hb : a + 1 < ts.length) (hts : ts.length ≤ 8193) :
  Calls prog 181 #[.pointer (some ⟨pb, 0, none⟩)] w fun e w' => e = .returned (Pu (Zg ts a)) ∧ Zj pb w w' ∧ Ps w' pb tb cap ts (a + 1) d := by
 have H := Za h
 clear h
 go_enter func181, ntmps181
 go_wp2_with fail
 refine (Ul pb tb cap a d ts _ (H.o.below (Zl _ _))).mono ?_
 rintro e w1 ⟨rfl, hb1⟩
 have P1 := Za (H.o.below (Zn (Zl _ _) hb1))
 have HB1 := Za (Zn (Zl _ _) hb1)
 have hr : w1.heap[w.heap.size]? = some zTok := (hb1.block _ (by simp)).trans (xL w _)
 obtain ⟨⟨r0, r1, r2, r3⟩, ⟨f0, f1, f2, f3⟩, hr1⟩ := Zr hr
 have HR := Za hr
 obtain ⟨c0, c1, c2⟩ := P1.o.cells
 have z1 := P1.o.fz 1
 have hp1 := P1.o.ltp
 have hpw : ¬ pb = w.heap.size := by have := H.o.ltp; omega
 have hpw' : ¬ w.heap.size = pb := by have := H.o.ltp; omega
 clear hb1 hr
 go_wp2_with fail
 have e1 : ((a : Int) + 1) = ((a + 1 : Nat) : Int) := by omega
 rw [e1]
 refine bodyPost_ret (results_cell_row rfl _ _ w.heap.size 108 #[.int .i64 (Zg ts a).kind, .string ⟨(Zg ts a).text.toArray⟩, .int .i64 (Zg ts a).line, .int .i64 (Zg ts a).col] (0, 0) _ rfl ?_ underlying108 rfl (by kernel_rfl)) rfl ⟨rfl, ?_, ?_⟩
 ·rw [xA (by simpa [World.setCell] using hr1)]
  exact set4 ((xH hpw').trans HR.o) _ _ _ _
 ·have hp := H.o.ltp
  exact (((((((Zj.of hp HB1.o).set 1 _).own hp (xR) 0 _).own hp (xR) 1 _).own hp (xR) 2 _).own hp (xR) 3 _).alloc hp _)
 ·have hp := H.o.ltp
  exact ((((((P1.o.setAt hb).other hp 0 _).other hp 1 _).other hp 2 _).other hp 3 _).alloc _)
theorem M6 (pb tb cap a d : Nat) (ts : List Tok) (w : World) (h : Ps w pb tb cap ts a d) (x : Int) :
  Calls prog 108 #[.pointer (some ⟨pb, 0, none⟩), .int .i64 x] w fun e w' => e = .returned (Vx (Zg ts a).line (Zg ts a).col x) ∧ Below w.heap.size w w' := by
 have H := Za h
 clear h
 go_enter func108, ntmps108
 go_wp2_with fail
 refine (Ul pb tb cap a d ts _ (H.o.below (Zl _ _))).mono ?_
 rintro e w1 ⟨rfl, hb1⟩
 have HB1 := Za (Zn (Zl _ _) hb1)
 have hr := (hb1.block w.heap.size (by simp)).trans (xL w _)
 obtain ⟨⟨r0, r1, r2, r3⟩, ⟨f0, f1, f2, f3⟩, hr1⟩ := Zr hr
 have HR := Za hr
 clear hb1 hr
 go_wp2_with fail
 refine bodyPost_ret (results_cell_row rfl _ _ w.heap.size 30 #[.int .i64 0, .int .i64 (Zg ts a).line, .int .i64 (Zg ts a).col, .int .i64 x] (0, 0) _ rfl ?_ underlying30 rfl (by kernel_rfl)) rfl ⟨rfl, ?_⟩
 ·rw [xA (by simpa [World.setCell] using hr1)]
  exact set4 HR.o _ _ _ _
 ·exact (Xd HB1.o (xR) _ _ _ _).alloc (by simp [World.setCell]; omega) _
def T3 (L : List (List UInt8)) (s : List UInt8) : Int := match L.findIdx? (· == s) with
 | some i => i
 | none => -1
theorem Ca {L : List (List UInt8)} {s : List UInt8} {j : Nat} (hj : j < L.length) (h : (L[j] == s) = true) (hno : ∀ m (hm : m < L.length), m < j → (L[m] == s) = false) : T3 L s = j := by
 have : L.findIdx? (· == s) = some j := List.findIdx?_eq_some_iff_getElem.2 ⟨hj, h, fun m hm => by rw [hno m (by omega) hm]; simp⟩
 rw [T3, this]
theorem Oq {L : List (List UInt8)} {s : List UInt8} (hno : ∀ m (hm : m < L.length), (L[m] == s) = false) : T3 L s = -1 := by
 have : L.findIdx? (· == s) = none := List.findIdx?_eq_none_iff.2 fun x hx => by
  obtain ⟨m, hm, rfl⟩ := List.mem_iff_getElem.1 hx
  exact hno m hm
 rw [T3, this]
theorem zey (xb cap : Nat) (L : List (List UInt8)) (s : List UInt8) (w : World) (hL : ∀ i (h : i < L.length), w.cell? ⟨xb, i, none⟩ = some (.string ⟨L[i].toArray⟩)) (hl : L.length ≤ 100) :
  Calls prog 187 #[.slice (some ⟨xb, 0, none⟩) L.length cap, .string ⟨s.toArray⟩] w fun e w' => e = .returned (.int .i64 (T3 L s)) ∧ ∃ q, w' = w.drewN q := by
 have HL := Za hL
 clear hL
 go_enter func187, ntmps187
 go_wp2_with fail
 go_loopw [5, 8] (fun _ i wx => ∃ j q : Nat, i = .int .i64 j ∧ j ≤ L.length ∧ wx = w.drewN q ∧ xQ (∀ m (hm : m < L.length), m < j → (L[m] == s) = false)) (fun _ i _ => L.length - (intOf i).toNat)
 case atStart => exact ⟨0, 0, rfl, xZ _, rfl, fun _ _ h => absurd h (Nat.not_lt_zero _)⟩
 case round =>
  obtain ⟨j, q, rfl, hj, rfl, hno⟩ := hrel
  by_cases hlt : j < L.length
  ·have hjl : (j : Int) < (L.length : Int) := by omega
   have hc := HL.o j hlt
   obtain ⟨S1, hS1⟩ : ∃ S1 : ByteArray, S1 = ⟨L[j].toArray⟩ := ⟨_, rfl⟩
   obtain ⟨S0, hS0⟩ : ∃ S0 : ByteArray, S0 = ⟨s.toArray⟩ := ⟨_, rfl⟩
   rw [← hS1] at hc
   rw [← hS0]
   cases he : (L[j] == s) with
   | true =>
    have e5 : (S0.toList == S1.toList) = true := Qn.2 (by rw [hS1, hS0, beq_iff_eq.1 he])
    have HE := Za he
    have HS := Za (And.intro hS1 hS0)
    clear he hS1 hS0
    go_wp2_with fail
    go_ret
    refine ⟨?_, q, rfl⟩
    exact congrArg (fun x => Ending.returned (.int .i64 x)) (Ca hlt HE.o hno.o).symm
   | false =>
    have e5 : (S0.toList == S1.toList) = false := by
     rw [hS1, hS0, ByteArray.toList_eq, ByteArray.toList_eq, beq_eq_false_iff_ne]
     exact fun e => beq_eq_false_iff_ne.1 he (by simpa using e.symm)
    have HE := Za he
    have HS := Za (And.intro hS1 hS0)
    clear he hS1 hS0
    go_wp2_with fail
    refine ⟨⟨j + 1, _, by go_num, by omega, rfl, ?_⟩, by simp [intOf]; omega⟩
    intro m hm hlm
    by_cases hmj : m = j
    ·subst hmj; exact HE.o
    ·exact hno.o m hm (by omega)
  ·have hjl : ¬ (j : Int) < (L.length : Int) := by omega
   go_wp2_with fail
   go_ret
   refine ⟨?_, q, rfl⟩
   exact congrArg (fun x => Ending.returned (.int .i64 x)) (Oq fun m hm => hno.o m hm (by omega)).symm
end Go.Proofs.YtbnjllkkhhkkaaaGreatDoor
