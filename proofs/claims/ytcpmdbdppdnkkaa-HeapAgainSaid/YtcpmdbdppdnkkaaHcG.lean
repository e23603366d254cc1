/- The program's arena: what an object has. -/
import Derived.Test.YtcpmdbdppdnkkaaHcP
namespace Go.Proofs.Ytcpmdbdppdnkkaa
open Go.RowKit

def sliceLen : Value → Nat
  | .slice _ m _ => m
  | _ => 0
set_option maxRecDepth 100000 in
set_option maxHeartbeats 8000000 in
theorem kslots_c (B kb : Nat) (F : Nat → Prop) (room free used : Int) (C : List CellV) (os : List Int) (o : Ob) (w : World) (h : KeptT B F w kb room C free used os) (ho : ObjC C o) (hl : o.l.length ≤ 2000000000) :
    Calls Try.prog 29 #[.pointer (some ⟨kb, 0, none⟩), .int .i64 (o.p : Int)] w fun e w' => ∃ v, e = .returned v ∧ w'.ownsRow w.heap.size 47 2 v o.l.length (o.l.flatMap sltC) ∧ Ch noB w w' := by
  obtain ⟨c0, g1, g2, g3, g4⟩ := ho
  obtain ⟨p, l, ps⟩ := o
  simp only at g1 g3 g4 hl ⊢
  have hp := (List.getElem?_eq_some_iff.1 g1).1
  obtain ⟨a1, c1, a2, c2, ⟨x0, _⟩, _⟩ := h.look
  obtain ⟨q, rfl, _, hqk, ⟨y0, y1, y2, y3, y4⟩, _⟩ := KeptT.at h g1 x0
  have hpl : (p : Int) < (C.length : Int) := by omega
  have hp0 : (0 : Int) ≤ (p : Int) := by omega
  obtain ⟨n, hn⟩ : ∃ n, n = l.length := ⟨_, rfl⟩
  rw [← hn] at g3 hl ⊢
  rw [g3] at y0
  obtain ⟨nx, hnx⟩ : ∃ nx, nx = c0.next := ⟨_, rfl⟩
  rw [← hnx] at g4 y1
  obtain ⟨r0, hr0⟩ : ∃ r, r = c0.ref := ⟨_, rfl⟩
  obtain ⟨f0, hf0⟩ : ∃ r, r = c0.first := ⟨_, rfl⟩
  obtain ⟨s0, hs0⟩ : ∃ r, r = c0.stays := ⟨_, rfl⟩
  rw [← hr0] at y2
  rw [← hf0] at y3
  rw [← hs0] at y4
  have hnz : ((n : Int) ≤ 9223372036854775807) := by omega
  have hn0 : (0 : Int) ≤ (n : Int) := by omega
  have H := hideP h
  have HG := hideP g4
  have HN := hideP hn
  obtain ⟨i0, hi, hz0, hz1, hz2⟩ := info_parts info_slot
  clear h g1 g2 g3 g4 hn hnx hr0 hf0 hs0 hp
  go_enter Try.func29, Try.ntmps29
  go_wp2_with (at_make; refine wpList_make_own _ rfl (.const (.int .i64 0)) (.tmp 16) 32 rfl w.heap.size 47 i0 (.agg #[.bool false, .int .i64 0]) 2 Try.underlying32 hi hz0 hz1 .i64 .i64 _ n rfl rfl rfl (by rw [hz2]; omega) (by unfold maxLen; omega) (by rw [World.size_alloc]; omega) ?_)
  intro w1 hown hgrow
  have HC1 : Hid (Ch noB w w1) := ((Ch.refl _ w).alloc _).grown hgrow fun q hq => by cases hq
  obtain ⟨⟨z0, z1, z2, z3, z4⟩, _⟩ := box5 (((Ch.refl noB _).grown hgrow fun q hq => by cases hq).obj (heap_alloc_last w (.cells #[.int .i64 (n : Int), .int .i64 nx, .bool r0, .bool f0, .bool s0] 70)) fun h => h)
  obtain ⟨a3, c3, e3⟩ := row_shape hown
  rw [e3] at hown ⊢
  have HO1 : Hid (w1.ownsRow w.heap.size 47 2 (.slice a3 0 c3) 0 ((l.take 0).flatMap sltC)) := hown
  clear hown hgrow e3 x0 y0 y1 y2 y3 y4
  go_wp2_with fail
  go_loopw [6, 7] (fun lv i wr => ∃ (j : Nat) (a : Option Addr) (c : Nat) (x : Int), lv = .slice a j c ∧ i = .int .i64 x ∧ j ≤ n ∧ Hid (∃ ps', SlotsC C x ps' (l.drop j)) ∧ Hid (wr.ownsRow w.heap.size 47 2 (.slice a j c) j ((l.take j).flatMap sltC)) ∧ Hid (Ch noB w wr)) (fun lv _ _ => n - sliceLen lv)
  case atStart => exact ⟨0, a3, c3, nx, rfl, rfl, Nat.zero_le _, ⟨ps, HG.out⟩, HO1.out, HC1.out⟩
  case round =>
    clear HO1 HC1 z0 z1 z2 z3 z4
    obtain ⟨j, a4, c4, x, rfl, rfl, hj, HS, HO, HC⟩ := hrel
    by_cases hjn : j < n
    · have hjl : j < l.length := by rw [← HN.out]; exact hjn
      obtain ⟨ps', hs⟩ := HS.out
      have hd := List.drop_eq_getElem_cons hjl
      rw [hd] at hs
      cases ps' with
      | nil => exact hs.elim
      | cons p' ps' =>
        obtain ⟨rfl, c, k1, k2, k3, k4, k5⟩ := hs
        obtain ⟨⟨sr, sn⟩, hsl⟩ : ∃ s, s = l[j] := ⟨_, rfl⟩
        have htk : (l.take (j + 1)).flatMap sltC = (l.take j).flatMap sltC ++ [.bool sr, .int .i64 sn] := by
          rw [List.take_succ_eq_append_getElem hjl, List.flatMap_append, ← hsl]
          simp
        rw [← hsl] at k2 k3
        simp only at k2 k3
        have hp' := (List.getElem?_eq_some_iff.1 k1).1
        have hpl' : (p' : Int) < (C.length : Int) := by omega
        have hp0' : (0 : Int) ≤ (p' : Int) := by omega
        have hpz : ¬ (p' : Int) = -1 := by omega
        have KW : KeptT B F wr kb room C free used os := KR.ch H.out HC.out fun _ _ h => h
        obtain ⟨a5, c5, a6, c6, ⟨x0, _⟩, _⟩ := KW.look
        obtain ⟨q', rfl, hFq, _, ⟨y0, y1, y2, _, _⟩, _⟩ := KeptT.at KW k1 x0
        have hqw := (H.out.lt q' hFq).2
        have hkw := (H.out.lt kb H.out.self).2
        rw [k2] at y0
        rw [k3] at y2
        obtain ⟨nx', hnx'⟩ : ∃ nx', nx' = c.next := ⟨_, rfl⟩
        rw [← hnx'] at k5 y1
        have HS2 : Hid (∃ ps', SlotsC C nx' ps' (l.drop (j + 1))) := ⟨ps', k5⟩
        have HTK := hideP htk
        have hbw := HC.out.size
        clear KW k1 k2 k3 k4 k5 hsl hd htk hnx' HS hp'
        go_upto_region 6 with fail
        go_region_law (refine step_append_at rfl (.tmp 30) (.tmp 48) 32 rfl w.heap.size 47 i0 _ 2 16 Try.underlying32 hi hz0 hz1 hz2 rfl (by decide) _ j _ (by first | rfl | simp [Act.eval, Act.put]) ((show wr.drew.ownsRow w.heap.size 47 2 (.slice a4 j c4) j ((l.take j).flatMap sltC) from HO.out).alloc _) ⟨wr.heap.size, 0, none⟩ 1 1 [.bool sr, .int .i64 sn] (by first | rfl | simp [Act.eval, Act.put]) rfl (cells_newK _ _ _) (by simp [Value.oneCell']) (by unfold maxLen; omega) (by omega) (by show w.heap.size ≤ (wr.alloc _).heap.size; rw [World.size_alloc]; omega) ?_; intro v' V2 hown' hgrow _; obtain ⟨a7, c7, rfl⟩ := row_shape hown'; have HO2 : Hid (V2.ownsRow w.heap.size 47 2 (.slice a7 (j + 1) c7) (j + 1) ((l.take (j + 1)).flatMap sltC)) := (by rw [HTK.out]; exact hown'); have HC2 : Hid (Ch noB w V2) := ((HC.out.drew.alloc _).grown hgrow fun q hq hlt => (by have := (HO.out.lt q hq).1; omega)); have HC3 : Hid (Ch (fun b => w.heap.size ≤ b) wr V2) := (((Ch.refl _ wr).drew.alloc _).grown hgrow fun q hq _ => (HO.out.lt q hq).1); have u1 := HC3.out.cell x0 (by show ¬ w.heap.size ≤ kb; omega); have u2 := HC3.out.cell y1 (by show ¬ w.heap.size ≤ q'; omega); clear hown' hgrow)
        all_goals
          go_wp2_with fail
          exact ⟨⟨j + 1, a7, c7, nx', rfl, rfl, by omega, HS2.out, HO2.out, HC2.out⟩, by simp [sliceLen]; omega⟩
    · obtain rfl : j = n := by omega
      obtain ⟨ps', hs⟩ := HS.out
      rw [HN.out, List.drop_length] at hs
      cases ps' with
      | cons _ _ => exact hs.elim
      | nil =>
        have hx : x = -1 := hs
        subst hx
        have HO2 : Hid (wr.ownsRow w.heap.size 47 2 (.slice a4 j c4) j (l.flatMap sltC)) := by
          have := HO.out
          rw [List.take_of_length_le (by rw [← HN.out]; exact Nat.le_refl _)] at this
          exact this
        clear HO hs HS
        go_wp2_with fail
        go_ret
        exact ⟨_, rfl, HO2.out, HC.out⟩
end Go.Proofs.Ytcpmdbdppdnkkaa
