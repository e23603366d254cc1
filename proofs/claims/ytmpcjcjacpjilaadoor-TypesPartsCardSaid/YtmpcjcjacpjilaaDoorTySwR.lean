/- types.show by a contract: records. -/
import Derived.Test.YtmpcjcjacpjilaaDoorTySwV
namespace Go.Proofs.YtmpcjcjacpjilaaDoor
open Go.RowKit

set_option maxHeartbeats 4000000 in
set_option maxRecDepth 100000 in
theorem show_rec_c (n : Nat) (ih : ShowAt n) (nm : ByteArray) (na : Option Addr) (nc : Nat) (ka : Option Addr) (kc : Nat) (ns : List (List UInt8)) (ks : List Ty) (w : World) (hnk : ns.length = ks.length) (h16 : ks.length ≤ 16) (hna : NamesAt w na ns) (hk : KidsAt w false n ka ks) (hx : ∀ x ∈ ks, NormT n x) (hp : Plain w) (hl : (showT (n + 1) false (mkT 5 [] ns ks)).length ≤ 1000000) :
    Calls Tryd.prog 38 #[.agg #[.int .i64 5, .string nm, .slice na ns.length nc, .slice ka ks.length kc]] w (ShowPost w (n + 1) false (mkT 5 [] ns ks)) := by
  obtain ⟨L, hL⟩ : ∃ L, L = List.zipWith (fun s x => s ++ 58 :: 32 :: showT n false x) ns ks := ⟨_, rfl⟩
  have hLl : L.length = ks.length := by rw [hL, List.length_zipWith]; omega
  have hLi : ∀ i (h : i < L.length) (h1 : i < ns.length) (h2 : i < ks.length), L[i] = ns[i] ++ 58 :: 32 :: showT n false ks[i] := fun i h h1 h2 => by subst hL; simp
  have hsh : showT (n + 1) false (mkT 5 [] ns ks) = 123 :: (joinV [44, 32] L ++ [125]) := by rw [hL]; exact show_rec ..
  have hjl : (joinV [44, 32] L).length ≤ 999998 := by rw [hsh] at hl; simp at hl; omega
  have HLL := hideP hLl
  have HLI := hideP hLi
  have HSH := hideP hsh
  have HJL := hideP hjl
  have HNK := hideP hnk
  have HNA := hideP hna
  have HK := hideP hk
  have HX := hideP hx
  have HP := hideP hp
  have IH := hideP ih
  have e16 : (ks.length : Int) ≤ 16 := by omega
  have hmk := run_make_row' (P := Tryd.prog) 22 9 (.string ⟨#[]⟩) 16 Tryd.underlying22 info_str rfl .i64 .i64 ks.length (by omega) (by omega)
  clear hL hLl hLi hsh hjl hnk hna hk hx hp ih hl
  go_enter Tryd.func38, Tryd.ntmps38
  go_wp2_with fail
  go_loopw [20] (fun i wr => ∃ j : Nat, i = .int .i64 j ∧ j ≤ ks.length ∧ Hid (SInv w wr (tyO 5 nm na ns.length nc ka ks.length kc) L j)) (fun i _ => ks.length - (intOf i).toNat)
  case atStart =>
    refine ⟨0, rfl, Nat.zero_le _, below_next (bl_alloc w _) (bl_alloc _ _), (Below.heap_alloc _ _ _ (by simp)).trans (heap_alloc_last w _), _, heap_at1 w _ _, ?_, fun k _ h => absurd h (Nat.not_lt_zero _)⟩
    rw [HLL.out]
    exact size_madeCells _ _
  case round =>
    obtain ⟨j, rfl, hj, hS⟩ := hrel
    obtain ⟨⟨x0, x1, x2, x3⟩, _, hltx⟩ := res_facts hS.out.hx
    by_cases hlt : j < ks.length
    · have hjl : (j : Int) < (ks.length : Int) := by omega
      have hjn : j < ns.length := by have := HNK.out; omega
      have hjn' : (j : Int) < (ns.length : Int) := by omega
      have hjL : j < L.length := by have := HLL.out; omega
      obtain ⟨b, o, k1, n1, na1, nl1, nc1, la1, ll1, lc1, rfl, hbl, q0, q1, q2, q3, ht1⟩ := kid_at HK.out hlt
      have hnj : ∃ nb no, na = some ⟨nb, no, none⟩ ∧ nb < w.heap.size ∧ w.cell? ⟨nb, no + j, none⟩ = some (.string ⟨ns[j].toArray⟩) := by
        rcases HNA.out with h0 | ⟨nb, no, e, hb, hc⟩
        · rw [h0] at hjn; cases hjn
        · exact ⟨nb, no, e, hb, hc j hjn⟩
      obtain ⟨nb, no, rfl, hnb, hns⟩ := hnj
      obtain ⟨S, hSe⟩ : ∃ S : ByteArray, S = ⟨ns[j].toArray⟩ := ⟨_, rfl⟩
      rw [← hSe] at hns
      have hSd : S.data.toList = ns[j] := by rw [hSe]
      have hLj := HLI.out j hjL hjn hlt
      have hlen := join_len [44, 32] L L[j] (List.getElem_mem hjL)
      have hlen2 : (ns[j]).length + 2 + (showT n false ks[j]).length ≤ 999998 := by
        have := HJL.out
        rw [hLj] at hlen
        simp at hlen
        omega
      have hSz : S.size ≤ 999998 := by
        have : S.size = (ns[j]).length := by rw [hSe]; rfl
        omega
      have HSD := hideP hSd
      have HLJ := hideP hLj
      have r0 := (hS.out.bl.cell (p := ⟨b, o + j * 4, none⟩) hbl).trans q0
      have r1 := (hS.out.bl.cell (p := ⟨b, o + j * 4 + 1, none⟩) hbl).trans q1
      have r2 := (hS.out.bl.cell (p := ⟨b, o + j * 4 + 2, none⟩) hbl).trans q2
      have r3 := (hS.out.bl.cell (p := ⟨b, o + j * 4 + 3, none⟩) hbl).trans q3
      have rN := (hS.out.bl.cell (p := ⟨nb, no + j, none⟩) hnb).trans hns
      have hbr : b < wr.heap.size := Nat.lt_of_lt_of_le hbl hS.out.bl.size
      have hnr : nb < wr.heap.size := Nat.lt_of_lt_of_le hnb hS.out.bl.size
      obtain ⟨⟨vv, cv⟩, fv, hlv⟩ := hS.out.facts hjL
      obtain ⟨W, hW⟩ : ∃ W, W = wr.alloc (tyO k1 n1 na1 nl1 nc1 la1 ll1 lc1) := ⟨_, rfl⟩
      have hbW : Below wr.heap.size wr W := by rw [hW]; exact bl_alloc _ _
      have hSW := hS.out.grow hbW
      have HSW := hideP hSW
      have HC : Hid (∀ wx, Below W.heap.size W wx → Calls Tryd.prog 38 #[.agg #[.int .i64 k1, .string n1, .slice na1 nl1 nc1, .slice la1 ll1 lc1]] wx fun e w' => (∃ s : ByteArray, e = .returned (.string s) ∧ s.data.toList = showT n false ks[j] ∧ s.size ≤ 999998) ∧ Below W.heap.size W w') := fun wx hwx =>
        (IH.out _ _ _ (ty_below ht1 (below_next hSW.bl hwx)) (HX.out _ (List.getElem_mem hlt)) (HP.out.below (below_next hSW.bl hwx)) (by omega)).mono fun e w' ⟨s, e1, e2, e3⟩ => ⟨⟨s, e1, e2, by have h : s.data.toList.length ≤ 999998 := by { rw [e2]; omega }; exact h⟩, below_next hwx e3⟩
      have HCELL : Hid (∀ wx, Below W.heap.size W wx → wx.cell? ⟨w.heap.size, 2, none⟩ = some (.slice (some ⟨nb, no, none⟩) ns.length nc) ∧ wx.cell? ⟨nb, no + j, none⟩ = some (.string S) ∧ (∃ v, wx.cell? ⟨w.heap.size + 1, j, none⟩ = some v) ∧ wx.frozen? ⟨w.heap.size + 1, j, none⟩ = false ∧ w.heap.size + 1 < wx.heap.size ∧ w.heap.size < wx.heap.size ∧ nb < wx.heap.size) := fun wx hwx => by
        have hSx := hSW.grow hwx
        obtain ⟨g1, g2, g3⟩ := hSx.facts hjL
        exact ⟨(res_facts hSx.hx).1.2.2.1, (hSx.bl.cell (p := ⟨nb, no + j, none⟩) hnb).trans hns, g1, g2, g3, by omega, Nat.lt_of_lt_of_le hnb hSx.bl.size⟩
      subst hW
      clear q0 q1 q2 q3 ht1 hns hSe hSd hLj hlen hlen2 hbW hSW
      go_wp2_with fail
      go_region_with (go_at_call 38; refine (HC.out _ (by first | exact Below.refl _ _ | exact below_drewN (Below.refl _ _) _ | exact (Below.refl _ _).drew)).mono ?_; rintro e w1 ⟨⟨s1, rfl, hs1, hz1⟩, hb1⟩; obtain ⟨t0, t1, ⟨vt, t2⟩, t3, t4, t5, t6⟩ := HCELL.out _ hb1; have HS1 := hideP hs1; have HB1 := hideP hb1; clear hs1 hb1)
      all_goals
        go_wp2_with fail
        refine ⟨⟨j + 1, by go_num, by omega, ?_⟩, by simp [intOf]; omega⟩
        refine (HSW.out.grow (by first | exact HB1.out | exact below_drewN HB1.out _ | exact HB1.out.drew)).put hjL ?_
        rw [HLJ.out, ← HSD.out, ← HS1.out]
        simp [ByteArray.data_append]
    · have hjl : ¬ (j : Int) < (ks.length : Int) := by omega
      have hje : j = L.length := by have := HLL.out; omega
      subst hje
      have hjc := join_c ⟨#[44, 32]⟩ L (w.heap.size + 1) wr hS.out.done (by obtain ⟨cs, h1, _⟩ := hS.out.rw; exact lt_of_block h1) (by show (joinV [44, 32] L).length ≤ _; have := HJL.out; omega) (by have := HLL.out; omega)
      rw [HLL.out] at hjc
      have HJC := hideP hjc
      have HBl := hideP hS.out.bl
      clear hjc
      go_wp2_with fail
      refine HJC.out.mono ?_
      rintro e w1 ⟨⟨s1, rfl, hs1, hz1⟩, hb1⟩
      have HS1 := hideP hs1
      have HB1 := hideP (below_next HBl.out hb1)
      have hz2 : s1.size ≤ 999998 := by
        have h1 : s1.size = s1.data.toList.length := rfl
        rw [h1, hs1]
        exact HJL.out
      clear hs1 hb1
      go_wp2_with fail
      go_ret
      refine ⟨_, rfl, ?_, HB1.out⟩
      rw [HSH.out, ← show s1.data.toList = joinV [44, 32] L from HS1.out]
      simp [ByteArray.data_append]
end Go.Proofs.YtmpcjcjacpjilaaDoor
