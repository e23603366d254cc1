/- types.show by a contract: unions. -/
import Derived.Test.YtmpcjcjacpjilaaDoorTySwV
namespace Go.Proofs.YtmpcjcjacpjilaaDoor
open Go.RowKit

set_option maxHeartbeats 4000000 in
set_option maxRecDepth 100000 in
theorem show_uni_c (n : Nat) (ih : ShowAt n) (nm : ByteArray) (na : Option Addr) (nl nc : Nat) (ka : Option Addr) (kc : Nat) (ks : List Ty) (w : World) (h16 : ks.length ≤ 1000) (hk : KidsAt w false n ka ks) (hx : ∀ x ∈ ks, NormT n x) (hp : Plain w) (hl : (showT (n + 1) false (mkT 7 [] [] ks)).length ≤ 1000000) :
    Calls Tryd.prog 38 #[.agg #[.int .i64 7, .string nm, .slice na nl nc, .slice ka ks.length kc]] w (ShowPost w (n + 1) false (mkT 7 [] [] ks)) := by
  obtain ⟨L, hL⟩ : ∃ L, L = ks.map (showT n true) := ⟨_, rfl⟩
  have hLl : L.length = ks.length := by rw [hL, List.length_map]
  have hLi : ∀ i (h : i < L.length) (h2 : i < ks.length), L[i] = showT n true ks[i] := fun i h h2 => by subst hL; simp
  have hsh : showT (n + 1) false (mkT 7 [] [] ks) = joinV [32, 124, 32] L := by rw [hL]; exact show_union ..
  have hjl : (joinV [32, 124, 32] L).length ≤ 1000000 := by rw [hsh] at hl; exact hl
  have HLL := hideP hLl
  have HLI := hideP hLi
  have HSH := hideP hsh
  have HJL := hideP hjl
  have HK := hideP hk
  have HX := hideP hx
  have HP := hideP hp
  have IH := hideP ih
  have e16 : (ks.length : Int) ≤ 1000 := by omega
  have hmk := run_make_row' (P := Tryd.prog) 22 9 (.string ⟨#[]⟩) 16 Tryd.underlying22 info_str rfl .i64 .i64 ks.length (by omega) (by omega)
  clear hL hLl hLi hsh hjl hk hx hp ih hl
  go_enter Tryd.func38, Tryd.ntmps38
  go_wp2_with fail
  go_loopw [65] (fun i wr => ∃ j : Nat, i = .int .i64 j ∧ j ≤ ks.length ∧ Hid (SInv w wr (tyO 7 nm na nl nc ka ks.length kc) L j)) (fun i _ => ks.length - (intOf i).toNat)
  case atStart =>
    refine ⟨0, rfl, Nat.zero_le _, below_next (bl_alloc w _) (bl_alloc _ _), (Below.heap_alloc _ _ _ (by simp)).trans (heap_alloc_last w _), _, heap_at1 w _ _, ?_, fun k _ h => absurd h (Nat.not_lt_zero _)⟩
    rw [HLL.out]
    exact size_madeCells _ _
  case round =>
    obtain ⟨j, rfl, hj, hS⟩ := hrel
    by_cases hlt : j < ks.length
    · have hjl : (j : Int) < (ks.length : Int) := by omega
      have hjL : j < L.length := by have := HLL.out; omega
      obtain ⟨b, o, k1, n1, na1, nl1, nc1, la1, ll1, lc1, rfl, hbl, q0, q1, q2, q3, ht1⟩ := kid_at HK.out hlt
      have hLj := HLI.out j hjL hlt
      have hlen := join_len [32, 124, 32] L L[j] (List.getElem_mem hjL)
      have hlen2 : (showT n true ks[j]).length ≤ 1000000 := by
        have := HJL.out
        rw [hLj] at hlen
        omega
      have HLJ := hideP hLj
      have r0 := (hS.out.bl.cell (p := ⟨b, o + j * 4, none⟩) hbl).trans q0
      have r1 := (hS.out.bl.cell (p := ⟨b, o + j * 4 + 1, none⟩) hbl).trans q1
      have r2 := (hS.out.bl.cell (p := ⟨b, o + j * 4 + 2, none⟩) hbl).trans q2
      have r3 := (hS.out.bl.cell (p := ⟨b, o + j * 4 + 3, none⟩) hbl).trans q3
      have hbr : b < wr.heap.size := Nat.lt_of_lt_of_le hbl hS.out.bl.size
      have hSW := hS.out.grow (bl_alloc wr (tyO k1 n1 na1 nl1 nc1 la1 ll1 lc1))
      have HSW := hideP hSW
      have HC := hideP (inBrackets_c n IH.out _ _ _ (ty_below ht1 hSW.bl) (HX.out _ (List.getElem_mem hlt)) (HP.out.below hSW.bl) hlen2)
      clear q0 q1 q2 q3 ht1 hLj hlen hlen2 hSW
      go_wp2_with fail
      refine HC.out.mono ?_
      rintro e w1 ⟨s1, rfl, hs1, hb1⟩
      have HS1 := hideP hs1
      have HS2 := hideP (HSW.out.grow hb1)
      obtain ⟨⟨vv, cv⟩, fv, hlv⟩ := HS2.out.facts hjL
      clear hs1 hb1
      go_wp2_with fail
      refine ⟨⟨j + 1, by go_num, by omega, ?_⟩, by simp [intOf]; omega⟩
      exact HS2.out.put hjL (HS1.out.trans HLJ.out.symm)
    · have hjl : ¬ (j : Int) < (ks.length : Int) := by omega
      have hje : j = L.length := by have := HLL.out; omega
      subst hje
      have hjc := join_c ⟨#[32, 124, 32]⟩ L (w.heap.size + 1) wr hS.out.done (by obtain ⟨cs, h1, _⟩ := hS.out.rw; exact lt_of_block h1) (by show (joinV [32, 124, 32] L).length ≤ _; have := HJL.out; omega) (by have := HLL.out; omega)
      rw [HLL.out] at hjc
      have HJC := hideP hjc
      have HBl := hideP hS.out.bl
      clear hjc
      go_wp2_with fail
      refine HJC.out.mono ?_
      rintro e w1 ⟨⟨s1, rfl, hs1, hz1⟩, hb1⟩
      have HS1 := hideP hs1
      have HB1 := hideP (below_next HBl.out hb1)
      clear hs1 hb1
      go_wp2_with fail
      go_ret
      refine ⟨_, rfl, ?_, HB1.out⟩
      rw [HSH.out]
      exact HS1.out
end Go.Proofs.YtmpcjcjacpjilaaDoor
