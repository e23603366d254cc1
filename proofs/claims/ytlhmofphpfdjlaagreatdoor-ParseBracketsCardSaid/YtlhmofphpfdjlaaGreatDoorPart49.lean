/- Part. -/
import Derived.Test.YtlhmofphpfdjlaaGreatDoorPart41
import Derived.Test.YtlhmofphpfdjlaaGreatDoorPart48
set_option maxRecDepth 100000
set_option maxHeartbeats 4000000
/- ParseBrackets: the walk. -/
namespace Go.Proofs.YtlhmofphpfdjlaaGreatDoor
open Go.Proofs.Tryz
open Go.RowKit
open Br (ShE RE lnT she_le exprText_br)
theorem exprText_err {l : List UInt8} {er : Int} {li co : Nat} (h : exprTextV l = .inr (er, li, co)) : er ≠ 0 := by
  unfold exprTextV at h
  cases hl : lexV l with
  | inr e =>
    rw [hl] at h
    injection h with h
    subst h
    exact lex_err hl
  | inl ts =>
    rw [hl] at h
    simp only at h
    have ok := lex_toks hl
    have hm := end_ok (deep_ok ok.ends ts.length 101 false 0 0 ok.pos)
    cases he : endA ts (deepA ts ts.length 101 false 0 0) with
    | inl p => rw [he] at h; cases h
    | inr p =>
      obtain ⟨a, b, c⟩ := p
      rw [he] at h hm
      injection h with h
      injection h with h1 h2
      subst h1
      rcases hm.1 with rfl | rfl <;> decide
/-- Two expressions, one a line on: without places they are the same. -/
theorem re_bare {w w' : World} {lo lo' : Nat} {x y : NV} {D D' : Ty} (hR : RE D D') (hx : NdV lo w x D) (hy : NdV lo' w' y D') : y.li = x.li + 1 /\ y.co = x.co /\ x.li <= 70000 /\ ∃ n, NodeF w 0 n x D /\ NodeF w' 0 n y D' /\ bareT n D = bareT n D' := by
  obtain ⟨m, hs, hl⟩ := hR
  obtain ⟨n1, hx⟩ := hx
  obtain ⟨n2, hy⟩ := hy
  have e : y.li = x.li + 1 /\ y.co = x.co /\ x.li <= 70000 := by
    cases m with
    | zero => exact hs.elim
    | succ m =>
      obtain ⟨k, tx, N, l, c, ts, ns, ks, ks', e1, e2, _⟩ := hs
      cases n1 with
      | zero => exact hx.elim
      | succ n1 =>
        cases n2 with
        | zero => exact hy.elim
        | succ n2 =>
          obtain ⟨_, _, _, f1, _⟩ := hx
          obtain ⟨_, _, _, f2, _⟩ := hy
          obtain ⟨_, _, _, g4, g5, _⟩ := mkE_inj (e1.symm.trans f1)
          obtain ⟨_, _, _, g6, g7, _⟩ := mkE_inj (e2.symm.trans f2)
          rw [f1] at hl
          have hl' : (x.li : Int) <= 70000 := hl
          exact ⟨by omega, by omega, by omega⟩
  refine ⟨e.1, e.2.1, e.2.2, max m (max n1 n2), nodeF_lower (nodeF_mono hx (by omega)) (Nat.zero_le _), nodeF_lower (nodeF_mono hy (by omega)) (Nat.zero_le _), sh_bare _ _ _ (she_le (by omega) hs)⟩
abbrev brS (a : ByteArray) : ByteArray := (⟨#[40, 10]⟩ : ByteArray) ++ a ++ ⟨#[10, 41]⟩
theorem brS_list (a : ByteArray) : (brS a).data.toList = 40 :: 10 :: (a.data.toList ++ [10, 41]) := by
  unfold brS
  rw [ByteArray.data_append, Array.toList_append, ByteArray.data_append, Array.toList_append]
  rfl
theorem parseBrackets_walk (a : ByteArray) (w : World) (hw : Base5 w) (hs : a.size <= 140737488351232) :
    Calls prog 3 #[.string a] w fun e w' => e = .returned (.bool true) /\ Below w.heap.size w w' := by
  have HW := hideP hw
  have HA := hideP (awake5_c w hw)
  clear hw
  have hz : ((a.size : Int) <= 9223372036854775807) := by omega
  go_enter func3, ntmps3
  go_wp2_with fail
  refine HA.out.mono ?_
  rintro e w1 ⟨rfl, hb1⟩
  have HB1 := hideP hb1
  clear hb1 HA
  by_cases hlong : (2000 : Int) < (a.size : Int)
  · go_wp2_with fail
    go_ret
    exact ⟨rfl, HB1.out⟩
  go_wp2_with fail
  refine (parseExpr_c a hs _ (HW.out.lx.below HB1.out)).mono ?_
  intro e w2 hpost
  obtain ⟨hb2, hm⟩ := hpost
  cases hR : exprTextV a.data.toList with
  | inr p =>
    obtain ⟨er, li, co⟩ := p
    rw [hR] at hm
    have hm' : e = .returned (.tuple #[zNV.val, diagV li co er]) := hm
    subst hm'
    have hx1 : ¬ er = 0 := exprText_err hR
    have hx0 : (er != 0) = true := by simpa using hx1
    have HBo : Hid (∀ o o', Below w.heap.size w ((w2.alloc o).alloc o')) := fun o o' => below_next (below_next HB1.out hb2) (below_next (bl_alloc w2 o) (bl_alloc _ o'))
    clear hm hR hb2
    go_wp2_with fail
    go_ret
    exact ⟨rfl, HBo.out _ _⟩
  | inl D =>
    rw [hR] at hm
    obtain ⟨v, rfl, x, rfl, hx⟩ := hm
    have HR := hideP hR
    obtain ⟨W2, hW2⟩ : ∃ W, W = (w2.alloc (.cells #[.int .i64 x.k, .string x.tx, .int .i64 x.N, .int .i64 x.li, .int .i64 x.co, .slice x.ta x.tl x.tc, .slice x.na x.nl x.nc, .slice x.ka x.kl x.kc] 27)).alloc (.cells #[.int .i64 0, .int .i64 0, .int .i64 0, .int .i64 0] 30) := ⟨_, rfl⟩
    have hbW : Below w2.heap.size w2 W2 := by rw [hW2]; exact below_next (bl_alloc w2 _) (bl_alloc _ _)
    have HB2 := hideP (below_next (below_next HB1.out hb2) hbW)
    have HX2 := hideP (NdV.below hx hbW)
    have HA2 : Hid (W2.heap[w2.heap.size]? = some x.obj) := by rw [hW2]; exact (Below.heap_alloc _ _ _ (by rw [World.size_alloc]; omega)).trans (heap_alloc_last w2 _)
    have HWl := hideP (HW.out.lx.below HB2.out)
    clear hx hR hb2 hbW
    go_wp2_with fail
    rw [<- hW2]
    clear hW2
    obtain ⟨ab, hab⟩ : ∃ ab, ab = w2.heap.size := ⟨_, rfl⟩
    rw [<- hab] at HA2 ⊢
    clear hab
    refine (parseExpr_c (brS a) (by rw [ByteArray.size_append, ByteArray.size_append]; show 2 + a.size + 2 <= _; omega) W2 HWl.out).mono ?_
    intro e w3 hpost
    obtain ⟨hb3, hm⟩ := hpost
    rw [brS_list] at hm
    have hA3 : w3.heap[ab]? = some x.obj := (hb3.block ab (lt_of_block HA2.out)).trans HA2.out
    rcases exprText_br HR.out (by rw [Array.length_toList]; have : a.size = a.data.size := rfl; omega) with ⟨D', hD', hRE⟩ | ⟨p6, hp6⟩
    · rw [hD'] at hm
      obtain ⟨v, rfl, y, rfl, hy⟩ := hm
      obtain ⟨a0, a1, a2, a3, a4, a5, a6, a7⟩ := (box8 hA3).1
      have hal := lt_of_block hA3
      obtain ⟨W3, hW3⟩ : ∃ W, W = (w3.alloc (.cells #[.int .i64 y.k, .string y.tx, .int .i64 y.N, .int .i64 y.li, .int .i64 y.co, .slice y.ta y.tl y.tc, .slice y.na y.nl y.nc, .slice y.ka y.kl y.kc] 27)).alloc (.cells #[.int .i64 0, .int .i64 0, .int .i64 0, .int .i64 0] 30) := ⟨_, rfl⟩
      have hbW : Below w3.heap.size w3 W3 := by rw [hW3]; exact below_next (bl_alloc w3 _) (bl_alloc _ _)
      have HB3 := hideP (below_next (below_next HB2.out hb3) hbW)
      have HX3 := hideP (NdV.below HX2.out (below_next hb3 hbW))
      have HY3 := hideP (NdV.below hy hbW)
      have HA3 : Hid (W3.heap[ab]? = some x.obj) := (hbW.block ab hal).trans hA3
      have HE3 : Hid (W3.heap[w3.heap.size]? = some y.obj) := by rw [hW3]; exact (Below.heap_alloc _ _ _ (by rw [World.size_alloc]; omega)).trans (heap_alloc_last w3 _)
      have HD3 : Hid (W3.heap[w3.heap.size + 1]? = some (.cells #[.int .i64 0, .int .i64 0, .int .i64 0, .int .i64 0] 30)) := by rw [hW3]; exact heap_at1 w3 _ _
      obtain ⟨hli, hco, hlm, n, hnx, hny, hbt⟩ := re_bare hRE HX3.out HY3.out
      have HNx := hideP hnx
      have HNy := hideP hny
      have HBt := hideP hbt
      have HLi := hideP (And.intro hli hco)
      have hs3 : W3.heap.size = w3.heap.size + 1 + 1 := by rw [hW3, World.size_alloc, World.size_alloc]
      have HS3 := hideP hs3
      obtain ⟨W4, hW4⟩ : ∃ W, W = W3.alloc (.cells #[.string ⟨#[]⟩, .bool false, .slice none 0 0, .string ⟨#[]⟩, .slice none 0 0, .int .i64 x.k, .string x.tx, .int .i64 x.N, .int .i64 x.li, .int .i64 x.co, .slice x.ta x.tl x.tc, .slice x.na x.nl x.nc, .slice x.ka x.kl x.kc, .int .i64 0, .int .i64 0] 40) := ⟨_, rfl⟩
      have HB34 : Hid (Below W3.heap.size W3 W4) := by rw [hW4]; exact bl_alloc _ _
      have HD4 : Hid (W4.heap[w3.heap.size + 1 + 1]? = some (.cells (decL x).toArray 40)) := by rw [hW4, <- hs3]; exact heap_alloc_last _ _
      clear hb3 hbW hy hA3 hnx hny hbt hRE hD' hli hco hs3
      go_wp2_with fail
      rw [<- hW3, <- hW4]
      obtain ⟨yb, hyb⟩ : ∃ yb, yb = w3.heap.size := ⟨_, rfl⟩
      rw [<- hyb] at HE3 HD3 HD4 ⊢
      clear hW3 hW4 hyb a0 a1 a2 a3 a4 a5 a6 a7 hal
      refine (bareM_c W3 0 n x D (yb + 1 + 1) W4 HNx.out HB34.out HD4.out).mono ?_
      rintro e w5 ⟨hb5, g, c, z, rfl, hcl, hcz, hbf⟩
      have HB35 := hideP (below_next HB34.out hb5)
      have HZ5 := hideP (bareF_node HB35.out (Nat.zero_le _) n z _ hbf)
      have HC5 := hideP (And.intro hcl hcz)
      have hE5 : w5.heap[yb]? = some y.obj := (HB35.out.block yb (lt_of_block HE3.out)).trans HE3.out
      obtain ⟨e0, e1, e2, e3, e4, e5, e6, e7⟩ := (box8 hE5).1
      have hel := lt_of_block hE5
      obtain ⟨W6, hW6⟩ : ∃ W, W = (w5.alloc (.cells #[.slice none 0 0, .slice (some ⟨g, 0, none⟩) 1 c] 36)).alloc (.cells #[.string ⟨#[]⟩, .bool false, .slice none 0 0, .string ⟨#[]⟩, .slice none 0 0, .int .i64 y.k, .string y.tx, .int .i64 y.N, .int .i64 y.li, .int .i64 y.co, .slice y.ta y.tl y.tc, .slice y.na y.nl y.nc, .slice y.ka y.kl y.kc, .int .i64 0, .int .i64 0] 40) := ⟨_, rfl⟩
      have HB56 : Hid (Below w5.heap.size w5 W6) := by rw [hW6]; exact below_next (bl_alloc _ _) (bl_alloc _ _)
      have HM6 : Hid (W6.heap[w5.heap.size]? = some (.cells #[.slice none 0 0, .slice (some ⟨g, 0, none⟩) 1 c] 36)) := by rw [hW6]; exact (Below.heap_alloc _ _ _ (by rw [World.size_alloc]; omega)).trans (heap_alloc_last w5 _)
      have HD6 : Hid (W6.heap[w5.heap.size + 1]? = some (.cells (decL y).toArray 40)) := by rw [hW6]; exact heap_at1 w5 _ _
      clear hb5 hcl hcz hbf hE5
      go_wp2_with fail
      rw [<- hW6]
      obtain ⟨mb, hmb⟩ : ∃ mb, mb = w5.heap.size := ⟨_, rfl⟩
      rw [<- hmb] at HM6 HD6 ⊢
      clear hW6 hmb e0 e1 e2 e3 e4 e5 e6 e7 hel
      refine (bareM_c W3 0 n y D' (mb + 1) W6 HNy.out (below_next HB35.out HB56.out) HD6.out).mono ?_
      rintro e w7 ⟨hb7, g', c', z', rfl, hcl', hcz', hbf'⟩
      have HB57 := hideP (below_next HB56.out hb7)
      have HB37 := hideP (below_next HB35.out HB57.out)
      have hM7 : w7.heap[mb]? = some (.cells #[.slice none 0 0, .slice (some ⟨g, 0, none⟩) 1 c] 36) := (hb7.block mb (lt_of_block HM6.out)).trans HM6.out
      have m0 : w7.cell? ⟨mb, 0, none⟩ = some (.slice none 0 0) := by simp [World.cell?, hM7]
      have m1 : w7.cell? ⟨mb, 1, none⟩ = some (.slice (some ⟨g, 0, none⟩) 1 c) := by simp [World.cell?, hM7]
      have hml := lt_of_block hM7
      obtain ⟨W8, hW8⟩ : ∃ W, W = w7.alloc (.cells #[.slice none 0 0, .slice (some ⟨g', 0, none⟩) 1 c'] 36) := ⟨_, rfl⟩
      have HB78 : Hid (Below w7.heap.size w7 W8) := by rw [hW8]; exact bl_alloc _ _
      have HB58 := hideP (below_next HB57.out HB78.out)
      have HG1 : Hid (MdG 0 W8 ⟨none, 0, 0, some ⟨g, 0, none⟩, 1, c⟩ ([], [mkD [] false [] [] [] (bareT n D) 0 0])) :=
        mdG_of (clean_kept HC5.out.1 (HB58.out.block g (clean_lt HC5.out.1))) (fun j hj => (HB58.out.cell (p := ⟨g, j, none⟩) (clean_lt HC5.out.1)).trans (HC5.out.2 j hj)) (nodeF_below HZ5.out HB58.out)
      have HG2 : Hid (MdG 0 W8 ⟨none, 0, 0, some ⟨g', 0, none⟩, 1, c'⟩ ([], [mkD [] false [] [] [] (bareT n D) 0 0])) := by
        rw [HBt.out]
        exact mdG_of (clean_kept hcl' (HB78.out.block g' (clean_lt hcl'))) (fun j hj => (HB78.out.cell (p := ⟨g', j, none⟩) (clean_lt hcl')).trans (hcz' j hj)) (nodeF_below (bareF_node HB37.out (Nat.zero_le _) n z' _ hbf') HB78.out)
      clear hb7 hcl' hcz' hbf' hM7
      go_wp2_with fail
      rw [<- hW8]
      clear hW8 m0 m1 hml
      refine (modulesG_same HG1.out HG2.out).mono ?_
      rintro e w9 ⟨rfl, hb9⟩
      have HB39 := hideP (below_next HB37.out (below_next HB78.out hb9))
      have hA9 : w9.heap[ab]? = some x.obj := (HB39.out.block ab (lt_of_block HA3.out)).trans HA3.out
      have hE9 : w9.heap[yb]? = some y.obj := (HB39.out.block yb (lt_of_block HE3.out)).trans HE3.out
      have hD9 := (HB39.out.block (yb + 1) (lt_of_block HD3.out)).trans HD3.out
      obtain ⟨_, _, _, a3, a4, _, _, _⟩ := (box8 hA9).1
      obtain ⟨_, _, _, e3, e4, _, _, _⟩ := (box8 hE9).1
      have d3 : w9.cell? ⟨yb + 1, 3, none⟩ = some (.int .i64 0) := by simp [World.cell?, hD9]
      rw [HLi.out.1] at e3
      rw [HLi.out.2] at e4
      have hl1 : (x.li : Int) <= 70000 := by omega
      have hal := lt_of_block hA9
      have hel := lt_of_block hE9
      have hdl := lt_of_block hD9
      clear hA9 hE9 hD9 hb9
      go_wp2_with fail
      go_ret
      exact ⟨rfl, below_next HB3.out HB39.out⟩
    · obtain ⟨li, co⟩ := p6
      rw [hp6] at hm
      have hm' : e = .returned (.tuple #[zNV.val, diagV li co 6]) := hm
      subst hm'
      have HBo : Hid (∀ o o', Below w.heap.size w ((w3.alloc o).alloc o')) := fun o o' => below_next (below_next HB2.out hb3) (below_next (bl_alloc w3 o) (bl_alloc _ o'))
      clear hm hp6 hb3 hA3
      go_wp2_with fail
      go_ret
      exact ⟨rfl, HBo.out _ _⟩
end Go.Proofs.YtlhmofphpfdjlaaGreatDoor
