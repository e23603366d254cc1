/- types.normFunction by a contract. -/
import Derived.Test.YtmpcjcjacpjilaaDoorTyNp
namespace Go.Proofs.YtmpcjcjacpjilaaDoor
open Go.RowKit

theorem fun_len {n : Nat} {nm : List UInt8} {ns : List (List UInt8)} {ks : List Ty} (h : ks.length ≠ 2) : normT (n + 1) (mkT 6 nm ns ks) = none := by
  rw [normT_fun]
  cases hm : ks.mapM (normT n) with
  | none => rfl
  | some ms =>
    have := (mapM_mem hm).2
    show funV ms = none
    unfold funV
    rw [if_neg (by omega)]

theorem fun_two {n : Nat} {nm : List UInt8} {ns : List (List UInt8)} {x y : Ty} : normT (n + 1) (mkT 6 nm ns [x, y]) = match normT n x, normT n y with | some a, some b => some (mkT 6 [] [] [a, b]) | _, _ => none := by
  rw [normT_fun]
  cases hx : normT n x <;> cases hy : normT n y <;> simp [List.mapM_cons, hx, hy, funV]

/-- A function's type, made of two. -/
theorem funF {w : World} {lo n B c : Nat} {a b : Cells} {x y : Ty} (hB : lo ≤ B) (hb : w.heap[B]? = some (.cells (a.list ++ b.list).toArray 25)) (h1 : TyF w lo n a.val x) (h2 : TyF w lo n b.val y) (hc : 2 ≤ c) :
    TyF w lo (n + 1) (.agg #[.int .i64 6, .string ⟨#[]⟩, .slice none 0 0, .slice (some ⟨B, 0, none⟩) 2 c]) (mkT 6 [] [] [x, y]) := by
  refine ⟨6, ⟨#[]⟩, none, 0, some ⟨B, 0, none⟩, c, [], [x, y], rfl, rfl, by decide, by decide, by simp, ⟨Nat.le_refl _, by decide⟩, ⟨hc, by simp [reachBytes]⟩, .inl rfl, .inr ⟨B, 0, rfl, hB, ⟨_, _, hb⟩, fun i hi => ?_⟩⟩
  have hi' : i = 0 ∨ i = 1 := by simp at hi; omega
  rcases hi' with rfl | rfl
  · refine ⟨_, _, _, _, ?_, ?_, ?_, ?_, h1⟩ <;> (rw [cell_of_row _ _ _ _ _ _ hb]; rfl)
  · refine ⟨_, _, _, _, ?_, ?_, ?_, ?_, h2⟩ <;> (rw [cell_of_row _ _ _ _ _ _ hb]; rfl)

set_option maxHeartbeats 2000000 in
theorem normFunction_c (n : Nat) (ih : NormAt n) (nm : ByteArray) (na : Option Addr) (nc : Nat) (ka : Option Addr) (kc : Nat) (ns : List (List UInt8)) (ks : List Ty) (w : World) (hkl : ks.length ≤ reachBytes) (hk : KidsAt w false n ka ks) (hw : Words w) :
    Calls Tryd.prog 44 #[.agg #[.int .i64 6, .string nm, .slice na ns.length nc, .slice ka ks.length kc]] w (NormPost w (n + 1) (mkT 6 nm.data.toList ns ks)) := by
  have hkl' : ks.length ≤ 140737488351232 := hkl
  by_cases h2 : ks.length ≠ 2
  · have e2 : ((ks.length : Int) != 2) = true := by simp; omega
    clear hk hw hkl
    go_enter Tryd.func44, Tryd.ntmps44
    go_wp2_with fail
    refine bodyPost_ret (results_cell_tmp rfl _ rfl (heap_at1 _ _ _) Tryd.underlying25 ty_size) rfl ⟨(bl_alloc _ _).alloc (by simp) _, ?_⟩
    rw [fun_len h2]
    rfl
  have hks : ∃ x y, ks = [x, y] := by
    match ks, h2 with
    | [x, y], _ => exact ⟨x, y, rfl⟩
    | [], h => exact absurd h (by simp)
    | [_], h => exact absurd h (by simp)
    | _ :: _ :: _ :: _, h => exact absurd h (by simp)
  obtain ⟨x, y, rfl⟩ := hks
  rcases hk with h0 | hk'
  · cases h0
  have hk : KidsAt w false n ka [x, y] := .inr hk'
  obtain ⟨b, o, k1, n1, na1, nl1, nc1, la1, ll1, lc1, rfl, hbl, q0, q1, q2, q3, ht1⟩ := kid_at hk (i := 0) (by simp)
  obtain ⟨_, _, k2, n2, na2, nl2, nc2, la2, ll2, lc2, e10, _, p0, p1, p2, p3, ht2⟩ := kid_at hk (i := 1) (by simp)
  injection e10 with e10
  injection e10 with e11 e12
  subst e11 e12
  have hb1 : Below w.heap.size w ((w.alloc (tyO 6 nm na ns.length nc (some ⟨b, o, none⟩) 2 kc)).alloc (.cells #[.int .i64 0, .string ⟨#[]⟩, .slice none 0 0, .slice none 0 0] 25)) := (bl_alloc _ _).alloc (by simp) _
  simp only [Nat.zero_mul, Nat.add_zero, Nat.one_mul] at q0 q1 q2 q3 p0 p1 p2 p3
  have HC1 := hideP (ih _ _ _ (ty_below ht1 hb1) (hw.below hb1))
  have HB1 := hideP hb1
  have HT2 := hideP ht2
  have HW := hideP hw
  have HF := hideP (fun_two (n := n) (nm := nm.data.toList) (ns := ns) (x := x) (y := y))
  have HQ : Hid (∀ wx, Below w.heap.size w wx → wx.cell? ⟨b, o + 4, none⟩ = some (.int .i64 k2) ∧ wx.cell? ⟨b, o + 4 + 1, none⟩ = some (.string n2) ∧ wx.cell? ⟨b, o + 4 + 2, none⟩ = some (.slice na2 nl2 nc2) ∧ wx.cell? ⟨b, o + 4 + 3, none⟩ = some (.slice la2 ll2 lc2)) :=
    fun wx hx => ⟨(hx.cell (p := ⟨b, o + 4, none⟩) hbl).trans p0, (hx.cell (p := ⟨b, o + 4 + 1, none⟩) hbl).trans p1, (hx.cell (p := ⟨b, o + 4 + 2, none⟩) hbl).trans p2, (hx.cell (p := ⟨b, o + 4 + 3, none⟩) hbl).trans p3⟩
  clear hk hk' hw hkl ht1 ht2 hb1 h2 p0 p1 p2 p3
  go_enter Tryd.func44, Tryd.ntmps44
  go_wp2_with fail
  refine HC1.out.mono ?_
  intro e w1 hpost
  obtain ⟨hbw, hways⟩ := norm_ways hpost
  have hB1 := below_next HB1.out hbw
  have hres := (hbw.block (w.heap.size + 1) (by simp)).trans (heap_at1 _ _ _)
  have hbox := box_at (w := w) (wr := w1) (B := w.heap.size + 1) (((Below.refl _ _).alloc (by simp) (.cells #[.int .i64 0, .string ⟨#[]⟩, .slice none 0 0, .slice none 0 0] 25)).trans (hbw.mono (by simp))) (by omega)
  obtain ⟨⟨z0, z1, z2, z3⟩, ⟨f0, f1, f2, f3⟩, hlt⟩ := res_facts hres
  have x3 := hbox.2.2.2
  have hlt0 : w.heap.size < w1.heap.size := by omega
  have hbl1 : b < w1.heap.size := by omega
  have HRES := hideP hres
  have HB2 := hideP hB1
  have HBW := hideP hbw
  obtain ⟨p0, p1, p2, p3⟩ := HQ.out w1 hB1
  clear hpost hres hbox hB1 hbw HC1
  rcases hways with ⟨hn, rfl⟩ | ⟨E1, g1, g2, g3, g4, g5, g6, g7, g8, hn, rfl, hF1, _⟩
  · have HN : Hid (normT (n + 1) (mkT 6 nm.data.toList ns [x, y]) = none) := by
      rw [show normT n x = none from hn] at HF
      exact HF
    clear hn HF
    go_wp2_with fail
    exact bodyPost_ret (results_cell_tmp rfl _ rfl (no_answer HN.out HB2.out (by omega) HRES.out _).1 Tryd.underlying25 ty_size) rfl (norm_conv (no_answer HN.out HB2.out (by omega) HRES.out _).2 rfl)
  · have HF1 := hideP hF1
    have HN1 := hideP hn
    have hb3 := HB2.out.alloc HB2.out.size (tyO g1 g2 g3 g4 g5 g6 g7 g8)
    have HC2 := hideP (ih _ _ _ (ty_below HT2.out hb3) (HW.out.below hb3))
    have HB3 := hideP hb3
    clear hF1 hn hb3
    go_wp2_with fail
    refine HC2.out.mono ?_
    intro e w2 hpost
    obtain ⟨hbw, hways⟩ := norm_ways hpost
    have hB4 := below_next HB3.out hbw
    have hres : w2.heap[w.heap.size + 1]? = some (.cells #[.int .i64 0, .string ⟨#[]⟩, .slice none 0 0, .slice none 0 0] 25) := (hbw.block _ (by simp; omega)).trans ((Below.heap_alloc _ _ _ hlt).trans HRES.out)
    have hbox : w2.heap[w1.heap.size]? = some (tyO g1 g2 g3 g4 g5 g6 g7 g8) := (hbw.block _ (by simp)).trans (heap_alloc_last _ _)
    obtain ⟨⟨z0', z1', z2', z3'⟩, ⟨f0', f1', f2', f3'⟩, hlt2⟩ := res_facts hres
    obtain ⟨⟨u0, u1, u2, u3⟩, _, hlt3⟩ := res_facts hbox
    have hlt4 : w.heap.size < w2.heap.size := by omega
    have HRES2 := hideP hres
    have HB4 := hideP hB4
    have HBW2 := hideP hbw
    have HF2 : Hid (TyF w2 (w.heap.size + 2) n (.agg #[.int .i64 g1, .string g2, .slice g3 g4 g5, .slice g6 g7 g8]) E1) := tyF_below (tyF_below (tyF_lower HF1.out (by simp)) (bl_alloc _ _)) hbw
    clear hpost hres hbox hB4 hbw HC2 z0 z1 z2 z3 f0 f1 f2 f3 HRES HB3
    rcases hways with ⟨hn, rfl⟩ | ⟨E2, j1, j2, j3, j4, j5, j6, j7, j8, hn, rfl, hF3, _⟩
    · have HN : Hid (normT (n + 1) (mkT 6 nm.data.toList ns [x, y]) = none) := by
        rw [show normT n y = none from hn, show normT n x = some E1 from HN1.out] at HF
        exact HF
      clear hn HF HN1
      go_wp2_with fail
      exact bodyPost_ret (results_cell_tmp rfl _ rfl (no_answer HN.out HB4.out (by omega) HRES2.out _).1 Tryd.underlying25 ty_size) rfl (norm_conv (no_answer HN.out HB4.out (by omega) HRES2.out _).2 rfl)
    · have HN : Hid (normT (n + 1) (mkT 6 nm.data.toList ns [x, y]) = some (mkT 6 [] [] [E1, E2])) := by
        rw [show normT n y = some E2 from hn, show normT n x = some E1 from HN1.out] at HF
        exact HF
      have HF3 : Hid (TyF w2 (w.heap.size + 2) n (.agg #[.int .i64 j1, .string j2, .slice j3 j4 j5, .slice j6 j7 j8]) E2) := tyF_lower hF3 (by simp; omega)
      clear hn HF HN1 hF3
      go_wp2_with fail
      have hS := size_set4 w2 (w.heap.size + 1) (.int .i64 6) (.string ⟨#[]⟩) (.slice none 0 0) (.slice (some ⟨w2.heap.size + 1, 0, none⟩) 2 2)
      have hkeep : ∀ bb, w.heap.size + 2 ≤ bb → bb < w2.heap.size → (((((((w2.setCell ⟨w.heap.size + 1, 0, none⟩ (.int .i64 6)).setCell ⟨w.heap.size + 1, 1, none⟩ (.string ⟨#[]⟩)).setCell ⟨w.heap.size + 1, 2, none⟩ (.slice none 0 0)).setCell ⟨w.heap.size + 1, 3, none⟩ (.slice (some ⟨w2.heap.size + 1, 0, none⟩) 2 2)).alloc (tyO j1 j2 j3 j4 j5 j6 j7 j8)).alloc
          (.cells #[.int .i64 g1, .string g2, .slice g3 g4 g5, .slice g6 g7 g8, .int .i64 j1, .string j2, .slice j3 j4 j5, .slice j6 j7 j8] 25))).heap[bb]? = w2.heap[bb]? := fun bb h1 h2 => by
        rw [Below.heap_alloc _ _ _ (by simp [hS]; omega), Below.heap_alloc _ _ _ (by rw [hS]; exact h2), other_set4 (by omega)]
      refine bodyPost_ret (results_cell_tmp rfl _ rfl ((Below.heap_alloc _ _ _ (by simp [hS]; omega)).trans ((Below.heap_alloc _ _ _ (by rw [hS]; omega)).trans (set4 HRES2.out _ _ _ _))) Tryd.underlying25 ty_size) rfl ?_
      refine an_answer HN.out (((below_set4 HB4.out (by omega) _ _ _ _).alloc (by rw [hS]; exact HB4.out.size) _).alloc (by simp [hS]; have := HB4.out.size; omega) _) (funF (a := (g1, g2, g3, g4, g5, g6, g7, g8)) (b := (j1, j2, j3, j4, j5, j6, j7, j8)) (by omega) ?_ ?_ ?_ (Nat.le_refl _)) rfl
      · have := heap_at1 ((((w2.setCell ⟨w.heap.size + 1, 0, none⟩ (.int .i64 6)).setCell ⟨w.heap.size + 1, 1, none⟩ (.string ⟨#[]⟩)).setCell ⟨w.heap.size + 1, 2, none⟩ (.slice none 0 0)).setCell ⟨w.heap.size + 1, 3, none⟩ (.slice (some ⟨w2.heap.size + 1, 0, none⟩) 2 2)) (tyO j1 j2 j3 j4 j5 j6 j7 j8) (.cells #[.int .i64 g1, .string g2, .slice g3 g4 g5, .slice g6 g7 g8, .int .i64 j1, .string j2, .slice j3 j4 j5, .slice j6 j7 j8] 25)
        rw [hS] at this
        exact this
      · exact tyF_lower (tyF_keep HF2.out (by simp [hS]; omega) hkeep) (by omega)
      · exact tyF_lower (tyF_keep HF3.out (by simp [hS]; omega) hkeep) (by omega)
end Go.Proofs.YtmpcjcjacpjilaaDoor
