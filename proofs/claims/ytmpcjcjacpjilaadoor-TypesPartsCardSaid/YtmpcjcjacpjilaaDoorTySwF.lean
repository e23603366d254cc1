/- types.show by a contract: functions. -/
import Derived.Test.YtmpcjcjacpjilaaDoorTySw
namespace Go.Proofs.YtmpcjcjacpjilaaDoor
open Go.RowKit

set_option maxHeartbeats 4000000 in
set_option maxRecDepth 100000 in
theorem show_fun_c (n : Nat) (ih : ShowAt n) (nm : ByteArray) (na : Option Addr) (nl nc : Nat) (ka : Option Addr) (kc : Nat) (x y : Ty) (w : World) (hk : KidsAt w false n ka [x, y]) (hx : NormT n x) (hy : NormT n y) (hp : Plain w) (hl : (showT n true x ++ [32, 45, 62, 32] ++ showT n false y).length ≤ 1000000) :
    Calls Tryd.prog 38 #[.agg #[.int .i64 6, .string nm, .slice na nl nc, .slice ka 2 kc]] w (ShowPost w (n + 1) false (mkT 6 [] [] [x, y])) := by
  have hb := bl_alloc w (tyO 6 nm na nl nc ka 2 kc)
  obtain ⟨b, o, k1, n1, na1, nl1, nc1, la1, ll1, lc1, rfl, hbl, q0, q1, q2, q3, ht1⟩ := kid_at (i := 0) hk (by simp)
  obtain ⟨b', o', k2, n2, na2, nl2, nc2, la2, ll2, lc2, e', hbl', p0, p1, p2, p3, ht2⟩ := kid_at (i := 1) hk (by simp)
  injection e' with e'
  injection e' with e1' e2' _
  subst e1' e2'
  simp only [Nat.zero_mul, Nat.one_mul, Nat.add_zero] at q0 q1 q2 q3 p0 p1 p2 p3
  have hl1 : (showT n true x).length ≤ 1000000 := by simp at hl; omega
  have hl2 : (showT n false y).length ≤ 1000000 := by simp at hl; omega
  obtain ⟨W, hW⟩ : ∃ W, W = w.alloc (tyO 6 nm na nl nc (some ⟨b, o, none⟩) 2 kc) := ⟨_, rfl⟩
  rw [← hW] at hb
  have hbx : W.heap[w.heap.size]? = some (tyO 6 nm na nl nc (some ⟨b, o, none⟩) 2 kc) := by rw [hW]; exact heap_alloc_last w _
  have HC1 : Hid (∀ wx, Below W.heap.size W wx → Calls Tryd.prog 74 #[.agg #[.int .i64 k1, .string n1, .slice na1 nl1 nc1, .slice la1 ll1 lc1]] wx fun e w' => (∃ s : ByteArray, e = .returned (.string s) ∧ s.data.toList = showT n true x ∧ s.size ≤ 1000000) ∧ Below W.heap.size W w') := fun wx hwx =>
    (inBrackets_c n ih _ _ _ (ty_below ht1 (below_next hb hwx)) hx (hp.below (below_next hb hwx)) hl1).mono fun e w' ⟨s, e1, e2, e3⟩ => ⟨⟨s, e1, e2, by have h : s.data.toList.length ≤ 1000000 := by { rw [e2]; exact hl1 }; exact h⟩, below_next hwx e3⟩
  have HC2 : Hid (∀ wx, Below W.heap.size W wx → Calls Tryd.prog 38 #[.agg #[.int .i64 k2, .string n2, .slice na2 nl2 nc2, .slice la2 ll2 lc2]] wx fun e w' => (∃ s : ByteArray, e = .returned (.string s) ∧ s.data.toList = showT n false y ∧ s.size ≤ 1000000) ∧ Below W.heap.size W w') := fun wx hwx =>
    (ih _ _ _ (ty_below ht2 (below_next hb hwx)) hy (hp.below (below_next hb hwx)) hl2).mono fun e w' ⟨s, e1, e2, e3⟩ => ⟨⟨s, e1, e2, by have h : s.data.toList.length ≤ 1000000 := by { rw [e2]; exact hl2 }; exact h⟩, below_next hwx e3⟩
  have HCELL : Hid (∀ wx, Below W.heap.size W wx → wx.cell? ⟨w.heap.size, 3, none⟩ = some (.slice (some ⟨b, o, none⟩) 2 kc) ∧ wx.cell? ⟨b, o + 4, none⟩ = some (.int .i64 k2) ∧ wx.cell? ⟨b, o + 4 + 1, none⟩ = some (.string n2) ∧ wx.cell? ⟨b, o + 4 + 2, none⟩ = some (.slice na2 nl2 nc2) ∧ wx.cell? ⟨b, o + 4 + 3, none⟩ = some (.slice la2 ll2 lc2) ∧ w.heap.size < wx.heap.size ∧ b < wx.heap.size) := fun wx hwx => by
    have hB := below_next hb hwx
    have h1 := (res_facts ((hwx.block _ (lt_of_block hbx)).trans hbx)).1.2.2.2
    have h2 := lt_of_block ((hwx.block _ (lt_of_block hbx)).trans hbx)
    exact ⟨h1, (hB.cell (p := ⟨b, o + 4, none⟩) hbl).trans p0, (hB.cell (p := ⟨b, o + 4 + 1, none⟩) hbl).trans p1, (hB.cell (p := ⟨b, o + 4 + 2, none⟩) hbl).trans p2, (hB.cell (p := ⟨b, o + 4 + 3, none⟩) hbl).trans p3, h2, Nat.lt_of_lt_of_le hbl hB.size⟩
  have HB := hideP hb
  subst hW
  clear hl hl1 hl2 hb hp ht1 ht2 hy hx hk ih hbx
  go_enter Tryd.func38, Tryd.ntmps38
  go_wp2_with fail
  go_cut [2] from 44 (fun s2 wx => ∃ s1 s3 : ByteArray, s2 = .string (s1 ++ ⟨#[32, 45, 62, 32]⟩ ++ s3) ∧ s1.data.toList = showT n true x ∧ s3.data.toList = showT n false y ∧ Below (w.alloc (tyO 6 nm na nl nc (some ⟨b, o, none⟩) 2 kc)).heap.size (w.alloc (tyO 6 nm na nl nc (some ⟨b, o, none⟩) 2 kc)) wx)
  case first =>
    go_region_with (first
      | (go_at_call 74; refine (HC1.out _ (by first | exact Below.refl _ _ | exact below_drewN (Below.refl _ _) _ | exact (Below.refl _ _).drew)).mono ?_; rintro e w1 ⟨⟨s1, rfl, hs1, hz1⟩, hb1⟩; obtain ⟨t0, t1, t2, t3, t4, t5, t6⟩ := HCELL.out _ hb1; have HS1 := hideP hs1; have HB1 := hideP hb1; clear hs1 hb1)
      | (go_at_call 38; refine (HC2.out _ (by first | exact HB1.out | exact below_drewN HB1.out _ | exact HB1.out.drew)).mono ?_; rintro e w2 ⟨⟨s3, rfl, hs3, hz3⟩, hb3⟩; have HS3 := hideP hs3; have HB3 := hideP hb3; clear hs3 hb3))
    all_goals (go_wp2_with fail; go_meet; exact ⟨s1, s3, rfl, HS1.out, HS3.out, HB3.out⟩)
  case rest =>
    obtain ⟨s1, s3, rfl, h1, h3, hbc⟩ := hcut
    have H1 := hideP h1
    have H3 := hideP h3
    have HBC := hideP (below_next HB.out hbc)
    clear h1 h3 hbc
    go_wp2_with fail
    go_ret
    refine ⟨_, rfl, ?_, HBC.out⟩
    rw [show_fun, if_neg (by decide), ← H1.out, ← H3.out]
    simp [ByteArray.data_append]
end Go.Proofs.YtmpcjcjacpjilaaDoor
