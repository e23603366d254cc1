/- types.Norm by a contract. -/
import Derived.Test.YtmpcjcjacpjilaaDoorTyNo
import Derived.Test.YtmpcjcjacpjilaaDoorTySz
import Derived.Test.YtmpcjcjacpjilaaDoorTyHi
import Derived.Test.YtmpcjcjacpjilaaDoorTySame2
namespace Go.Proofs.YtmpcjcjacpjilaaDoor
open Go.RowKit

def NmPost (w : World) (u : Bool) (n : Nat) (D : Ty) (e : Ending) (w' : World) : Prop :=
  Below w.heap.size w w' ∧ ((e = .returned (.tuple #[zTy, .int .i64 9]) ∧ (u = true → ¬ (sizeT n D ≤ 200 ∧ heightT n D ≤ 16 ∧ (normT n D).isSome = true))) ∨
    ∃ (E : Ty) (k : Int) (nm : ByteArray) (na : Option Addr) (nl nc : Nat) (ka : Option Addr) (kl kc : Nat), normT n D = some E ∧ sizeT n D ≤ 200 ∧ e = .returned (.tuple #[.agg #[.int .i64 k, .string nm, .slice na nl nc, .slice ka kl kc], .int .i64 0]) ∧
      TyF w' w.heap.size n (.agg #[.int .i64 k, .string nm, .slice na nl nc, .slice ka kl kc]) E ∧ kindT E = k)

set_option maxHeartbeats 4000000 in
set_option maxRecDepth 100000 in
theorem nm_c (u : Bool) (n : Nat) (v : Value) (D : Ty) (w : World) (h : TyAt w u n v D) (hw : Words w) :
    Calls Tryd.prog 14 #[v] w (NmPost w u n D) := by
  obtain ⟨k, nm, na, nl, nc, ka, kl, kc, rfl⟩ : ∃ (k : Int) (nm : ByteArray) (na : Option Addr) (nl nc : Nat) (ka : Option Addr) (kl kc : Nat), v = .agg #[.int .i64 k, .string nm, .slice na nl nc, .slice ka kl kc] := by
    cases n with
    | zero => exact h.elim
    | succ n =>
      obtain ⟨k, nm, na, nc, ka, kc, ns, ks, rfl, _⟩ := h
      exact ⟨_, _, _, _, _, _, _, _, rfl⟩
  have HT := hideP h
  have HW := hideP hw
  have HB := hideP (below_next (bl_alloc w (tyO k nm na nl nc ka kl kc)) (bl_alloc _ zO))
  have HC1 := hideP (size_c n _ D _ (ty_forget (ty_below h HB.out)))
  clear h hw
  have hbx : ((w.alloc (tyO k nm na nl nc ka kl kc)).alloc zO).heap[w.heap.size]? = some (tyO k nm na nl nc ka kl kc) := (Below.heap_alloc _ _ _ (by simp)).trans (heap_alloc_last w _)
  have hrs : ((w.alloc (tyO k nm na nl nc ka kl kc)).alloc zO).heap[w.heap.size + 1]? = some zO := heap_at1 w _ _
  have HBX := hideP hbx
  have HRS := hideP hrs
  clear hbx hrs
  by_cases hsz : 200 < sizeT n D
  · have e1 : (200 : Int) < ((min (sizeT n D) 201 : Nat) : Int) := by omega
    have HN : Hid (¬ (sizeT n D ≤ 200 ∧ heightT n D ≤ 16 ∧ (normT n D).isSome = true)) := fun h => by have := h.1; omega
    clear hsz
    go_enter Tryd.func14, Tryd.ntmps14
    go_wp2_with fail
    refine HC1.out.mono ?_
    rintro e w1 ⟨rfl, hb1⟩
    have HB1 := hideP (below_next HB.out hb1)
    have HRS1 := hideP ((hb1.block _ (lt_of_block HRS.out)).trans HRS.out)
    obtain ⟨⟨z0, z1, z2, z3⟩, ⟨f0, f1, f2, f3⟩, hlt1⟩ := res_facts HRS1.out
    clear hb1
    go_wp2_with fail
    exact bodyPost_ret (results_cell_tmp rfl _ rfl (set4 HRS1.out _ _ _ _) Tryd.underlying25 ty_size) rfl ⟨below_set4 HB1.out (by omega) _ _ _ _, .inl ⟨rfl, fun _ => HN.out⟩⟩
  · have e1 : ¬ (200 : Int) < ((min (sizeT n D) 201 : Nat) : Int) := by omega
    have HSZ : Hid (sizeT n D ≤ 200) := by show _ ≤ _; omega
    clear hsz
    go_enter Tryd.func14, Tryd.ntmps14
    go_wp2_with fail
    refine HC1.out.mono ?_
    rintro e w1 ⟨rfl, hb1⟩
    have HB1 := hideP (below_next HB.out hb1)
    have HRS1 := hideP ((hb1.block _ (lt_of_block HRS.out)).trans HRS.out)
    have HBX1 := hideP ((hb1.block _ (lt_of_block HBX.out)).trans HBX.out)
    have HC2 := hideP (height_c u n _ D _ (ty_below HT.out HB1.out) (by have := HSZ.out; omega))
    obtain ⟨⟨x0, x1, x2, x3⟩, _, hltx⟩ := res_facts HBX1.out
    clear hb1
    go_wp2_with fail
    refine HC2.out.mono ?_
    rintro e w2 ⟨⟨r, rfl, hr1, hr17, hru⟩, hb2⟩
    have HB2 := hideP (below_next HB1.out hb2)
    have HRS2 := hideP ((hb2.block _ (lt_of_block HRS1.out)).trans HRS1.out)
    have HBX2 := hideP ((hb2.block _ (lt_of_block HBX1.out)).trans HBX1.out)
    have HRU := hideP hru
    have HC3 := hideP (norm_c n _ D w2 (ty_forget (ty_below HT.out HB2.out)) (HW.out.below HB2.out))
    clear hb2 hru x0 x1 x2 x3 hltx
    obtain ⟨⟨x0, x1, x2, x3⟩, _, hltx⟩ := res_facts HBX2.out
    obtain ⟨⟨z0, z1, z2, z3⟩, ⟨f0, f1, f2, f3⟩, hlt1⟩ := res_facts HRS2.out
    by_cases hr : 16 < r
    · have e2 : (16 : Int) < (r : Int) := by omega
      have HN : Hid (u = true → ¬ (sizeT n D ≤ 200 ∧ heightT n D ≤ 16 ∧ (normT n D).isSome = true)) := fun hu h => by have := HRU.out hu; omega
      clear hr
      go_wp2_with fail
      exact bodyPost_ret (results_cell_tmp rfl _ rfl (set4 HRS2.out _ _ _ _) Tryd.underlying25 ty_size) rfl ⟨below_set4 HB2.out (by omega) _ _ _ _, .inl ⟨rfl, HN.out⟩⟩
    · have e2 : ¬ (16 : Int) < (r : Int) := by omega
      clear hr
      clear z0 z1 z2 z3 f0 f1 f2 f3 hlt1
      go_wp2_with fail
      refine HC3.out.mono ?_
      intro e w3 hpost
      obtain ⟨hb3, hways⟩ := norm_ways hpost
      have HB3 := hideP (below_next HB2.out hb3)
      have HRS3 := hideP ((hb3.block _ (lt_of_block HRS2.out)).trans HRS2.out)
      obtain ⟨⟨z0, z1, z2, z3⟩, ⟨f0, f1, f2, f3⟩, hlt1⟩ := res_facts HRS3.out
      have hszw : w.heap.size + 2 ≤ w2.heap.size := by have := lt_of_block HRS2.out; omega
      clear hb3 hpost
      rcases hways with ⟨hn, rfl⟩ | ⟨E1, g1, g2, g3, g4, g5, g6, g7, g8, hn, rfl, hF1, hk1⟩
      · have HN := hideP hn
        clear hn
        go_wp2_with fail
        exact bodyPost_ret (results_cell_tmp rfl _ rfl ((Below.heap_alloc _ _ _ (by rw [size_set4]; exact lt_of_block HRS3.out)).trans (set4 HRS3.out _ _ _ _)) Tryd.underlying25 ty_size) rfl ⟨((below_set4 HB3.out (by omega) _ _ _ _).alloc (by rw [size_set4]; exact HB3.out.size) _), .inl ⟨rfl, fun _ h => by rw [HN.out] at h; cases h.2.2⟩⟩
      · have HN := hideP hn
        have HF := hideP (tyF_lower (lo' := w.heap.size + 2) hF1 hszw)
        have HK1 := hideP hk1
        clear hn hF1 hk1
        go_wp2_with fail
        exact bodyPost_ret (results_cell_tmp rfl _ rfl ((Below.heap_alloc _ _ _ (by rw [size_set4]; exact lt_of_block HRS3.out)).trans (set4 HRS3.out _ _ _ _)) Tryd.underlying25 ty_size) rfl ⟨((below_set4 HB3.out (by omega) _ _ _ _).alloc (by rw [size_set4]; exact HB3.out.size) _), .inr ⟨E1, g1, g2, g3, g4, g5, g6, g7, g8, HN.out, HSZ.out, rfl, tyF_lower (tyF_below (tyF_keep HF.out (by rw [size_set4]; exact Nat.le_refl _) fun bb h1 _ => other_set4 (by omega) _ _ _ _) (bl_alloc _ _)) (by omega), HK1.out⟩⟩
end Go.Proofs.YtmpcjcjacpjilaaDoor
