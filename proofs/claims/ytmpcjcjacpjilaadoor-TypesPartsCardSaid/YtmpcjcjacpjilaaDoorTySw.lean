/- types.show by a contract: base types, brackets. -/
import Derived.Test.YtmpcjcjacpjilaaDoorTyNm
namespace Go.Proofs.YtmpcjcjacpjilaaDoor
open Go.RowKit

def plainB (i : Nat) : ByteArray := ⟨(baseV i).toArray⟩

/-- The table of the base types' names lies there. -/
def Plain (w : World) : Prop := ∀ i, i < 5 → w.cell? ⟨3, i, none⟩ = some (.string (plainB i))

theorem Plain.lt {w : World} (h : Plain w) : 3 < w.heap.size := World.block_lt_of_cell? w _ (h 0 (by decide))
theorem Plain.below {w w' : World} (h : Plain w) (hb : Below w.heap.size w w') : Plain w' := fun i hi => (hb.cell (p := ⟨3, i, none⟩) h.lt).trans (h i hi)

def ShowPost (w : World) (n : Nat) (b : Bool) (D : Ty) (e : Ending) (w' : World) : Prop := ∃ s : ByteArray, e = .returned (.string s) ∧ s.data.toList = showT n b D ∧ Below w.heap.size w w'

def ShowAt (n : Nat) : Prop := ∀ (v : Value) (D : Ty) (w : World), TyAt w false n v D → NormT n D → Plain w → (showT n false D).length ≤ 1000000 → Calls Tryd.prog 38 #[v] w (ShowPost w n false D)

theorem show_other {n : Nat} {D : Ty} (h : kindT D ≠ 6) (b : Bool) : showT n b D = showT n false D := by
  cases n with
  | zero => rfl
  | succ n => rw [showT, showT]; simp [h]

theorem ty_form {w : World} {u : Bool} {n : Nat} {v : Value} {D : Ty} (h : TyAt w u n v D) : ∃ (k : Int) (nm : ByteArray) (na : Option Addr) (nl nc : Nat) (ka : Option Addr) (kl kc : Nat), v = .agg #[.int .i64 k, .string nm, .slice na nl nc, .slice ka kl kc] ∧ kindT D = k := by
  cases n with
  | zero => exact h.elim
  | succ n =>
    obtain ⟨k, nm, na, nc, ka, kc, ns, ks, rfl, rfl, _⟩ := h
    exact ⟨_, _, _, _, _, _, _, _, rfl, rfl⟩

set_option maxHeartbeats 4000000 in
theorem inBrackets_c (n : Nat) (ih : ShowAt n) (v : Value) (D : Ty) (w : World) (h : TyAt w false n v D) (hn : NormT n D) (hp : Plain w) (hl : (showT n true D).length ≤ 1000000) :
    Calls Tryd.prog 74 #[v] w (ShowPost w n true D) := by
  obtain ⟨k, nm, na, nl, nc, ka, kl, kc, rfl, hk⟩ := ty_form h
  have hb := bl_alloc w (tyO k nm na nl nc ka kl kc)
  have hpb := hp.below hb
  have htb := ty_below h hb
  by_cases h6 : k = 6
  · subst h6
    have hs : showT n true D = 40 :: (showT n false D ++ [41]) := by
      cases n with
      | zero => exact h.elim
      | succ n =>
        rcases hn with ⟨k, _, _, rfl⟩ | ⟨ns, ks, rfl, _⟩ | ⟨x, y, rfl, _⟩ | ⟨ks, rfl, _⟩
        · rw [kind_mk] at hk; omega
        · rw [kind_mk] at hk; omega
        · rw [show_fun, show_fun]
          simp
        · rw [kind_mk] at hk; omega
    have hl2 : (showT n false D).length ≤ 1000000 := by
      rw [hs] at hl
      simp at hl
      omega
    have HC := hideP (ih _ D _ htb hn hpb hl2)
    have HS := hideP hs
    have HL := hideP hl2
    have HB := hideP hb
    clear hs hl hl2 hb hpb htb hk hn h hp ih
    go_enter Tryd.func74, Tryd.ntmps74
    go_wp2_with fail
    refine HC.out.mono ?_
    rintro e w1 ⟨s, rfl, hs1, hb1⟩
    have HS1 := hideP hs1
    have HB1 := hideP (below_next HB.out hb1)
    have hsz : s.size ≤ 1000000 := by
      have := HL.out
      rw [← hs1] at this
      exact this
    clear hs1 hb1
    go_wp2_with fail
    go_ret
    refine ⟨_, rfl, ?_, HB1.out⟩
    rw [HS.out, ← HS1.out]
    simp [ByteArray.data_append]
  · have HS := hideP (show_other (n := n) (D := D) (by rw [hk]; exact h6) true)
    have HC := hideP (ih _ D _ htb hn hpb (by rw [← HS.out]; exact hl))
    have HB := hideP hb
    have e6 : (k == 6) = false := by rw [beq_eq_false_iff_ne]; exact h6
    clear hl hb hpb htb hk hn h hp ih
    go_enter Tryd.func74, Tryd.ntmps74
    go_wp2_with fail
    refine HC.out.mono ?_
    rintro e w1 ⟨s, rfl, hs1, hb1⟩
    have HB1 := hideP (below_next HB.out hb1)
    have HS1 := hideP hs1
    clear hs1 hb1
    go_wp2_with fail
    go_ret
    exact ⟨_, rfl, HS1.out.trans HS.out.symm, HB1.out⟩

set_option maxHeartbeats 4000000 in
set_option maxRecDepth 100000 in
theorem show_base_c (n : Nat) (k : Int) (h04 : 0 ≤ k ∧ k ≤ 4) (nm : ByteArray) (na : Option Addr) (nl nc : Nat) (ka : Option Addr) (kl kc : Nat) (w : World) (hp : Plain w) : Calls Tryd.prog 38 #[.agg #[.int .i64 k, .string nm, .slice na nl nc, .slice ka kl kc]] w (ShowPost w (n + 1) false (mkT k [] [] [])) := by
  have hb := bl_alloc w (tyO k nm na nl nc ka kl kc)
  have hk : k = ((0 : Nat) : Int) ∨ k = ((1 : Nat) : Int) ∨ k = ((2 : Nat) : Int) ∨ k = ((3 : Nat) : Int) ∨ k = ((4 : Nat) : Int) := by omega
  have HB := hideP hb
  have h0 := hp 0 (by decide)
  have h1 := hp 1 (by decide)
  have h2 := hp 2 (by decide)
  have h3 := hp 3 (by decide)
  have h4 := hp 4 (by decide)
  have hlt := hp.lt
  clear h04 hb hp
  rcases hk with rfl | rfl | rfl | rfl | rfl
  all_goals
    go_enter Tryd.func38, Tryd.ntmps38
    go_wp2_with fail
    go_ret
    exact ⟨_, rfl, rfl, HB.out⟩

end Go.Proofs.YtmpcjcjacpjilaaDoor
