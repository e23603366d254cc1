/- Part of the proof of TreeNormal: the texts that follow, in build order. -/
import Derived.Test.YtmpcjcjacpjilabGreatDoorPart4
import Derived.Test.YtmpcjcjacpjilabGreatDoorPart9
import Derived.Deep.RegionHeld
import Derived.Test.YtmpcjcjacpjilabGreatDoorPart6
import Derived.Test.YtmpcjcjacpjilabGreatDoorPart3
import Derived.Test.YtmpcjcjacpjilabGreatDoorPart5

/- tree.exprText by contracts: names, numbers below ten; what a closure over a node needs. -/
namespace Go.Proofs.YtmpcjcjacpjilabGreatDoor
open Go.RowKit

theorem small5 (w : World) : Calls Tryz.prog 103 #[.int .i64 5] w fun e w' => e = .returned (.string ⟨#[53]⟩) ∧ w' = w := by
  go_enter Tryz.func103, Tryz.ntmps103
  go_wp2_with fail
  go_ret
  exact ⟨rfl, rfl⟩
theorem format5 (w : World) : Calls Tryz.prog 96 #[.int .i64 5, .int .i64 10] w fun e w' => e = .returned (.string ⟨#[53]⟩) ∧ w' = w := by
  go_enter Tryz.func96, Tryz.ntmps96
  go_wp2_with fail
  refine (small5 _).mono ?_
  rintro e w' ⟨rfl, rfl⟩
  go_wp2_with fail
  go_ret
  exact ⟨rfl, rfl⟩
theorem iitoa5 (w : World) : Calls Tryz.prog 80 #[.int .i64 5] w fun e w' => e = .returned (.string ⟨#[53]⟩) ∧ w' = w := by
  go_enter Tryz.func80, Tryz.ntmps80
  go_wp2_with fail
  refine (format5 _).mono ?_
  rintro e w' ⟨rfl, rfl⟩
  go_wp2_with fail
  go_ret
  exact ⟨rfl, rfl⟩
theorem itoa5 (w : World) : Calls Tryz.prog 66 #[.int .i64 5] w fun e w' => e = .returned (.string ⟨#[53]⟩) ∧ w' = w := by
  go_enter Tryz.func66, Tryz.ntmps66
  go_wp2_with fail
  refine (iitoa5 _).mono ?_
  rintro e w' ⟨rfl, rfl⟩
  go_wp2_with fail
  go_ret
  exact ⟨rfl, rfl⟩
theorem show5 (w : World) : Calls Tryz.prog 39 #[.int .i64 5] w fun e w' => e = .returned (.string ⟨#[53]⟩) ∧ w' = w := by
  go_enter Tryz.func39, Tryz.ntmps39
  go_wp2_with fail
  refine (itoa5 _).mono ?_
  rintro e w' ⟨rfl, rfl⟩
  go_wp2_with fail
  go_ret
  exact ⟨rfl, rfl⟩

/-- The text of a node, from here on. -/
def ExprIs (w : World) (k : Nat) (tx : ByteArray) (N : Nat) (ka : Option Addr) (kl kc : Nat) (t : List UInt8) : Prop := ∀ wx, Below w.heap.size w wx → Calls Tryz.prog 18 #[ndV k tx N ka kl kc] wx fun e w' => (∃ s : ByteArray, e = .returned (.string s) ∧ s.data.toList = t ∧ s.size ≤ 1000) ∧ Below wx.heap.size wx w'

set_option maxHeartbeats 4000000 in
set_option maxRecDepth 100000 in
theorem expr_name (tx : ByteArray) (hs : tx.size ≤ 1000) (N : Nat) (ka : Option Addr) (kl kc : Nat) (w : World) : ExprIs w 4 tx N ka kl kc tx.data.toList := by
  intro wx _
  go_enter Tryz.func18, Tryz.ntmps18
  go_wp2_with fail
  go_ret
  exact ⟨⟨_, rfl, rfl, hs⟩, bl_alloc _ _⟩

set_option maxHeartbeats 4000000 in
set_option maxRecDepth 100000 in
theorem expr_five (tx : ByteArray) (ka : Option Addr) (kl kc : Nat) (w : World) : ExprIs w 0 tx 5 ka kl kc [53] := by
  intro wx _
  go_enter Tryz.func18, Tryz.ntmps18
  go_wp2_with fail
  refine (show5 _).mono ?_
  rintro e w' ⟨rfl, rfl⟩
  go_wp2_with fail
  go_ret
  exact ⟨⟨_, rfl, rfl, by decide⟩, bl_alloc _ _⟩

/-- A box that holds a node whose i-th Kid is shown so. -/
def KidIs (w : World) (ka : Option Addr) (kl i : Nat) (t : List UInt8) : Prop := i < kl ∧ kl ≤ 1000 ∧ ∃ b o k tx N la ll lc, ka = some ⟨b, o, none⟩ ∧ b < w.heap.size ∧ NCells w b (o + i * 8) k tx N la ll lc ∧ ExprIs w k tx N la ll lc t

theorem KidIs.below {w w' : World} {ka : Option Addr} {kl i : Nat} {t : List UInt8} (h : KidIs w ka kl i t) (hb : Below w.heap.size w w') : KidIs w' ka kl i t := by
  obtain ⟨h1, h2, b, o, k, tx, N, la, ll, lc, e, hlt, q, hx⟩ := h
  exact ⟨h1, h2, b, o, k, tx, N, la, ll, lc, e, Nat.lt_of_lt_of_le hlt hb.size, q.below hlt hb, fun wx hwx => hx wx (below_next hb hwx)⟩

set_option maxHeartbeats 4000000 in
theorem kidN_c (T k : Nat) (tx : ByteArray) (N : Nat) (ka : Option Addr) (kl kc i : Nat) (t : List UInt8) (w : World) (hT : w.heap[T]? = some (ndO k tx N ka kl kc)) (h : KidIs w ka kl i t) :
    Calls Tryz.prog 38 #[.int .i64 i, .pointer (some ⟨T, 0, none⟩)] w fun e w' => (∃ s : ByteArray, e = .returned (.string s) ∧ s.data.toList = t ∧ s.size ≤ 1000) ∧ Below w.heap.size w w' := by
  obtain ⟨h1, h2, b, o, k', tx', N', la, ll, lc, rfl, hlt, ⟨r0, r1, r2, r3, r4, r5, r6, r7⟩, hx⟩ := h
  obtain ⟨⟨x0, x1, x2, x3, x4, x5, x6, x7⟩, hltx⟩ := nd_facts hT
  simp only [Nat.zero_add] at x0 x1 x2 x3 x4 x5 x6 x7
  have hil : (i : Int) < (kl : Int) := by omega
  have HC := hideP (hx w (Below.refl _ _))
  clear hx hT
  go_enter Tryz.func38, Tryz.ntmps38
  go_wp2_with fail
  refine HC.out.mono ?_
  rintro e w' ⟨⟨s, rfl, hs, hz⟩, hb⟩
  have HS := hideP hs
  have HB := hideP hb
  clear hs hb
  go_wp2_with fail
  go_ret
  exact ⟨⟨_, rfl, HS.out, hz⟩, HB.out⟩

set_option maxHeartbeats 4000000 in
set_option maxRecDepth 100000 in
theorem expr_call (tx : ByteArray) (N : Nat) (ka : Option Addr) (kl kc : Nat) (t u : List UInt8) (w : World) (h0 : KidIs w ka kl 0 t) (h1 : KidIs w ka kl 1 u) (hl : t.length + u.length ≤ 990) : ExprIs w 7 tx N ka kl kc (t ++ 40 :: u ++ [41]) := by
  intro wx hwx
  have hb := bl_alloc wx (ndO 7 tx N ka kl kc)
  have hT : (wx.alloc (ndO 7 tx N ka kl kc)).heap[wx.heap.size]? = some (ndO 7 tx N ka kl kc) := heap_alloc_last _ _
  obtain ⟨W, hW⟩ : ∃ W, W = wx.alloc (ndO 7 tx N ka kl kc) := ⟨_, rfl⟩
  rw [← hW] at hb hT
  have HC0 : Hid (∀ wy, Below W.heap.size W wy → Calls Tryz.prog 38 #[.int .i64 ((0 : Nat) : Int), .pointer (some ⟨wx.heap.size, 0, none⟩)] wy fun e w' => (∃ s : ByteArray, e = .returned (.string s) ∧ s.data.toList = t ∧ s.size ≤ 1000) ∧ Below wy.heap.size wy w') := fun wy hwy => kidN_c wx.heap.size 7 tx N ka kl kc 0 t wy ((hwy.block _ (lt_of_block hT)).trans hT) (h0.below (below_next (below_next hwx hb) hwy))
  have HC1 : Hid (∀ wy, Below W.heap.size W wy → Calls Tryz.prog 38 #[.int .i64 ((1 : Nat) : Int), .pointer (some ⟨wx.heap.size, 0, none⟩)] wy fun e w' => (∃ s : ByteArray, e = .returned (.string s) ∧ s.data.toList = u ∧ s.size ≤ 1000) ∧ Below wy.heap.size wy w') := fun wy hwy => kidN_c wx.heap.size 7 tx N ka kl kc 1 u wy ((hwy.block _ (lt_of_block hT)).trans hT) (h1.below (below_next (below_next hwx hb) hwy))
  have HB := hideP hb
  have HL := hideP hl
  subst hW
  clear hb hT h0 h1 hwx hl
  go_enter Tryz.func18, Tryz.ntmps18
  go_wp2_with fail
  refine (HC0.out _ (Below.refl _ _)).mono ?_
  rintro e w1 ⟨⟨s0, rfl, hs0, hz0⟩, hb1⟩
  have HS0 := hideP hs0
  have HC1' := hideP (HC1.out _ hb1)
  have HB1 := hideP (below_next HB.out hb1)
  clear hs0 hb1
  go_wp2_with fail
  refine HC1'.out.mono ?_
  rintro e w2 ⟨⟨s1, rfl, hs1, hz1⟩, hb2⟩
  have HS1 := hideP hs1
  have HB2 := hideP (below_next HB1.out hb2)
  clear hs1 hb2
  go_wp2_with fail
  go_ret
  refine ⟨⟨_, rfl, ?_, ?_⟩, HB2.out⟩
  · rw [← HS0.out, ← HS1.out]
    simp [ByteArray.data_append]
  · have h1 : s0.size = t.length := by rw [← HS0.out]; rfl
    have h2 : s1.size = u.length := by rw [← HS1.out]; rfl
    have := HL.out
    simp [ByteArray.size_append]
    have h3 : (⟨#[40]⟩ : ByteArray).size = 1 := rfl
    have h4 : (⟨#[41]⟩ : ByteArray).size = 1 := rfl
    omega

end Go.Proofs.YtmpcjcjacpjilabGreatDoor

/- tree.exprText of an operation of two. -/
namespace Go.Proofs.YtmpcjcjacpjilabGreatDoor
open Go.RowKit

set_option maxHeartbeats 4000000 in
set_option maxRecDepth 100000 in
theorem expr_op (tx : ByteArray) (N : Nat) (ka : Option Addr) (kl kc : Nat) (t u : List UInt8) (w : World) (h0 : KidIs w ka kl 0 t) (h1 : KidIs w ka kl 1 u) (hl : t.length + u.length + tx.size ≤ 990) : ExprIs w 14 tx N ka kl kc (40 :: t ++ 32 :: tx.data.toList ++ 32 :: u ++ [41]) := by
  intro wx hwx
  have hb := bl_alloc wx (ndO 14 tx N ka kl kc)
  have hT : (wx.alloc (ndO 14 tx N ka kl kc)).heap[wx.heap.size]? = some (ndO 14 tx N ka kl kc) := heap_alloc_last _ _
  obtain ⟨W, hW⟩ : ∃ W, W = wx.alloc (ndO 14 tx N ka kl kc) := ⟨_, rfl⟩
  rw [← hW] at hb hT
  have HC0 : Hid (∀ wy, Below W.heap.size W wy → Calls Tryz.prog 38 #[.int .i64 0, .pointer (some ⟨wx.heap.size, 0, none⟩)] wy fun e w' => (∃ s : ByteArray, e = .returned (.string s) ∧ s.data.toList = t ∧ s.size ≤ 1000) ∧ Below W.heap.size W w') := fun wy hwy => (kidN_c wx.heap.size 14 tx N ka kl kc 0 t wy ((hwy.block _ (lt_of_block hT)).trans hT) (h0.below (below_next (below_next hwx hb) hwy))).mono fun e w' ⟨e1, e2⟩ => ⟨e1, below_next hwy e2⟩
  have HC1 : Hid (∀ wy, Below W.heap.size W wy → Calls Tryz.prog 38 #[.int .i64 1, .pointer (some ⟨wx.heap.size, 0, none⟩)] wy fun e w' => (∃ s : ByteArray, e = .returned (.string s) ∧ s.data.toList = u ∧ s.size ≤ 1000) ∧ Below W.heap.size W w') := fun wy hwy => (kidN_c wx.heap.size 14 tx N ka kl kc 1 u wy ((hwy.block _ (lt_of_block hT)).trans hT) (h1.below (below_next (below_next hwx hb) hwy))).mono fun e w' ⟨e1, e2⟩ => ⟨e1, below_next hwy e2⟩
  have HCELL : Hid (∀ wy, Below W.heap.size W wy → wy.cell? ⟨wx.heap.size, 1, none⟩ = some (.string tx)) := fun wy hwy => by
    have := (nd_facts ((hwy.block _ (lt_of_block hT)).trans hT)).1.2.1
    simpa using this
  have hS0 := HCELL.out W.drew (Below.refl _ _).drew
  have HB := hideP hb
  have HL := hideP hl
  have htx : tx.size ≤ 990 := by omega
  subst hW
  clear hb hT h0 h1 hwx hl
  go_enter Tryz.func18, Tryz.ntmps18
  go_wp2_with fail
  go_region_held (fun W => W.cell? ⟨wx.heap.size, 1, none⟩ = some (.string tx)) (assumption) (first
    | (go_at_call 38; refine (HC0.out _ (by first | exact Below.refl _ _ | exact below_drewN (Below.refl _ _) _ | exact (Below.refl _ _).drew)).mono ?_; rintro e w1 ⟨⟨s0, rfl, hs0, hz0⟩, hb1⟩; have t0 := HCELL.out _ hb1; have HS0 := hideP hs0; have HB1 := hideP hb1; have v1 : ¬ 9223372036854775807 < 1 + s0.size := (by omega); have v2 : ¬ 9223372036854775807 < 1 + s0.size + 1 := (by omega); have v3 : ¬ 9223372036854775807 < 1 + s0.size + 1 + tx.size := (by omega); have v4 : ¬ 9223372036854775807 < 1 + s0.size + 1 + tx.size + 1 := (by omega); clear hs0 hb1)
    | (go_at_call 38; refine (HC1.out _ (by first | exact HB1.out | exact below_drewN HB1.out _ | exact HB1.out.drew)).mono ?_; rintro e w2 ⟨⟨s1, rfl, hs1, hz1⟩, hb2⟩; have t1 := HCELL.out _ hb2; have HS1 := hideP hs1; have HB2 := hideP hb2; have v5 : ¬ 9223372036854775807 < 1 + s0.size + 1 + tx.size + 1 + s1.size := (by omega); have v6 : ¬ 9223372036854775807 < 1 + s0.size + 1 + tx.size + 1 + s1.size + 1 := (by omega); clear hs1 hb2))
  all_goals go_wp2_with fail
  all_goals go_ret
  all_goals refine ⟨⟨_, rfl, ?_, ?_⟩, below_next HB.out HB2.out⟩
  · rw [← HS0.out, ← HS1.out]
    simp [ByteArray.data_append]
  · have h1 : s0.size = t.length := by rw [← HS0.out]; rfl
    have h2 : s1.size = u.length := by rw [← HS1.out]; rfl
    have := HL.out
    simp [ByteArray.size_append]
    have h3 : (⟨#[40]⟩ : ByteArray).size = 1 := rfl
    have h4 : (⟨#[41]⟩ : ByteArray).size = 1 := rfl
    have h5 : (⟨#[32]⟩ : ByteArray).size = 1 := rfl
    omega

end Go.Proofs.YtmpcjcjacpjilabGreatDoor

/- tree.exprText of a question for a tag. -/
namespace Go.Proofs.YtmpcjcjacpjilabGreatDoor
open Go.RowKit

/-- The names of the tags. -/
def TagsN (w : World) : Prop := w.cell? ⟨3, 2, none⟩ = some (.string ⟨#[105, 110, 116]⟩)
theorem TagsN.lt {w : World} (h : TagsN w) : 3 < w.heap.size := World.block_lt_of_cell? w _ h
theorem TagsN.below {w w' : World} (h : TagsN w) (hb : Below w.heap.size w w') : TagsN w' := (hb.cell (show 3 < w.heap.size from h.lt)).trans h

set_option maxHeartbeats 4000000 in
set_option maxRecDepth 100000 in
theorem expr_is (tx : ByteArray) (ka : Option Addr) (kl kc : Nat) (t : List UInt8) (w : World) (hg : TagsN w) (h0 : KidIs w ka kl 0 t) (hl : t.length ≤ 900) : ExprIs w 12 tx 2 ka kl kc (40 :: t ++ [32, 105, 115, 32, 105, 110, 116, 41]) := by
  intro wx hwx
  have hb := bl_alloc wx (ndO 12 tx 2 ka kl kc)
  have hT : (wx.alloc (ndO 12 tx 2 ka kl kc)).heap[wx.heap.size]? = some (ndO 12 tx 2 ka kl kc) := heap_alloc_last _ _
  obtain ⟨W, hW⟩ : ∃ W, W = wx.alloc (ndO 12 tx 2 ka kl kc) := ⟨_, rfl⟩
  rw [← hW] at hb hT
  have hgW := hg.below (below_next hwx hb)
  have HC0 : Hid (∀ wy, Below W.heap.size W wy → Calls Tryz.prog 38 #[.int .i64 0, .pointer (some ⟨wx.heap.size, 0, none⟩)] wy fun e w' => (∃ s : ByteArray, e = .returned (.string s) ∧ s.data.toList = t ∧ s.size ≤ 1000) ∧ Below W.heap.size W w') := fun wy hwy => (kidN_c wx.heap.size 12 tx 2 ka kl kc 0 t wy ((hwy.block _ (lt_of_block hT)).trans hT) (h0.below (below_next (below_next hwx hb) hwy))).mono fun e w' ⟨e1, e2⟩ => ⟨e1, below_next hwy e2⟩
  have HCELL : Hid (∀ wy, Below W.heap.size W wy → wy.cell? ⟨wx.heap.size, 2, none⟩ = some (.int .i64 2) ∧ wy.cell? ⟨3, 2, none⟩ = some (.string ⟨#[105, 110, 116]⟩)) := fun wy hwy => by
    have := (nd_facts ((hwy.block _ (lt_of_block hT)).trans hT)).1.2.2.1
    exact ⟨by simpa using this, hgW.below hwy⟩
  have hS0 := HCELL.out W.drew (Below.refl _ _).drew
  have hg0 : W.cell? ⟨3, 2, none⟩ = some (.string ⟨#[105, 110, 116]⟩) := hgW
  have HB := hideP hb
  have HL := hideP hl
  subst hW
  clear hb hT h0 hwx hl hg hgW
  go_enter Tryz.func18, Tryz.ntmps18
  go_wp2_with fail
  go_region_held (fun W => W.cell? ⟨wx.heap.size, 2, none⟩ = some (.int .i64 2) ∧ W.cell? ⟨3, 2, none⟩ = some (.string ⟨#[105, 110, 116]⟩)) (assumption) (first
    | (go_at_call 38; refine (HC0.out _ (by first | exact Below.refl _ _ | exact below_drewN (Below.refl _ _) _ | exact (Below.refl _ _).drew)).mono ?_; rintro e w1 ⟨⟨s0, rfl, hs0, hz0⟩, hb1⟩; have t0 := HCELL.out _ hb1; have HS0 := hideP hs0; have HB1 := hideP hb1; have v1 : ¬ 9223372036854775807 < 1 + s0.size := (by omega); have v2 : ¬ 9223372036854775807 < 1 + s0.size + 4 := (by omega); have v3 : ¬ 9223372036854775807 < 1 + s0.size + 4 + 3 := (by omega); have v4 : ¬ 9223372036854775807 < 1 + s0.size + 4 + 3 + 1 := (by omega); clear hs0 hb1))
  all_goals go_wp2_with fail
  all_goals go_ret
  all_goals refine ⟨⟨_, rfl, ?_, ?_⟩, below_next HB.out HB1.out⟩
  · rw [← HS0.out]
    simp [ByteArray.data_append]
  · have h1 : s0.size = t.length := by rw [← HS0.out]; rfl
    have := HL.out
    simp [ByteArray.size_append]
    have h3 : (⟨#[40]⟩ : ByteArray).size = 1 := rfl
    have h4 : (⟨#[41]⟩ : ByteArray).size = 1 := rfl
    have h5 : (⟨#[32, 105, 115, 32]⟩ : ByteArray).size = 4 := rfl
    have h6 : (⟨#[105, 110, 116]⟩ : ByteArray).size = 3 := rfl
    omega
end Go.Proofs.YtmpcjcjacpjilabGreatDoor

/- The chapter's examples of expressions: that they fit, and their texts. -/
namespace Go.Proofs.YtmpcjcjacpjilabGreatDoor
open Go.RowKit

def tA : Ty := mkN 4 [97] 0 []
def tF : Ty := mkN 0 [] 5 []
def tB : Ty := mkN 14 [45] 0 [tA, tF]
def tI : Ty := mkN 12 [] 2 [tA]
def tC : Ty := mkN 7 [] 0 [tA, tI]
def tZ : Ty := mkN 4 [] 0 []
def SetN (D : Ty) : Prop := D = tA ∨ D = tF ∨ D = tB ∨ D = tI ∨ D = tC

theorem setN_kids (D : Ty) (h : SetN D) : ∀ x ∈ kidsT D, SetN x := by
  intro x hx
  rcases h with rfl | rfl | rfl | rfl | rfl
  · rw [tA, mkN, kids_mk] at hx; cases hx
  · rw [tF, mkN, kids_mk] at hx; cases hx
  · rw [tB, mkN, kids_mk] at hx
    simp at hx
    rcases hx with rfl | rfl
    · exact .inl rfl
    · exact .inr (.inl rfl)
  · rw [tI, mkN, kids_mk] at hx
    simp at hx
    subst hx
    exact .inl rfl
  · rw [tC, mkN, kids_mk] at hx
    simp at hx
    rcases hx with rfl | rfl
    · exact .inl rfl
    · exact .inr (.inr (.inr (.inl rfl)))

theorem mkN_inj {k k' : Nat} {a b : List UInt8} {N N' : Nat} {ks ks' : List Ty} (h : mkN k a N ks = mkN k' b N' ks') : k = k' ∧ a = b ∧ N = N' ∧ ks = ks' := by
  obtain ⟨h1, h2, h3, h4⟩ := mkT_inj h
  have := congrArg List.length h3
  simp at this
  exact ⟨by omega, h2, this, h4⟩

theorem nd_parts {w : World} {n k : Nat} {tx : ByteArray} {N : Nat} {ka : Option Addr} {kl kc : Nat} {k' : Nat} {a : List UInt8} {N' : Nat} {ks : List Ty} (h : NdAt w n k tx N ka kl kc (mkN k' a N' ks)) : k = k' ∧ tx = ⟨a.toArray⟩ ∧ N = N' ∧ kl = ks.length := by
  cases n with
  | zero => exact h.elim
  | succ n =>
    obtain ⟨ks', e1, e2, _⟩ := h
    obtain ⟨h1, h2, h3, h4⟩ := mkN_inj e2
    exact ⟨h1.symm, str_of h2.symm, h3.symm, by rw [e1, h4]⟩

theorem fit_all (w : World) (hf : FormsN w) (hw : Words w) (ho : OpsN w) : NFit w SetN fun _ => true := by
  intro n k tx N ka kl kc D wx hwx hS hD
  rcases hS with rfl | rfl | rfl | rfl | rfl
  · obtain ⟨rfl, rfl, rfl, rfl⟩ := nd_parts hD
    exact fitsN_one 4 _ 0 ka 0 kc true wx (by decide) (hf.below hwx) (by decide) rfl (by decide) (by decide) rfl (by decide) (by decide) fun wy hwy => text_name ⟨#[97]⟩ (by decide) wy ((hw.below hwx).below hwy)
  · obtain ⟨rfl, rfl, rfl, rfl⟩ := nd_parts hD
    exact fitsN_one 0 _ 5 ka 0 kc true wx (by decide) (hf.below hwx) (by decide) rfl (by decide) (by decide) rfl (by decide) (by decide) fun wy hwy => text_none wy
  · obtain ⟨rfl, rfl, rfl, rfl⟩ := nd_parts hD
    exact fitsN_one 14 _ 0 ka 2 kc true wx (by decide) (hf.below hwx) (by decide) rfl (by decide) (by decide) rfl (by decide) (by decide) fun wy hwy => text_op ⟨#[45]⟩ wy ((ho.below hwx).below hwy)
  · obtain ⟨rfl, rfl, rfl, rfl⟩ := nd_parts hD
    exact fitsN_one 12 _ 2 ka 1 kc true wx (by decide) (hf.below hwx) (by decide) rfl (by decide) (by decide) rfl (by decide) (by decide) fun wy hwy => text_none wy
  · obtain ⟨rfl, rfl, rfl, rfl⟩ := nd_parts hD
    exact fitsN_one 7 _ 0 ka 2 kc true wx (by decide) (hf.below hwx) (by decide) rfl (by decide) (by decide) rfl (by decide) (by decide) fun wy hwy => text_none wy

theorem fit_no (w : World) (hf : FormsN w) (hw : Words w) : NFit w (fun D => D = tZ) fun _ => false := by
  intro n k tx N ka kl kc D wx hwx hS hD
  subst hS
  obtain ⟨rfl, rfl, rfl, rfl⟩ := nd_parts hD
  exact fitsN_one 4 _ 0 ka 0 kc false wx (by decide) (hf.below hwx) (by decide) rfl (by decide) (by decide) rfl (by decide) (by decide) fun wy hwy => text_name ⟨#[]⟩ (by decide) wy ((hw.below hwx).below hwy)

/-- What tree.Expr leaves. -/
def TxPost (w : World) (t : List UInt8) (e : Ending) (w' : World) : Prop := (∃ s : ByteArray, e = .returned (.string s) ∧ s.data.toList = t) ∧ Below w.heap.size w w'

set_option maxHeartbeats 4000000 in
theorem trExpr_c (k : Nat) (tx : ByteArray) (N : Nat) (ka : Option Addr) (kl kc : Nat) (t : List UInt8) (w : World) (h : ∀ wx, Below w.heap.size w wx → Calls Tryz.prog 17 #[ndV k tx N ka kl kc] wx fun e w' => e = .returned (.bool true) ∧ Below wx.heap.size wx w') (hx : ExprIs w k tx N ka kl kc t) :
    Calls Tryz.prog 9 #[ndV k tx N ka kl kc] w (TxPost w t) := by
  have hb := bl_alloc w (ndO k tx N ka kl kc)
  have HBX : Hid ((w.alloc (ndO k tx N ka kl kc)).heap[w.heap.size]? = some (ndO k tx N ka kl kc)) := heap_alloc_last w _
  have HC := hideP (h _ hb)
  have HX := hideP hx
  have HB := hideP hb
  clear hb h hx
  go_enter Tryz.func9, Tryz.ntmps9
  go_wp2_with fail
  refine HC.out.mono ?_
  rintro e w1 ⟨rfl, hb1⟩
  have hb2 := below_next HB.out hb1
  obtain ⟨⟨x0, x1, x2, x3, x4, x5, x6, x7⟩, hltx⟩ := nd_facts ((hb1.block _ (lt_of_block HBX.out)).trans HBX.out)
  simp only [Nat.zero_add] at x0 x1 x2 x3 x4 x5 x6 x7
  have HC2 := hideP (HX.out _ hb2)
  have HB2 := hideP hb2
  clear hb1 hb2
  go_wp2_with fail
  refine HC2.out.mono ?_
  rintro e w2 ⟨⟨s, rfl, hs, _⟩, hb3⟩
  have HS := hideP hs
  have HB3 := hideP (below_next HB2.out hb3)
  clear hs hb3
  go_wp2_with fail
  go_ret
  exact ⟨⟨_, rfl, HS.out⟩, HB3.out⟩

set_option maxHeartbeats 4000000 in
theorem trExpr_no (k : Nat) (tx : ByteArray) (N : Nat) (ka : Option Addr) (kl kc : Nat) (w : World) (h : ∀ wx, Below w.heap.size w wx → Calls Tryz.prog 17 #[ndV k tx N ka kl kc] wx fun e w' => e = .returned (.bool false) ∧ Below wx.heap.size wx w') :
    Calls Tryz.prog 9 #[ndV k tx N ka kl kc] w (TxPost w []) := by
  have hb := bl_alloc w (ndO k tx N ka kl kc)
  have HC := hideP (h _ hb)
  have HB := hideP hb
  clear hb h
  go_enter Tryz.func9, Tryz.ntmps9
  go_wp2_with fail
  refine HC.out.mono ?_
  rintro e w1 ⟨rfl, hb1⟩
  have HB2 := hideP (below_next HB.out hb1)
  clear hb1
  go_wp2_with fail
  go_ret
  exact ⟨⟨⟨#[]⟩, rfl, rfl⟩, HB2.out⟩

/-- All that the examples ask of memory. -/
structure Base (w : World) : Prop where
  ff : FormsN w
  ww : Words w
  oo : OpsN w
  gg : TagsN w

theorem Base.below {w w' : World} (h : Base w) (hb : Below w.heap.size w w') : Base w' := ⟨h.ff.below hb, h.ww.below hb, h.oo.below hb, h.gg.below hb⟩

theorem isN {w : World} (hB : Base w) {n k : Nat} {tx : ByteArray} {N : Nat} {ka : Option Addr} {kl kc : Nat} {D : Ty} (hD : SetN D) (h : NdAt w (n + 1) k tx N ka kl kc D) (hs : sizeT (n + 1) D ≤ 1000) (hh : heightT (n + 1) D ≤ 25) : ∀ wx, Below w.heap.size w wx → Calls Tryz.prog 17 #[ndV k tx N ka kl kc] wx fun e w' => e = .returned (.bool true) ∧ Below wx.heap.size wx w' := fun wx hwx =>
  isExpr_c k tx N ka kl kc true wx fun wy hwy => everyN_c n k tx N ka kl kc D SetN (fun _ => true) wy (nd_below (nd_below h hwx) hwy) hs hh hD setN_kids (fun _ _ => rfl) (fit_all wy ((hB.below hwx).below hwy).ff ((hB.below hwx).below hwy).ww ((hB.below hwx).below hwy).oo)

theorem a_text {w : World} {n k : Nat} {tx : ByteArray} {N : Nat} {ka : Option Addr} {kl kc : Nat} (h : NdAt w n k tx N ka kl kc tA) : ExprIs w k tx N ka kl kc [97] := by
  obtain ⟨rfl, rfl, rfl, rfl⟩ := nd_parts h
  exact expr_name ⟨#[97]⟩ (by decide) 0 ka 0 kc w

theorem kid_is {w : World} {n : Nat} {ka : Option Addr} {ks : List Ty} {i : Nat} {t : List UInt8} (h : NKids w n ka ks) (hi : i < ks.length) (hl : ks.length ≤ 1000) (ht : ∀ k tx N la ll lc, NdAt w n k tx N la ll lc ks[i] → ExprIs w k tx N la ll lc t) : KidIs w ka ks.length i t := by
  obtain ⟨b, o, k, tx, N, la, ll, lc, e, hlt, q, hd⟩ := nkid_at h hi
  exact ⟨hi, hl, b, o, k, tx, N, la, ll, lc, e, hlt, q, ht k tx N la ll lc hd⟩

theorem i_text {w : World} (hg : TagsN w) {n k : Nat} {tx : ByteArray} {N : Nat} {ka : Option Addr} {kl kc : Nat} (h : NdAt w n k tx N ka kl kc tI) : ExprIs w k tx N ka kl kc [40, 97, 32, 105, 115, 32, 105, 110, 116, 41] := by
  have h' := h
  obtain ⟨rfl, rfl, rfl, rfl⟩ := nd_parts h
  cases n with
  | zero => exact h'.elim
  | succ n =>
    obtain ⟨ks', e1, e2, _, _, _, _, _, hr⟩ := h'
    obtain ⟨_, _, _, h4⟩ := mkN_inj e2
    subst h4
    exact expr_is _ ka 1 kc [97] w hg (kid_is (i := 0) hr (by decide) (by decide) fun _ _ _ _ _ _ h => a_text h) (by decide)

theorem b_expr (w : World) (hB : Base w) (ka : Option Addr) (kc : Nat) (h : NdAt w 2 14 ⟨#[45]⟩ 0 ka 2 kc tB) : Calls Tryz.prog 9 #[ndV 14 ⟨#[45]⟩ 0 ka 2 kc] w (TxPost w [40, 97, 32, 45, 32, 53, 41]) := by
  have h' := h
  obtain ⟨ks', e1, e2, _, _, _, _, _, hr⟩ := h'
  obtain ⟨_, _, _, h4⟩ := mkN_inj e2
  subst h4
  refine trExpr_c 14 _ 0 ka 2 kc _ w (isN hB (.inr (.inr (.inl rfl))) h (by decide) (by decide)) ?_
  exact expr_op ⟨#[45]⟩ 0 ka 2 kc [97] [53] w (kid_is (i := 0) hr (by decide) (by decide) fun _ _ _ _ _ _ h => a_text h) (kid_is (i := 1) hr (by decide) (by decide) fun k tx N la ll lc h => by
    obtain ⟨rfl, rfl, rfl, rfl⟩ := nd_parts (show NdAt w 1 k tx N la ll lc tF from h)
    exact expr_five _ la _ lc w) (by decide)

theorem c_expr (w : World) (hB : Base w) (ka : Option Addr) (kc : Nat) (h : NdAt w 3 7 ⟨#[]⟩ 0 ka 2 kc tC) : Calls Tryz.prog 9 #[ndV 7 ⟨#[]⟩ 0 ka 2 kc] w (TxPost w [97, 40, 40, 97, 32, 105, 115, 32, 105, 110, 116, 41, 41]) := by
  have h' := h
  obtain ⟨ks', e1, e2, _, _, _, _, _, hr⟩ := h'
  obtain ⟨_, _, _, h4⟩ := mkN_inj e2
  subst h4
  refine trExpr_c 7 _ 0 ka 2 kc _ w (isN hB (.inr (.inr (.inr (.inr rfl)))) h (by decide) (by decide)) ?_
  exact expr_call ⟨#[]⟩ 0 ka 2 kc [97] [40, 97, 32, 105, 115, 32, 105, 110, 116, 41] w (kid_is (i := 0) hr (by decide) (by decide) fun _ _ _ _ _ _ h => a_text h) (kid_is (i := 1) hr (by decide) (by decide) fun k tx N la ll lc h => i_text hB.gg h) (by decide)

theorem z_expr (w : World) (hB : Base w) : Calls Tryz.prog 9 #[ndV 4 ⟨#[]⟩ 0 none 0 0] w (TxPost w []) := by
  refine trExpr_no 4 _ 0 none 0 0 w fun wx hwx => isExpr_c 4 _ 0 none 0 0 false wx fun wy hwy => ?_
  have hB2 := (hB.below hwx).below hwy
  exact everyN_no 0 4 _ 0 none 0 0 tZ (fun D => D = tZ) (fun _ => false) wy ⟨[], rfl, rfl, by decide, by decide, by decide, by decide, by decide, .inl rfl⟩ (by decide) rfl rfl (fit_no wy hB2.ff hB2.ww)
end Go.Proofs.YtmpcjcjacpjilabGreatDoor

/- tree.listText by a contract: the items' texts, with something between. -/
namespace Go.Proofs.YtmpcjcjacpjilabGreatDoor
open Go.RowKit

structure SI (w wx : World) (L : List (List UInt8)) (i : Nat) : Prop where
  bl : Below w.heap.size w wx
  rw : ∃ cs : Array Value, wx.heap[w.heap.size]? = some (.cells cs 9) ∧ cs.size = L.length ∧ ∀ k (h : k < L.length), k < i → cs[k]? = some (.string ⟨L[k].toArray⟩)

section
variable {w wx wx' : World} {L : List (List UInt8)} {i : Nat}
theorem SI.grow (h : SI w wx L i) (hb : Below wx.heap.size wx wx') : SI w wx' L i := by
  obtain ⟨cs, h1, h2, h3⟩ := h.rw
  exact ⟨below_next h.bl hb, cs, (hb.block _ (lt_of_block h1)).trans h1, h2, h3⟩

theorem SI.put (h : SI w wx L i) (hi : i < L.length) {s : ByteArray} (hs : s.data.toList = L[i]) : SI w (wx.setCell ⟨w.heap.size, i, none⟩ (.string s)) L (i + 1) := by
  obtain ⟨cs, h1, h2, h3⟩ := h.rw
  refine ⟨h.bl.setCell (p := ⟨w.heap.size, i, none⟩) (Nat.le_refl _) _, _, cells_setCell h1, by simpa using h2, fun k hk hki => ?_⟩
  by_cases e : k = i
  · subst e
    rw [str_of hs]
    simp [h2, hi]
  · rw [Array.getElem?_setIfInBounds_ne (Ne.symm e)]
    exact h3 k hk (by omega)

theorem SI.facts (h : SI w wx L i) {j : Nat} (hj : j < L.length) : (∃ v, wx.cell? ⟨w.heap.size, j, none⟩ = some v) ∧ wx.frozen? ⟨w.heap.size, j, none⟩ = false ∧ w.heap.size < wx.heap.size := by
  obtain ⟨cs, h1, h2, _⟩ := h.rw
  refine ⟨?_, by simp [World.frozen?, h1], lt_of_block h1⟩
  rw [cell_of_row wx w.heap.size _ _ _ _ h1]
  exact ⟨_, Array.getElem?_eq_getElem (by omega)⟩

theorem SI.done (h : SI w wx L L.length) : ∀ (j : Nat) x, (L.map fun l => (⟨l.toArray⟩ : ByteArray))[j]? = some x → wx.cell? ⟨w.heap.size, 0 + j, none⟩ = some (.string x) := by
  intro j x hj
  obtain ⟨cs, h1, h2, h3⟩ := h.rw
  rw [List.getElem?_map] at hj
  obtain ⟨l, e1, rfl⟩ := Option.map_eq_some_iff.1 hj
  obtain ⟨hjl, rfl⟩ := List.getElem?_eq_some_iff.1 e1
  rw [Nat.zero_add, cell_of_row wx w.heap.size _ _ _ _ h1]
  exact h3 j hjl hjl
end

/-- What an item is. -/
def ItemAt (w : World) (p : Value) (L : List (List UInt8)) : Prop := ∀ (i : Nat) (h : i < L.length) (wx : World), Below w.heap.size w wx → Calls Tryz.prog 31 #[.int .i64 i, p] wx fun e w' => (∃ s : ByteArray, e = .returned (.string s) ∧ s.data.toList = L[i]) ∧ Below wx.heap.size wx w'

set_option maxHeartbeats 4000000 in
set_option maxRecDepth 100000 in
theorem listText_c (p : Value) (sep : ByteArray) (L : List (List UInt8)) (w : World) (hit : ItemAt w p L) (hl : (joinV sep.data.toList L).length ≤ 1000000) (hn : L.length ≤ 16) :
    Calls Tryz.prog 30 #[.int .i64 L.length, .string sep, .func (.func 31) #[] #[p]] w fun e w' => (∃ s : ByteArray, e = .returned (.string s) ∧ s.data.toList = joinV sep.data.toList L ∧ s.size ≤ 1000000) ∧ Below w.heap.size w w' := by
  have HIT := hideP hit
  have HL := hideP hl
  have e16 : (L.length : Int) ≤ 16 := by omega
  have hmk := run_make_row' (P := Tryz.prog) 22 9 (.string ⟨#[]⟩) 16 Tryz.underlying22 info_str rfl .i64 .i64 L.length (by omega) (by omega)
  clear hit hl
  go_enter Tryz.func30, Tryz.ntmps30
  go_wp2_with fail
  go_loopw [13] (fun i wr => ∃ j : Nat, i = .int .i64 j ∧ j ≤ L.length ∧ Hid (SI w wr L j)) (fun i _ => L.length - (intOf i).toNat)
  case atStart =>
    refine ⟨0, rfl, Nat.zero_le _, bl_alloc w _, _, heap_alloc_last w _, ?_, fun k _ h => absurd h (Nat.not_lt_zero _)⟩
    exact size_madeCells _ _
  case round =>
    obtain ⟨j, rfl, hj, hS⟩ := hrel
    by_cases hlt : j < L.length
    · have hjl : (j : Int) < (L.length : Int) := by omega
      obtain ⟨⟨vv, cv⟩, fv, hlv⟩ := hS.out.facts hlt
      have HC := hideP (HIT.out j hlt wr hS.out.bl)
      go_wp2_with fail
      refine HC.out.mono ?_
      rintro e w1 ⟨⟨s1, rfl, hs1⟩, hb1⟩
      have HS1 := hideP hs1
      have hS1 := hS.out.grow hb1
      obtain ⟨⟨vt, ct⟩, ft, hlt1⟩ := hS1.facts hlt
      have HSW := hideP hS1
      clear hs1 hb1 hS1 cv fv hlv
      go_wp2_with fail
      exact ⟨⟨j + 1, by go_num, by omega, HSW.out.put hlt HS1.out⟩, by simp [intOf]; omega⟩
    · have hjl : ¬ (j : Int) < (L.length : Int) := by omega
      have hje : j = L.length := by omega
      subst hje
      have HJC := hideP (join_c sep L w.heap.size wr hS.out.done (by obtain ⟨cs, h1, _⟩ := hS.out.rw; exact lt_of_block h1) HL.out (by omega))
      have HBl := hideP hS.out.bl
      go_wp2_with fail
      refine HJC.out.mono ?_
      rintro e w1 ⟨⟨s1, rfl, hs1, hz1⟩, hb1⟩
      have HS1 := hideP hs1
      have HB1 := hideP (below_next HBl.out hb1)
      clear hs1 hb1
      go_wp2_with fail
      go_ret
      exact ⟨⟨s1, rfl, HS1.out, hz1⟩, HB1.out⟩

/-- .. of a function that holds two. -/
def ItemAt2 (w : World) (p q : Value) (L : List (List UInt8)) : Prop := ∀ (i : Nat) (h : i < L.length) (wx : World), Below w.heap.size w wx → Calls Tryz.prog 57 #[.int .i64 i, p, q] wx fun e w' => (∃ s : ByteArray, e = .returned (.string s) ∧ s.data.toList = L[i]) ∧ Below wx.heap.size wx w'

set_option maxHeartbeats 4000000 in
set_option maxRecDepth 100000 in
theorem listText2_c (p q : Value) (sep : ByteArray) (L : List (List UInt8)) (w : World) (hit : ItemAt2 w p q L) (hl : (joinV sep.data.toList L).length ≤ 1000000) (hn : L.length ≤ 16) :
    Calls Tryz.prog 30 #[.int .i64 L.length, .string sep, .func (.func 57) #[] #[p, q]] w fun e w' => (∃ s : ByteArray, e = .returned (.string s) ∧ s.data.toList = joinV sep.data.toList L ∧ s.size ≤ 1000000) ∧ Below w.heap.size w w' := by
  have HIT := hideP hit
  have HL := hideP hl
  have e16 : (L.length : Int) ≤ 16 := by omega
  have hmk := run_make_row' (P := Tryz.prog) 22 9 (.string ⟨#[]⟩) 16 Tryz.underlying22 info_str rfl .i64 .i64 L.length (by omega) (by omega)
  clear hit hl
  go_enter Tryz.func30, Tryz.ntmps30
  go_wp2_with fail
  go_loopw [13] (fun i wr => ∃ j : Nat, i = .int .i64 j ∧ j ≤ L.length ∧ Hid (SI w wr L j)) (fun i _ => L.length - (intOf i).toNat)
  case atStart =>
    refine ⟨0, rfl, Nat.zero_le _, bl_alloc w _, _, heap_alloc_last w _, ?_, fun k _ h => absurd h (Nat.not_lt_zero _)⟩
    exact size_madeCells _ _
  case round =>
    obtain ⟨j, rfl, hj, hS⟩ := hrel
    by_cases hlt : j < L.length
    · have hjl : (j : Int) < (L.length : Int) := by omega
      obtain ⟨⟨vv, cv⟩, fv, hlv⟩ := hS.out.facts hlt
      have HC := hideP (HIT.out j hlt wr hS.out.bl)
      go_wp2_with fail
      refine HC.out.mono ?_
      rintro e w1 ⟨⟨s1, rfl, hs1⟩, hb1⟩
      have HS1 := hideP hs1
      have hS1 := hS.out.grow hb1
      obtain ⟨⟨vt, ct⟩, ft, hlt1⟩ := hS1.facts hlt
      have HSW := hideP hS1
      clear hs1 hb1 hS1 cv fv hlv
      go_wp2_with fail
      exact ⟨⟨j + 1, by go_num, by omega, HSW.out.put hlt HS1.out⟩, by simp [intOf]; omega⟩
    · have hjl : ¬ (j : Int) < (L.length : Int) := by omega
      have hje : j = L.length := by omega
      subst hje
      have HJC := hideP (join_c sep L w.heap.size wr hS.out.done (by obtain ⟨cs, h1, _⟩ := hS.out.rw; exact lt_of_block h1) HL.out (by omega))
      have HBl := hideP hS.out.bl
      go_wp2_with fail
      refine HJC.out.mono ?_
      rintro e w1 ⟨⟨s1, rfl, hs1, hz1⟩, hb1⟩
      have HS1 := hideP hs1
      have HB1 := hideP (below_next HBl.out hb1)
      clear hs1 hb1
      go_wp2_with fail
      go_ret
      exact ⟨⟨s1, rfl, HS1.out, hz1⟩, HB1.out⟩
end Go.Proofs.YtmpcjcjacpjilabGreatDoor

/- tree.typeText by a contract, of normal types: the small functions. -/
namespace Go.Proofs.YtmpcjcjacpjilabGreatDoor
open Go.RowKit

/-- The table of the base types' names, tree's own. -/
def PlainT (w : World) : Prop := ∀ i, i < 5 → w.cell? ⟨0, i, none⟩ = some (.string (plainB i))
theorem PlainT.lt {w : World} (h : PlainT w) : 0 < w.heap.size := World.block_lt_of_cell? w _ (h 0 (by decide))
theorem PlainT.below {w w' : World} (h : PlainT w) (hb : Below w.heap.size w w') : PlainT w' := fun i hi => (hb.cell (p := ⟨0, i, none⟩) h.lt).trans (h i hi)

def TextAt (n : Nat) : Prop := ∀ (v : Value) (D : Ty) (w : World), TyAt w false n v D → NormT n D → PlainT w → (showT n false D).length ≤ 1000000 → Calls Tryz.prog 14 #[v] w (ShowPost w n false D)

theorem fun_shown {n : Nat} {D : Ty} (hn : NormT n D) (hk : kindT D = 6) : showT n true D = 40 :: (showT n false D ++ [41]) := by
  cases n with
  | zero => exact hn.elim
  | succ n =>
    rcases hn with ⟨k, _, _, rfl⟩ | ⟨ns, ks, rfl, _⟩ | ⟨x, y, rfl, _⟩ | ⟨ks, rfl, _⟩
    · rw [kind_mk] at hk; omega
    · rw [kind_mk] at hk; omega
    · rw [show_fun, show_fun]
      simp
    · rw [kind_mk] at hk; omega

set_option maxHeartbeats 4000000 in
theorem inBr_c (n : Nat) (ih : TextAt n) (v : Value) (D : Ty) (w : World) (h : TyAt w false n v D) (hn : NormT n D) (hp : PlainT w) (hl : (showT n true D).length ≤ 1000000) :
    Calls Tryz.prog 29 #[v, .bool (decide (kindT D = 6))] w (ShowPost w n true D) := by
  obtain ⟨k, nm, na, nl, nc, ka, kl, kc, rfl, hk⟩ := ty_form h
  have hb := bl_alloc w (tyO k nm na nl nc ka kl kc)
  have hpb := hp.below hb
  have htb := ty_below h hb
  by_cases h6 : kindT D = 6
  · rw [decide_eq_true h6]
    have hs := fun_shown hn h6
    have hl2 : (showT n false D).length ≤ 999998 := by
      rw [hs] at hl
      simp at hl
      omega
    have HC := hideP (ih _ D _ htb hn hpb (by omega))
    have HS := hideP hs
    have HL := hideP hl2
    have HB := hideP hb
    clear hs hl hl2 hb hpb htb hk hn h hp ih h6
    go_enter Tryz.func29, Tryz.ntmps29
    go_wp2_with fail
    refine HC.out.mono ?_
    rintro e w1 ⟨s, rfl, hs1, hb1⟩
    have HS1 := hideP hs1
    have HB1 := hideP (below_next HB.out hb1)
    have hz : s.size ≤ 999998 := by
      have h1 : s.size = s.data.toList.length := rfl
      rw [h1, hs1]
      exact HL.out
    clear hs1 hb1
    go_wp2_with fail
    go_ret
    refine ⟨_, rfl, ?_, HB1.out⟩
    rw [HS.out, ← HS1.out]
    simp [ByteArray.data_append]
  · rw [decide_eq_false h6]
    have hs := show_other (n := n) h6 true
    rw [hs] at hl
    have HC := hideP (ih _ D _ htb hn hpb hl)
    have HS := hideP hs
    have HB := hideP hb
    clear hs hl hb hpb htb hk hn h hp ih h6
    go_enter Tryz.func29, Tryz.ntmps29
    go_wp2_with fail
    refine HC.out.mono ?_
    rintro e w1 ⟨s, rfl, hs1, hb1⟩
    have HS1 := hideP hs1
    have HB1 := hideP (below_next HB.out hb1)
    clear hs1 hb1
    go_wp2_with fail
    go_ret
    refine ⟨_, rfl, ?_, HB1.out⟩
    rw [HS.out, HS1.out]

/-- What a closure over a type t needs of memory. -/
structure TBox (w : World) (T n : Nat) (k : Int) (nm : ByteArray) (na : Option Addr) (nl nc : Nat) (ka : Option Addr) (kc : Nat) (ks : List Ty) : Prop where
  bx : w.heap[T]? = some (tyO k nm na nl nc ka ks.length kc)
  kd : KidsAt w false n ka ks
  nn : ∀ x ∈ ks, NormT n x
  pl : PlainT w
  le : ks.length ≤ 16

theorem TBox.below {w w' : World} {T n : Nat} {k : Int} {nm : ByteArray} {na : Option Addr} {nl nc : Nat} {ka : Option Addr} {kc : Nat} {ks : List Ty} (h : TBox w T n k nm na nl nc ka kc ks) (hb : Below w.heap.size w w') : TBox w' T n k nm na nl nc ka kc ks :=
  ⟨(hb.block _ (lt_of_block h.bx)).trans h.bx, kids_below h.kd hb, h.nn, h.pl.below hb, h.le⟩

set_option maxHeartbeats 4000000 in
theorem kid1_c (n T : Nat) (ih : TextAt n) {k : Int} {nm : ByteArray} {na : Option Addr} {nl nc : Nat} {ka : Option Addr} {kc : Nat} {ks : List Ty} (i : Nat) (hi : i < ks.length) (w : World) (h : TBox w T n k nm na nl nc ka kc ks) (hl : (showT n false ks[i]).length ≤ 1000000) :
    Calls Tryz.prog 28 #[.int .i64 i, .pointer (some ⟨T, 0, none⟩)] w (ShowPost w n false ks[i]) := by
  obtain ⟨b, o, k1, n1, na1, nl1, nc1, la1, ll1, lc1, rfl, hbl, q0, q1, q2, q3, ht1⟩ := kid_at h.kd hi
  obtain ⟨⟨x0, x1, x2, x3⟩, _, hltx⟩ := res_facts h.bx
  have hil : (i : Int) < (ks.length : Int) := by omega
  have HC := hideP (ih _ _ w ht1 (h.nn _ (List.getElem_mem hi)) h.pl hl)
  have hle := h.le
  clear ht1 h ih hl
  go_enter Tryz.func28, Tryz.ntmps28
  go_wp2_with fail
  refine HC.out.mono ?_
  rintro e w1 ⟨s, rfl, hs1, hb1⟩
  have HS1 := hideP hs1
  have HB1 := hideP hb1
  clear hs1 hb1
  go_wp2_with fail
  go_ret
  exact ⟨_, rfl, HS1.out, HB1.out⟩

set_option maxHeartbeats 4000000 in
theorem kid2_c (n T : Nat) (ih : TextAt n) {k : Int} {nm : ByteArray} {na : Option Addr} {nl nc : Nat} {ka : Option Addr} {kc : Nat} {ks : List Ty} (i : Nat) (hi : i < ks.length) (w : World) (h : TBox w T n k nm na nl nc ka kc ks) (h7 : kindT ks[i] ≠ 7) (hl : (showT n true ks[i]).length ≤ 1000000) :
    Calls Tryz.prog 31 #[.int .i64 i, .pointer (some ⟨T, 0, none⟩)] w (ShowPost w n true ks[i]) := by
  obtain ⟨b, o, k1, n1, na1, nl1, nc1, la1, ll1, lc1, rfl, hbl, q0, q1, q2, q3, ht1⟩ := kid_at h.kd hi
  obtain ⟨⟨x0, x1, x2, x3⟩, _, hltx⟩ := res_facts h.bx
  have hil : (i : Int) < (ks.length : Int) := by omega
  have hb := bl_alloc w (tyO k1 n1 na1 nl1 nc1 la1 ll1 lc1)
  have hk1 : kindT ks[i] = k1 := by
    obtain ⟨_, _, _, _, _, _, _, _, e, e2⟩ := ty_form ht1
    injection e with e
    injection e with e
    injection e with e _
    injection e with _ e
    rw [e2, e]
  have hc := inBr_c n ih _ _ _ (ty_below ht1 hb) (h.nn _ (List.getElem_mem hi)) (h.pl.below hb) hl
  rw [hk1] at hc h7
  have HC := hideP hc
  have HB := hideP hb
  have hle := h.le
  have e7 : (k1 == 7) = false := by rw [beq_eq_false_iff_ne]; exact h7
  clear ht1 h ih hl hc hb hk1 h7
  by_cases h6 : k1 = 6
  · have e6 : (k1 == 6) = true := by rw [beq_iff_eq]; exact h6
    rw [decide_eq_true h6] at HC
    clear h6
    go_enter Tryz.func31, Tryz.ntmps31
    go_wp2_with fail
    refine HC.out.mono ?_
    rintro e w1 ⟨s, rfl, hs1, hb1⟩
    have HS1 := hideP hs1
    have HB1 := hideP (below_next HB.out hb1)
    clear hs1 hb1
    go_wp2_with fail
    go_ret
    exact ⟨_, rfl, HS1.out, HB1.out⟩
  · have e6 : (k1 == 6) = false := by rw [beq_eq_false_iff_ne]; exact h6
    rw [decide_eq_false h6] at HC
    clear h6
    go_enter Tryz.func31, Tryz.ntmps31
    go_wp2_with fail
    refine HC.out.mono ?_
    rintro e w1 ⟨s, rfl, hs1, hb1⟩
    have HS1 := hideP hs1
    have HB1 := hideP (below_next HB.out hb1)
    clear hs1 hb1
    go_wp2_with fail
    go_ret
    exact ⟨_, rfl, HS1.out, HB1.out⟩

/-- What a closure over a record's names and a function of its Kids needs. -/
structure FBox (w : World) (A B T n : Nat) (k : Int) (nm : ByteArray) (na : Option Addr) (nc : Nat) (ka : Option Addr) (kc : Nat) (ns : List (List UInt8)) (ks : List Ty) : Prop where
  tb : TBox w T n k nm na ns.length nc ka kc ks
  fa : w.heap[A]? = some (.cells #[.slice na ns.length nc] 22)
  fb : w.heap[B]? = some (.cells #[.func (.func 28) #[] #[.pointer (some ⟨T, 0, none⟩)]] 47)
  na : NamesAt w na ns
  le : ns.length = ks.length

theorem FBox.below {w w' : World} {A B T n : Nat} {k : Int} {nm : ByteArray} {na : Option Addr} {nc : Nat} {ka : Option Addr} {kc : Nat} {ns : List (List UInt8)} {ks : List Ty} (h : FBox w A B T n k nm na nc ka kc ns ks) (hb : Below w.heap.size w w') : FBox w' A B T n k nm na nc ka kc ns ks :=
  ⟨h.tb.below hb, (hb.block _ (lt_of_block h.fa)).trans h.fa, (hb.block _ (lt_of_block h.fb)).trans h.fb, names_below h.na hb, h.le⟩

def fieldV (n : Nat) (s : List UInt8) (x : Ty) : List UInt8 := s ++ 58 :: 32 :: showT n false x

set_option maxHeartbeats 4000000 in
theorem field_c (n A B T : Nat) (ih : TextAt n) {k : Int} {nm : ByteArray} {na : Option Addr} {nc : Nat} {ka : Option Addr} {kc : Nat} {ns : List (List UInt8)} {ks : List Ty} (i : Nat) (hi : i < ks.length) (hj : i < ns.length) (w : World) (h : FBox w A B T n k nm na nc ka kc ns ks) (hl : (fieldV n ns[i] ks[i]).length ≤ 999998) :
    Calls Tryz.prog 57 #[.int .i64 i, .pointer (some ⟨A, 0, none⟩), .pointer (some ⟨B, 0, none⟩)] w fun e w' => (∃ s : ByteArray, e = .returned (.string s) ∧ s.data.toList = fieldV n ns[i] ks[i]) ∧ Below w.heap.size w w' := by
  have hlen : (ns[i]).length + 2 + (showT n false ks[i]).length ≤ 999998 := by
    unfold fieldV at hl
    simp at hl
    omega
  obtain ⟨nb, no, rfl, hnb, hns⟩ : ∃ nb no, na = some ⟨nb, no, none⟩ ∧ nb < w.heap.size ∧ w.cell? ⟨nb, no + i, none⟩ = some (.string ⟨ns[i].toArray⟩) := by
    rcases h.na with h0 | ⟨nb, no, e, hb, hc⟩
    · rw [h0] at hj; cases hj
    · exact ⟨nb, no, e, hb, hc i hj⟩
  have ca : w.cell? ⟨A, 0, none⟩ = some (.slice (some ⟨nb, no, none⟩) ns.length nc) := by rw [cell_of_row _ _ _ _ _ _ h.fa]; rfl
  have cb : w.cell? ⟨B, 0, none⟩ = some (.func (.func 28) #[] #[.pointer (some ⟨T, 0, none⟩)]) := by rw [cell_of_row _ _ _ _ _ _ h.fb]; rfl
  have hla := lt_of_block h.fa
  have hlb := lt_of_block h.fb
  have hil : (i : Int) < (ns.length : Int) := by omega
  have h16 : (ns.length : Int) ≤ 16 := by have := h.le; have := h.tb.le; omega
  have HC : Hid (∀ wx, Below w.heap.size w wx → Calls Tryz.prog 28 #[.int .i64 i, .pointer (some ⟨T, 0, none⟩)] wx fun e w' => (∃ s : ByteArray, e = .returned (.string s) ∧ s.data.toList = showT n false ks[i] ∧ s.size ≤ 999998) ∧ Below w.heap.size w w') := fun wx hwx =>
    (kid1_c n T ih i hi wx (h.tb.below hwx) (by omega)).mono fun e w' ⟨s, e1, e2, e3⟩ => ⟨⟨s, e1, e2, by have h : s.data.toList.length ≤ 999998 := by { rw [e2]; omega }; exact h⟩, below_next hwx e3⟩
  have HCELL : Hid (∀ wx, Below w.heap.size w wx → (wx.cell? ⟨A, 0, none⟩ = some (.slice (some ⟨nb, no, none⟩) ns.length nc) ∧ wx.cell? ⟨B, 0, none⟩ = some (.func (.func 28) #[] #[.pointer (some ⟨T, 0, none⟩)]) ∧ wx.cell? ⟨nb, no + i, none⟩ = some (.string ⟨ns[i].toArray⟩))) := fun wx hwx =>
    ⟨(hwx.cell (p := ⟨A, 0, none⟩) hla).trans ca, (hwx.cell (p := ⟨B, 0, none⟩) hlb).trans cb, (hwx.cell (p := ⟨nb, no + i, none⟩) hnb).trans hns⟩
  obtain ⟨S, hS⟩ : ∃ S : ByteArray, S = ⟨ns[i].toArray⟩ := ⟨_, rfl⟩
  rw [← hS] at hns HCELL
  have hSz : S.size ≤ 999998 := by
    have : S.size = (ns[i]).length := by rw [hS]; rfl
    omega
  have HSD : Hid (S.data.toList = ns[i]) := by show _ = _; rw [hS]
  clear h ih hl hlen hS
  go_enter Tryz.func57, Tryz.ntmps57
  go_wp2_with fail
  have hS0 : w.drew.cell? ⟨A, 0, none⟩ = some (.slice (some ⟨nb, no, none⟩) ns.length nc) ∧ w.drew.cell? ⟨B, 0, none⟩ = some (.func (.func 28) #[] #[.pointer (some ⟨T, 0, none⟩)]) ∧ w.drew.cell? ⟨nb, no + i, none⟩ = some (.string S) := ⟨ca, cb, hns⟩
  go_region_held (fun W => W.cell? ⟨A, 0, none⟩ = some (.slice (some ⟨nb, no, none⟩) ns.length nc) ∧ W.cell? ⟨B, 0, none⟩ = some (.func (.func 28) #[] #[.pointer (some ⟨T, 0, none⟩)]) ∧ W.cell? ⟨nb, no + i, none⟩ = some (.string S)) (assumption) (first
    | (go_at_call 28; refine (HC.out _ (by first | exact Below.refl _ _ | exact below_drewN (Below.refl _ _) _ | exact (Below.refl _ _).drew)).mono ?_; rintro e w1 ⟨⟨s1, rfl, hs1, hz1⟩, hb1⟩; have t0 := HCELL.out _ hb1; have HS1 := hideP hs1; have HB1 := hideP hb1; clear hs1 hb1))
  all_goals go_wp2_with fail
  all_goals go_ret
  all_goals refine ⟨⟨_, rfl, ?_⟩, HB1.out⟩
  all_goals
    unfold fieldV
    rw [← HSD.out, ← HS1.out]
    simp [ByteArray.data_append]
end Go.Proofs.YtmpcjcjacpjilabGreatDoor

/- tree.typeText by a contract, of normal types. -/
namespace Go.Proofs.YtmpcjcjacpjilabGreatDoor
open Go.RowKit

set_option maxHeartbeats 4000000 in
theorem fieldsText_c (n T : Nat) (ih : TextAt n) {k : Int} {nm : ByteArray} {na : Option Addr} {nc : Nat} {ka : Option Addr} {kc : Nat} {ns : List (List UInt8)} {ks : List Ty} (w : World) (h : TBox w T n k nm na ns.length nc ka kc ks) (hna : NamesAt w na ns) (hle : ns.length = ks.length) (hl : (joinV [44, 32] (List.zipWith (fieldV n) ns ks)).length ≤ 999998) :
    Calls Tryz.prog 27 #[.slice na ns.length nc, .func (.func 28) #[] #[.pointer (some ⟨T, 0, none⟩)]] w fun e w' => (∃ s : ByteArray, e = .returned (.string s) ∧ s.data.toList = 123 :: (joinV [44, 32] (List.zipWith (fieldV n) ns ks) ++ [125])) ∧ Below w.heap.size w w' := by
  obtain ⟨L, hL⟩ : ∃ L, L = List.zipWith (fieldV n) ns ks := ⟨_, rfl⟩
  have hLl : L.length = ns.length := by rw [hL, List.length_zipWith]; omega
  have hLi : ∀ i (h : i < L.length) (h1 : i < ns.length) (h2 : i < ks.length), L[i] = fieldV n ns[i] ks[i] := fun i h h1 h2 => by subst hL; simp
  rw [← hL] at hl ⊢
  clear hL
  obtain ⟨W, hW⟩ : ∃ W, W = (w.alloc (.cells #[.slice na ns.length nc] 22)).alloc (.cells #[.func (.func 28) #[] #[.pointer (some ⟨T, 0, none⟩)]] 47) := ⟨_, rfl⟩
  have hb : Below w.heap.size w W := by rw [hW]; exact below_next (bl_alloc _ _) (bl_alloc _ _)
  have hfb : FBox W w.heap.size (w.heap.size + 1) T n k nm na nc ka kc ns ks :=
    ⟨h.below hb, by rw [hW]; exact (Below.heap_alloc _ _ _ (by simp)).trans (heap_alloc_last w _), by rw [hW]; exact heap_at1 w _ _, names_below hna hb, hle⟩
  have hit : ItemAt2 W (.pointer (some ⟨w.heap.size, 0, none⟩)) (.pointer (some ⟨w.heap.size + 1, 0, none⟩)) L := fun i hi wx hwx => by
    have h1 : i < ns.length := by omega
    have h2 : i < ks.length := by omega
    rw [hLi i hi h1 h2]
    refine field_c n w.heap.size (w.heap.size + 1) T ih i h2 h1 wx (hfb.below hwx) ?_
    have := join_len [44, 32] L L[i] (List.getElem_mem hi)
    rw [hLi i hi h1 h2] at this
    omega
  have hc := listText2_c _ _ ⟨#[44, 32]⟩ L W hit (by show (joinV [44, 32] L).length ≤ _; omega) (by have := h.le; omega)
  rw [hLl] at hc
  have HC := hideP hc
  have HB := hideP hb
  have HLN := hideP hl
  have h16 : (ns.length : Int) ≤ 16 := by have := h.le; omega
  subst hW
  clear hc hit hfb hb h hna hl ih hLi hLl hle
  go_enter Tryz.func27, Tryz.ntmps27
  go_wp2_with fail
  refine HC.out.mono ?_
  rintro e w1 ⟨⟨s1, rfl, hs1, hz1⟩, hb1⟩
  have hz2 : s1.size ≤ 999998 := by
    have h1 : s1.size = s1.data.toList.length := rfl
    rw [h1, hs1]
    exact HLN.out
  have HS1 := hideP hs1
  have HB1 := hideP (below_next HB.out hb1)
  clear hs1 hb1
  go_wp2_with fail
  go_ret
  refine ⟨⟨_, rfl, ?_⟩, HB1.out⟩
  rw [← show s1.data.toList = joinV [44, 32] L from HS1.out]
  simp [ByteArray.data_append]

set_option maxHeartbeats 4000000 in
set_option maxRecDepth 100000 in
theorem text_base (n : Nat) (k : Int) (h04 : 0 ≤ k ∧ k ≤ 4) (nm : ByteArray) (na : Option Addr) (nl nc : Nat) (ka : Option Addr) (kl kc : Nat) (w : World) (hp : PlainT w) : Calls Tryz.prog 14 #[.agg #[.int .i64 k, .string nm, .slice na nl nc, .slice ka kl kc]] w (ShowPost w (n + 1) false (mkT k [] [] [])) := by
  have hb := bl_alloc w (tyO k nm na nl nc ka kl kc)
  have hk : k = ((0 : Nat) : Int) ∨ k = ((1 : Nat) : Int) ∨ k = ((2 : Nat) : Int) ∨ k = ((3 : Nat) : Int) ∨ k = ((4 : Nat) : Int) := by omega
  have HB := hideP hb
  have h0 := hp 0 (by decide)
  have h1 := hp 1 (by decide)
  have h2 := hp 2 (by decide)
  have h3 := hp 3 (by decide)
  have h4 := hp 4 (by decide)
  have hlt := hp.lt
  clear h04 hb hp
  rcases hk with rfl | rfl | rfl | rfl | rfl
  all_goals
    go_enter Tryz.func14, Tryz.ntmps14
    go_wp2_with fail
    go_ret
    exact ⟨_, rfl, rfl, HB.out⟩

set_option maxHeartbeats 4000000 in
set_option maxRecDepth 100000 in
theorem text_rec (n : Nat) (ih : TextAt n) (nm : ByteArray) (na : Option Addr) (nc : Nat) (ka : Option Addr) (kc : Nat) (ns : List (List UInt8)) (ks : List Ty) (w : World) (hnk : ns.length = ks.length) (h16 : ks.length ≤ 16) (hna : NamesAt w na ns) (hk : KidsAt w false n ka ks) (hx : ∀ x ∈ ks, NormT n x) (hp : PlainT w) (hl : (showT (n + 1) false (mkT 5 [] ns ks)).length ≤ 1000000) :
    Calls Tryz.prog 14 #[.agg #[.int .i64 5, .string nm, .slice na ns.length nc, .slice ka ks.length kc]] w (ShowPost w (n + 1) false (mkT 5 [] ns ks)) := by
  have hb := bl_alloc w (tyO 5 nm na ns.length nc ka ks.length kc)
  have hsh : showT (n + 1) false (mkT 5 [] ns ks) = 123 :: (joinV [44, 32] (List.zipWith (fieldV n) ns ks) ++ [125]) := show_rec ..
  have hc := fieldsText_c n w.heap.size ih _ (k := 5) (nm := nm) (nc := nc) (kc := kc) ⟨heap_alloc_last w _, kids_below hk hb, hx, hp.below hb, h16⟩ (names_below hna hb) hnk (by rw [hsh] at hl; simp at hl; omega)
  rw [← hsh] at hc
  have HC := hideP hc
  have HB := hideP hb
  clear hc hb hsh hl hp hx hk hna hnk ih
  go_enter Tryz.func14, Tryz.ntmps14
  go_wp2_with fail
  refine HC.out.mono ?_
  rintro e w1 ⟨⟨s1, rfl, hs1⟩, hb1⟩
  have HS1 := hideP hs1
  have HB1 := hideP (below_next HB.out hb1)
  clear hs1 hb1
  go_wp2_with fail
  go_ret
  exact ⟨_, rfl, HS1.out, HB1.out⟩

set_option maxHeartbeats 4000000 in
set_option maxRecDepth 100000 in
theorem text_uni (n : Nat) (ih : TextAt n) (nm : ByteArray) (na : Option Addr) (nl nc : Nat) (ka : Option Addr) (kc : Nat) (ks : List Ty) (w : World) (h16 : ks.length ≤ 16) (hk : KidsAt w false n ka ks) (hx : ∀ x ∈ ks, NormT n x) (h7 : ∀ x ∈ ks, kindT x ≠ 7) (hp : PlainT w) (hl : (showT (n + 1) false (mkT 7 [] [] ks)).length ≤ 1000000) :
    Calls Tryz.prog 14 #[.agg #[.int .i64 7, .string nm, .slice na nl nc, .slice ka ks.length kc]] w (ShowPost w (n + 1) false (mkT 7 [] [] ks)) := by
  have hb := bl_alloc w (tyO 7 nm na nl nc ka ks.length kc)
  obtain ⟨L, hL⟩ : ∃ L, L = ks.map (showT n true) := ⟨_, rfl⟩
  have hLl : L.length = ks.length := by rw [hL, List.length_map]
  have hLi : ∀ i (h : i < L.length) (h2 : i < ks.length), L[i] = showT n true ks[i] := fun i h h2 => by subst hL; simp
  have hsh : showT (n + 1) false (mkT 7 [] [] ks) = joinV [32, 124, 32] L := by rw [hL]; exact show_union ..
  have htb : TBox (w.alloc (tyO 7 nm na nl nc ka ks.length kc)) w.heap.size n 7 nm na nl nc ka kc ks := ⟨heap_alloc_last w _, kids_below hk hb, hx, hp.below hb, h16⟩
  rw [hsh] at hl
  have hit : ItemAt (w.alloc (tyO 7 nm na nl nc ka ks.length kc)) (.pointer (some ⟨w.heap.size, 0, none⟩)) L := fun i hi wx hwx => by
    have h2 : i < ks.length := by omega
    have h3 := join_len [32, 124, 32] L L[i] (List.getElem_mem hi)
    rw [hLi i hi h2] at h3 ⊢
    refine (kid2_c n w.heap.size ih i h2 wx (htb.below hwx) (h7 _ (List.getElem_mem h2)) (by omega)).mono fun e w' ⟨s, e1, e2, e3⟩ => ⟨⟨s, e1, e2⟩, e3⟩
  have hc := listText_c _ ⟨#[32, 124, 32]⟩ L _ hit hl (by omega)
  rw [hLl] at hc
  have HC := hideP hc
  have HB := hideP hb
  have HSH := hideP hsh
  clear hc hit htb hb hl hp hx hk ih hLi hLl hsh h7 hL
  go_enter Tryz.func14, Tryz.ntmps14
  go_wp2_with fail
  refine HC.out.mono ?_
  rintro e w1 ⟨⟨s1, rfl, hs1, hz1⟩, hb1⟩
  have HS1 := hideP hs1
  have HB1 := hideP (below_next HB.out hb1)
  clear hs1 hb1
  go_wp2_with fail
  go_ret
  exact ⟨_, rfl, HS1.out.trans HSH.out.symm, HB1.out⟩
end Go.Proofs.YtmpcjcjacpjilabGreatDoor

/- tree.allOf over types, by contracts; what everyPart walks. -/
namespace Go.Proofs.YtmpcjcjacpjilabGreatDoor
open Go.RowKit

abbrev fitsF : Value := .func (.func 26) #[] #[]
abbrev kidsF : Value := .func (.func 25) #[] #[]

set_option maxHeartbeats 2000000 in
theorem allTypes_c (n : Nat) (ka : Option Addr) (kc : Nat) (ks : List Ty) (w : World) (hw : Words w) (hf : Forms w) (h : KidsAt w false (n + 1) ka ks) (hl : ks.length ≤ 140737488351232) (hn : ∀ x ∈ ks, NormT (n + 1) x) :
    Calls Tryz.prog 52 #[.slice ka ks.length kc, fitsF] w fun e w' => e = .returned (.bool true) ∧ Below w.heap.size w w' := by
  have HK := hideP h
  have HN := hideP hn
  have HW := hideP hw
  have HF := hideP hf
  clear h hn hw hf
  go_enter Tryz.func52, Tryz.ntmps52
  go_wp2_with fail
  go_loopw [9] (fun i wx => ∃ j : Nat, i = .int .i64 j ∧ j ≤ ks.length ∧ Hid (Below w.heap.size w wx)) (fun i _ => ks.length - (intOf i).toNat)
  case atStart => exact ⟨0, rfl, Nat.zero_le _, Below.refl _ _⟩
  case round =>
    obtain ⟨j, rfl, hj, hbl⟩ := hrel
    by_cases hlt : j < ks.length
    · have hjl : (j : Int) < (ks.length : Int) := by omega
      obtain ⟨b, o, k', nm', na', nl', nc', la', ll', lc', rfl, hb1, q0, q1, q2, q3, ht⟩ := kid_at HK.out hlt
      have r0 := (hbl.out.cell (p := ⟨b, o + j * 4, none⟩) hb1).trans q0
      have r1 := (hbl.out.cell (p := ⟨b, o + j * 4 + 1, none⟩) hb1).trans q1
      have r2 := (hbl.out.cell (p := ⟨b, o + j * 4 + 2, none⟩) hb1).trans q2
      have r3 := (hbl.out.cell (p := ⟨b, o + j * 4 + 3, none⟩) hb1).trans q3
      have hb2 := below_next hbl.out (bl_alloc wr (tyO k' nm' na' nl' nc' la' ll' lc'))
      have HC := hideP (typeFits_c n _ _ _ (ty_below ht hb2) (HN.out _ (List.getElem_mem hlt)) (HW.out.below hb2) (HF.out.below hb2))
      have HB2 := hideP hb2
      clear q0 q1 q2 q3 ht hb2
      go_wp2_with fail
      refine HC.out.mono ?_
      rintro e w' ⟨rfl, hb'⟩
      have HB3 := hideP (below_next HB2.out hb')
      clear hb'
      go_wp2_with fail
      exact ⟨⟨j + 1, by go_num, by omega, HB3⟩, by simp [intOf]; omega⟩
    · have hjl : ¬ (j : Int) < (ks.length : Int) := by omega
      go_wp2_with fail
      go_ret
      exact ⟨rfl, hbl.out⟩

theorem kidsOf_c (k : Int) (nm : ByteArray) (na : Option Addr) (nl nc : Nat) (ka : Option Addr) (kl kc : Nat) (w : World) :
    Calls Tryz.prog 25 #[.agg #[.int .i64 k, .string nm, .slice na nl nc, .slice ka kl kc]] w fun e w' => e = .returned (.slice ka kl kc) ∧ w' = w.alloc (tyO k nm na nl nc ka kl kc) := by
  go_enter Tryz.func25, Tryz.ntmps25
  go_wp2_with fail
  go_ret
  exact ⟨rfl, rfl⟩

abbrev partsF (b : Nat) : Value := .func (.func 51) #[] #[.pointer (some ⟨b, 0, none⟩)]

set_option maxHeartbeats 2000000 in
theorem partsOf_c (n b : Nat) (ka : Option Addr) (kc : Nat) (ks : List Ty) (w : World) (hx : w.cell? ⟨b, 0, none⟩ = some fitsF) (hw : Words w) (hf : Forms w) (h : KidsAt w false (n + 1) ka ks) (hl : ks.length ≤ 140737488351232) (hn : ∀ x ∈ ks, NormT (n + 1) x) :
    Calls Tryz.prog 51 #[.slice ka ks.length kc, .pointer (some ⟨b, 0, none⟩)] w fun e w' => e = .returned (.bool true) ∧ Below w.heap.size w w' := by
  have HC := hideP (allTypes_c n ka kc ks w hw hf h hl hn)
  clear h hn hw hf
  go_enter Tryz.func51, Tryz.ntmps51
  go_wp2_with fail
  refine HC.out.mono ?_
  rintro e w' ⟨rfl, hb⟩
  have HB := hideP hb
  clear hb
  go_wp2_with fail
  go_ret
  exact ⟨rfl, HB.out⟩

set_option maxHeartbeats 2000000 in
theorem allLists_c (n b : Nat) (a : Option Addr) (c : Nat) (qs : List (Value × List Ty)) (w : World) (hx : w.cell? ⟨b, 0, none⟩ = some fitsF) (hw : Words w) (hf : Forms w) (hr : RowAt w a (qs.map (·.1))) (hq : ∀ q ∈ qs, LstAt w false (n + 1) q.1 q.2) (hl : qs.length ≤ 140737488351232) (hn : ∀ q ∈ qs, ∀ x ∈ q.2, NormT (n + 1) x) :
    Calls Tryz.prog 50 #[.slice a qs.length c, partsF b] w fun e w' => e = .returned (.bool true) ∧ Below w.heap.size w w' := by
  have HR := hideP hr
  have HQ := hideP hq
  have HN := hideP hn
  have HW := hideP hw
  have HF := hideP hf
  have HX := hideP hx
  clear hr hq hn hw hf hx
  go_enter Tryz.func50, Tryz.ntmps50
  go_wp2_with fail
  go_loopw [9] (fun i wx => ∃ j : Nat, i = .int .i64 j ∧ j ≤ qs.length ∧ Hid (Below w.heap.size w wx)) (fun i _ => qs.length - (intOf i).toNat)
  case atStart => exact ⟨0, rfl, Nat.zero_le _, Below.refl _ _⟩
  case round =>
    obtain ⟨j, rfl, hj, hbl⟩ := hrel
    by_cases hlt : j < qs.length
    · have hjl : (j : Int) < (qs.length : Int) := by omega
      have hr0 : ∃ b o, a = some ⟨b, o, none⟩ ∧ b < w.heap.size ∧ w.cell? ⟨b, o + j, none⟩ = some qs[j].1 := by
        rcases HR.out with h0 | ⟨b, o, e, hb, hc⟩
        · have := congrArg List.length h0
          rw [List.length_map, List.length_nil] at this
          omega
        · have := hc j (by simpa using hlt)
          rw [List.getElem_map] at this
          exact ⟨b, o, e, hb, this⟩
      obtain ⟨b0, o0, rfl, hb0, hcj⟩ := hr0
      obtain ⟨b1, o1, c1, e1, _, hll, hkids⟩ := HQ.out qs[j] (List.getElem_mem hlt)
      rw [e1] at hcj
      have hcr := (hbl.out.cell (p := ⟨b0, o0 + j, none⟩) hb0).trans hcj
      have hxr := (hbl.out.cell (p := ⟨b, 0, none⟩) (World.block_lt_of_cell? w _ HX.out)).trans HX.out
      have HC := hideP (partsOf_c n b (some ⟨b1, o1, none⟩) c1 qs[j].2 wr hxr (HW.out.below hbl.out) (HF.out.below hbl.out) (kids_below hkids hbl.out) hll (HN.out _ (List.getElem_mem hlt)))
      clear hcj e1 hll hkids hxr
      go_wp2_with fail
      refine HC.out.mono ?_
      rintro e w' ⟨rfl, hb'⟩
      have HB3 := hideP (below_next hbl.out hb')
      clear hb'
      go_wp2_with fail
      exact ⟨⟨j + 1, by go_num, by omega, HB3⟩, by simp [intOf]; omega⟩
    · have hjl : ¬ (j : Int) < (qs.length : Int) := by omega
      go_wp2_with fail
      go_ret
      exact ⟨rfl, hbl.out⟩
end Go.Proofs.YtmpcjcjacpjilabGreatDoor
