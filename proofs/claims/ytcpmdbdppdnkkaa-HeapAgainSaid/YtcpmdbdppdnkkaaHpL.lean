/- graduslaw16.awake. -/
import Derived.Test.YtcpmdbdppdnkkaaHpI
namespace Go.Proofs.Ytcpmdbdppdnkkaa
open Go.RowKit

theorem ArenaT.no {B a cap : Nat} {F : Nat → Prop} {w w' : World} {M : Hp} (h : ArenaT B F w a cap M) (hc : Ch noB w w') : ArenaT B F w' a cap M := h.ch hc fun _ _ h => h
theorem ArenaT.al {B a cap : Nat} {F : Nat → Prop} {w : World} {M : Hp} (h : ArenaT B F w a cap M) (o : Obj) : ArenaT B F (w.alloc o) a cap M := h.no ((Ch.refl _ _).alloc o)
/-- A row of slots that was just made. -/
theorem sltV_made (w : World) (l : List SlotV) (n : Nat) (hn : l.length = n) : SltV (fun b => b = w.heap.size) (w.alloc (.cells (l.flatMap sltC).toArray 47)) (.slice (some ⟨w.heap.size, 0, none⟩) n n) l := by
  subst hn
  refine .inr ⟨_, 0, _, rfl, rfl, by rw [World.size_alloc]; omega, fun i hi => ?_⟩
  obtain ⟨h1, h2⟩ := slt_get l i hi
  have hc := heap_alloc_last w (.cells (l.flatMap sltC).toArray 47)
  rw [Nat.zero_add, cell_of_row _ _ _ _ _ _ hc, cell_of_row _ _ _ _ _ _ hc, List.getElem?_toArray, List.getElem?_toArray]
  exact ⟨h1, h2⟩
theorem sltV_nil (F : Nat → Prop) (w : World) : SltV F w (.slice none 0 0) [] := .inl ⟨none, 0, rfl, rfl, fun _ => rfl⟩
theorem intV_nil (F : Nat → Prop) (w : World) : IntV F w (.slice none 0 0) [] := .inl ⟨none, 0, rfl, rfl, fun _ => rfl⟩
theorem good_nil : GoodM [] := ⟨List.nodup_nil, (fun _ h => nomatch h), fun _ h => nomatch h⟩
theorem has_cons {M : Hp} {x y : Int} {l : List SlotV} : hasM ((x, l) :: M) y ↔ y = x ∨ hasM M y := by
  constructor
  · rintro ⟨l', h⟩
    rcases List.mem_cons.1 h with h | h
    · injection h with h _
      exact .inl h
    · exact .inr ⟨l', h⟩
  · rintro (rfl | ⟨l', h⟩)
    · exact ⟨l, List.mem_cons_self ..⟩
    · exact ⟨l', List.mem_cons_of_mem _ h⟩
theorem has_nil {x : Int} : ¬ hasM [] x := fun ⟨_, h⟩ => nomatch h
theorem used_nil : usedM [] = 0 := rfl
theorem stays_none {M M' : Hp} (h : Stays M [] M') : M' = [] := by
  refine List.eq_nil_iff_forall_not_mem.2 fun p hp => ?_
  exact ((h.2 p).1 hp).2 (fun _ => False) (fun _ h => nomatch h) fun _ _ _ h => h.elim
/-- One that fits is made. -/
theorem alloc_fits {cap : Nat} {M M' : Hp} {l : List SlotV} {x e0 : Int} (h : AllocR cap M l x e0 M') (hb : ¬ badL M l) (hf : usedM M + l.length + 1 ≤ cap) : e0 = 0 ∧ 0 ≤ x ∧ x ≤ 9223372036854775807 ∧ ¬ hasM M x ∧ M' = (x, l) :: M := by
  rcases h with h | h | h
  · exact absurd h.1 hb
  · have := h.2.1
    omega
  · exact ⟨h.2.2.1, h.2.2.2.1, h.2.2.2.2.1, h.2.2.2.2.2.1, h.2.2.2.2.2.2⟩
theorem alloc_full {cap : Nat} {M M' : Hp} {l : List SlotV} {x e0 : Int} (h : AllocR cap M l x e0 M') (hb : ¬ badL M l) (hf : cap < usedM M + l.length + 1) : x = 0 ∧ e0 = 22 ∧ M' = M := by
  rcases h with h | h | h
  · exact absurd h.1 hb
  · exact h.2.2
  · have := h.2.1
    omega
theorem alloc_bad {cap : Nat} {M M' : Hp} {l : List SlotV} {x e0 : Int} (h : AllocR cap M l x e0 M') (hb : badL M l) : x = 0 ∧ e0 = 1 ∧ M' = M := by
  rcases h with h | h | h
  · exact h.2
  · exact absurd hb h.1
  · exact absurd hb h.1
theorem bad_plain {M : Hp} {l : List SlotV} (h : ∀ s ∈ l, s.ref = false) : ¬ badL M l := fun ⟨s, hs, hr, _⟩ => by rw [h s hs] at hr; cases hr
set_option maxRecDepth 100000 in
set_option maxHeartbeats 4000000 in
theorem awake_c (w : World) : Calls Try.prog 8 #[] w fun e w' => e = .returned (.bool true) ∧ Below w.heap.size w w' := by
  go_enter Try.func8, Try.ntmps8
  go_wp2_with fail
  refine (hnew_c 5 _ (by decide) (by decide)).mono ?_
  rintro e w0 ⟨a, F, rfl, h0, hc0⟩
  have H0 : Hid (ArenaT w.heap.size F w0 a 5 []) := h0
  have B0 : Hid (Below w.heap.size w w0) := hc0.below (Nat.le_refl _) fun _ h => h.elim
  clear h0 hc0
  go_wp2_with fail
  obtain ⟨l1, hl1⟩ : ∃ l : List SlotV, l = [⟨false, 1⟩, ⟨false, 2⟩] := ⟨_, rfl⟩
  have C1 := halloc_c w.heap.size a 5 F (fun b => b = w0.heap.size) [] _ l1 _ (H0.out.al (.cells (l1.flatMap sltC).toArray 47)) good_nil (sltV_made w0 l1 2 (by rw [hl1]; rfl)) (fun b h h2 => by have := (H0.out.lt b h2).2; omega) (by rw [hl1]; intro s hs; simp at hs; rcases hs with rfl | rfl <;> decide) (by rw [hl1]; decide) (by decide)
  rw [hl1] at C1
  refine C1.mono ?_
  rintro e w1 ⟨x, e0, M1, rfl, hR, F1, p1, p2, p3⟩
  obtain ⟨rfl, hx0, hx1, hxn, rfl⟩ := alloc_fits hR (bad_plain (by simp)) (by decide)
  have H1 := hideP p1
  have B1 : Hid (Below w.heap.size w w1) := B0.out.trans ((((Ch.refl _ _).alloc _).trans p3 fun _ _ h => h).below B0.out.size fun b h => (H0.out.lt b h).1)
  have G1 : Hid (GoodM [(x, ([⟨false, 1⟩, ⟨false, 2⟩] : List SlotV))]) := good_nil.push hxn hx0 (bad_plain (by simp))
  clear p1 p2 p3 hR C1 H0 B0 hl1 l1
  go_wp2_with fail
  obtain ⟨l2, hl2⟩ : ∃ l : List SlotV, l = [⟨true, x⟩] := ⟨_, rfl⟩
  have hb2 : ¬ badL [(x, ([⟨false, 1⟩, ⟨false, 2⟩] : List SlotV))] l2 := by
    rw [hl2]
    rintro ⟨s, hs, _, hn⟩
    obtain rfl := List.mem_singleton.1 hs
    exact hn ⟨_, List.mem_cons_self ..⟩
  have C2 := halloc_c w.heap.size a 5 F1 (fun b => b = w1.heap.size) _ _ l2 _ (H1.out.al (.cells (l2.flatMap sltC).toArray 47)) G1.out (sltV_made w1 l2 1 (by rw [hl2]; rfl)) (fun b h h2 => by have := (H1.out.lt b h2).2; omega) (by rw [hl2]; intro s hs; obtain rfl := List.mem_singleton.1 hs; exact ⟨by show -9223372036854775808 ≤ x; omega, hx1⟩) (by rw [hl2]; show 1 ≤ 1000000; decide) (by show 2 + 1 + 0 ≤ 1000000000; decide)
  rw [hl2] at C2 hb2
  refine C2.mono ?_
  rintro e w2 ⟨y, e0, M1, rfl, hR, F2, p1, p2, p3⟩
  obtain ⟨rfl, hy0, hy1, hyn, rfl⟩ := alloc_fits hR hb2 (by show 2 + 1 + 0 + 1 + 1 ≤ 5; decide)
  have H2 := hideP p1
  have B2 : Hid (Below w.heap.size w w2) := B1.out.trans ((((Ch.refl _ _).alloc _).trans p3 fun _ _ h => h).below B1.out.size fun b h => (H1.out.lt b h).1)
  have G2 := hideP (G1.out.push hyn hy0 hb2)
  clear p1 p2 p3 hR C2 H1 B1 hb2 hl2 l2 G1 hxn hyn
  obtain ⟨M2, hM2⟩ : ∃ M, M = [(y, ([⟨true, x⟩] : List SlotV)), (x, ([⟨false, 1⟩, ⟨false, 2⟩] : List SlotV))] := ⟨_, rfl⟩
  have hu2 : usedM M2 = 5 := by rw [hM2]; rfl
  have hl2 : M2.length = 2 := by rw [hM2]; rfl
  rw [← hM2] at H2 G2
  clear hM2
  go_wp2_with fail
  refine (halloc_c w.heap.size a 5 F2 (fun _ => False) _ _ [] _ H2.out G2.out (sltV_nil _ _) (fun _ h => h.elim) (fun _ h => nomatch h) (by decide) (by omega)).mono ?_
  rintro e w3 ⟨z, e0, M3, rfl, hR, F3, p1, p2, p3⟩
  obtain ⟨rfl, rfl, rfl⟩ := alloc_full hR (bad_plain (fun _ h => nomatch h)) (by rw [hu2]; decide)
  have H3 := hideP p1
  have B3 : Hid (Below w.heap.size w w3) := B2.out.trans (p3.below B2.out.size fun b h => (H2.out.lt b h).1)
  clear p1 p2 p3 hR H2 B2
  go_wp2_with fail
  have C4 := hobjs_c w.heap.size a 5 F3 M3 w3 H3.out G2.out (by omega)
  rw [hl2] at C4
  refine C4.mono ?_
  rintro e w4 ⟨rfl, hc⟩
  have H4 := hideP (H3.out.no hc)
  have B4 : Hid (Below w.heap.size w w4) := B3.out.trans (hc.below B3.out.size fun _ h => h.elim)
  clear hc H3 B3 C4
  go_wp2_with fail
  refine (hcollect_c w.heap.size a 5 F3 (fun _ => False) M3 _ [] _ H4.out G2.out (intV_nil _ _) (fun _ h => h.elim) (fun _ h => nomatch h) (by decide) (by omega)).mono ?_
  rintro e w5 ⟨M5, rfl, hs, F5, p1, p2, p3⟩
  obtain rfl := stays_none hs
  have H5 := hideP p1
  have B5 : Hid (Below w.heap.size w w5) := B4.out.trans (p3.below B4.out.size fun b h => (H4.out.lt b h).1)
  have e5 : ((usedM M3 : Int) - (usedM [] : Int)) = 5 := by rw [hu2]; rfl
  rw [e5]
  clear p1 p2 p3 hs H4 B4 e5
  go_wp2_with fail
  refine (hused_c w.heap.size a 5 F5 [] w5 H5.out good_nil (by decide)).mono ?_
  rintro e w6 ⟨rfl, hc⟩
  have B6 : Hid (Below w.heap.size w w6) := B5.out.trans (hc.below B5.out.size fun _ h => h.elim)
  clear hc H5 B5
  go_wp2_with fail
  go_ret
  exact ⟨rfl, B6.out⟩
end Go.Proofs.Ytcpmdbdppdnkkaa
