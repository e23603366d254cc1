/- graduslaw16.HeapOwn: the walk. -/
import Derived.Test.YtcpmdbdppdnkkaaHpL
import Derived.Test.YtcpmdbdppdnkkaaHpT
namespace Go.Proofs.Ytcpmdbdppdnkkaa
open Go.RowKit

/-- Block q holds the slots l, from its head on. -/
def SltB (w : World) (q : Nat) (l : List SlotV) : Prop := ∃ cur, w.heap[q]? = some (.cells cur 47 (0, 0)) ∧ ∀ i (_ : i < l.length), cur[i * 2]? = some (.bool l[i].ref) ∧ cur[i * 2 + 1]? = some (.int .i64 l[i].n)
section
variable {w w' : World} {q : Nat} {l : List SlotV} {S : Nat → Prop}
theorem SltB.ch (h : SltB w q l) (hc : Ch S w w') (hs : ¬ S q) : SltB w' q l := by
  obtain ⟨cur, h1, h2⟩ := h
  exact ⟨cur, hc.obj h1 hs, h2⟩
theorem SltB.lt (h : SltB w q l) : q < w.heap.size := by obtain ⟨cur, h1, _⟩ := h; exact lt_of_block h1
theorem SltB.at (h : SltB w q l) {i : Nat} (hi : i < l.length) : (w.cell? ⟨q, i * 2, none⟩ = some (.bool l[i].ref) ∧ w.cell? ⟨q, i * 2 + 1, none⟩ = some (.int .i64 l[i].n)) ∧ ∀ o, w.frozen? ⟨q, o, none⟩ = false := by
  obtain ⟨cur, h1, h2⟩ := h
  refine ⟨⟨?_, ?_⟩, fun o => by simp [World.frozen?, h1]⟩
  · rw [cell_of_row _ _ _ _ _ _ h1]; exact (h2 i hi).1
  · rw [cell_of_row _ _ _ _ _ _ h1]; exact (h2 i hi).2
theorem SltB.setN (h : SltB w q l) {i : Nat} (hi : i < l.length) (n : Int) : SltB (w.setCell ⟨q, i * 2 + 1, none⟩ (.int .i64 n)) q (l.set i ⟨l[i].ref, n⟩) := by
  obtain ⟨cur, h1, h2⟩ := h
  have hc := (Array.getElem?_eq_some_iff.1 (h2 i hi).2).1
  refine ⟨_, cells_setCell h1, fun k hk => ?_⟩
  rw [List.length_set] at hk
  have h3 := h2 k hk
  rw [Array.getElem?_setIfInBounds, Array.getElem?_setIfInBounds, if_neg (show ¬ i * 2 + 1 = k * 2 by omega), List.getElem_set]
  by_cases e : i = k
  · subst e
    rw [if_pos rfl, if_pos hc, if_pos rfl]
    exact ⟨h3.1, rfl⟩
  · rw [if_neg (show ¬ i * 2 + 1 = k * 2 + 1 by omega), if_neg e]
    exact h3
theorem SltB.setR (h : SltB w q l) {i : Nat} (hi : i < l.length) (b : Bool) : SltB (w.setCell ⟨q, i * 2, none⟩ (.bool b)) q (l.set i ⟨b, l[i].n⟩) := by
  obtain ⟨cur, h1, h2⟩ := h
  have hc := (Array.getElem?_eq_some_iff.1 (h2 i hi).1).1
  refine ⟨_, cells_setCell h1, fun k hk => ?_⟩
  rw [List.length_set] at hk
  have h3 := h2 k hk
  rw [Array.getElem?_setIfInBounds, Array.getElem?_setIfInBounds, if_neg (show ¬ i * 2 = k * 2 + 1 by omega), List.getElem_set]
  by_cases e : i = k
  · subst e
    rw [if_pos rfl, if_pos hc, if_pos rfl]
    exact ⟨rfl, h3.2⟩
  · rw [if_neg (show ¬ i * 2 = k * 2 by omega), if_neg e]
    exact h3
/-- A row of one's own: where it lies. -/
theorem sltB_own {B n : Nat} {v : Value} (h : w.ownsRow B 47 2 v n (l.flatMap sltC)) (hn : n = l.length) : (v = .slice none 0 0 ∧ l = []) ∨ ∃ q cap, v = .slice (some ⟨q, 0, none⟩) n cap ∧ B ≤ q ∧ SltB w q l := by
  have hh := h
  rcases h.2 with ⟨rfl, h0⟩ | ⟨q, cap, cur, rfl, hq, hb, _⟩
  · exact .inl ⟨rfl, List.length_eq_zero_iff.1 (by omega)⟩
  · refine .inr ⟨q, cap, rfl, hq, cur, hb, fun i hi => ?_⟩
    obtain ⟨h1, h2⟩ := slt_get l i hi
    have c1 := hh.cellAt (i * 2) (by omega)
    have c2 := hh.cellAt (i * 2 + 1) (by omega)
    rw [cell_of_row _ _ _ _ _ _ hb] at c1 c2
    exact ⟨c1.trans h1, c2.trans h2⟩
end
/-- The same, both ways in one. -/
def SltU (B E : Nat) (w : World) (v : Value) (l : List SlotV) : Prop := (v = .slice none 0 0 ∧ l = []) ∨ ∃ q cap, v = .slice (some ⟨q, 0, none⟩) l.length cap ∧ (B ≤ q ∧ q < E) ∧ SltB w q l
section
variable {B E : Nat} {w w' : World} {v : Value} {l : List SlotV} {S : Nat → Prop}
theorem SltU.ch (h : SltU B E w v l) (hc : Ch S w w') (hs : ∀ b, B ≤ b → b < E → ¬ S b) : SltU B E w' v l := by
  rcases h with h | ⟨q, cap, rfl, hq, h⟩
  · exact .inl h
  · exact .inr ⟨q, cap, rfl, hq, h.ch hc (hs q hq.1 hq.2)⟩
theorem sltU_own (h : w.ownsRow B 47 2 v l.length (l.flatMap sltC)) : SltU B w.heap.size w v l := by
  rcases sltB_own h rfl with h | ⟨q, cap, e, hq, h⟩
  · exact .inl h
  · exact .inr ⟨q, cap, e, ⟨hq, h.lt⟩, h⟩
theorem SltU.at {a : Option Addr} {n cap : Nat} (h : SltU B E w (.slice a n cap) l) (hn : n = l.length) {i : Nat} (hi : i < l.length) : ∃ q, a = some ⟨q, 0, none⟩ ∧ (B ≤ q ∧ q < E) ∧ SltB w q l := by
  rcases h with ⟨_, rfl⟩ | ⟨q, c, e, hq, h⟩
  · cases hi
  · injection e with e1 _ _
    exact ⟨q, e1, hq, h⟩
theorem SltU.mk {q cap n : Nat} (hn : n = l.length) (hq : B ≤ q ∧ q < E) (h : SltB w q l) : SltU B E w (.slice (some ⟨q, 0, none⟩) n cap) l := by
  subst hn
  exact .inr ⟨q, cap, rfl, hq, h⟩
end
abbrev betw (B E : Nat) : Nat → Prop := fun b => B ≤ b ∧ b < E
theorem get_one {x : Int} {L l2 : List SlotV} {b : Bool} (h : (b = true ∧ (x, l2) ∈ [(x, L)]) ∨ (b = false ∧ ¬ hasM [(x, L)] x ∧ l2 = [])) : b = true ∧ l2 = L := by
  rcases h with ⟨h, h2⟩ | ⟨_, h, _⟩
  · injection List.mem_singleton.1 h2 with _ h2
    exact ⟨h, h2⟩
  · exact absurd ⟨L, List.mem_cons_self ..⟩ h
def plainS (l : List Int) : List SlotV := l.map fun n => ⟨false, n⟩
theorem plain_at {l : List Int} {i : Nat} (hi : i < l.length) (h2 : i < (plainS l).length) : (plainS l)[i] = ⟨false, l[i]⟩ := List.getElem_map (fun n => (⟨false, n⟩ : SlotV)) (h := h2)
set_option maxRecDepth 100000 in
set_option maxHeartbeats 8000000 in
theorem heapOwn_c (a : Option Addr) (cap : Nat) (l : List Int) (w : World) (h : IntsIn w a l.length cap l) :
    Calls Try.prog 6 #[.slice a l.length cap] w fun e w' => e = .returned (.bool true) ∧ Below w.heap.size w w' := by
  obtain ⟨hv, hok, hln⟩ := h
  have HV := hideP hv
  have HOK := hideP hok
  clear hv hok
  by_cases hlen : 100 < l.length
  · have hlen' : (l.length : Int) > 100 := by omega
    go_enter Try.func6, Try.ntmps6
    go_wp2_with fail
    refine (awake_c _).mono ?_
    rintro e w0 ⟨rfl, hb0⟩
    have B0 := hideP hb0
    clear hb0
    go_wp2_with fail
    go_ret
    exact ⟨rfl, B0.out⟩
  have hlen' : ¬ (l.length : Int) > 100 := by omega
  obtain ⟨i0, hi, hz0, hz1, hz2⟩ := info_parts info_slot
  go_enter Try.func6, Try.ntmps6
  go_wp2_with fail
  refine (awake_c _).mono ?_
  rintro e w0 ⟨rfl, hb0⟩
  have B0 := hideP hb0
  clear hb0
  go_wp2_with fail
  refine (hnew_c 1000 _ (by decide) (by decide)).mono ?_
  rintro e w1 ⟨p, F, rfl, h1, hc1⟩
  have H1 : Hid (ArenaT w.heap.size F w1 p 1000 []) := h1.base B0.out.size
  have B1 : Hid (Below w.heap.size w w1) := B0.out.trans (hc1.below B0.out.size fun _ h => h.elim)
  clear h1 hc1 B0
  go_wp2_with fail
  -- the slots are laid
  go_loopw [5, 6] (fun v i wx => ∃ (j : Nat) (a1 : Option Addr) (c1 : Nat), i = .int .i64 j ∧ j ≤ l.length ∧ v = .slice a1 j c1 ∧ Hid (Ch noB w1 wx ∧ wx.ownsRow w1.heap.size 47 2 (.slice a1 j c1) j ((plainS (l.take j)).flatMap sltC))) (fun _ i _ => l.length - (intOf i).toNat)
  case atStart => exact ⟨0, none, 0, rfl, Nat.zero_le _, rfl, Ch.refl _ _, World.ownsRow_nil _ _ _ _⟩
  case round =>
    obtain ⟨j, a1, c1, rfl, hj, rfl, HJ⟩ := hrel
    by_cases hlt : j < l.length
    · have hjl : (j : Int) < (l.length : Int) := by omega
      have hj0 : (0 : Int) ≤ (j : Int) := by omega
      have hBx : Below w.heap.size w wr := B1.out.trans (HJ.out.1.below B1.out.size fun _ h => h.elim)
      obtain ⟨ao, c', e, hk⟩ := (HV.out.ch (Ch.of (S := noB) hBx) fun _ _ _ h => h).form
      injection e with e1 _ e2
      subst e1 e2
      obtain ⟨b, o, rfl, _, _, hcell⟩ := hk j hlt
      have hts : (plainS (l.take (j + 1))).flatMap sltC = (plainS (l.take j)).flatMap sltC ++ [.bool false, .int .i64 l[j]] := by
        rw [List.take_succ_eq_append_getElem hlt]
        unfold plainS
        rw [List.map_append, List.flatMap_append]
        rfl
      obtain ⟨x, hx⟩ : ∃ x, x = l[j] := ⟨_, rfl⟩
      rw [← hx] at hcell hts
      have HT := hideP hts
      clear hts hk hx hBx
      go_wp2_with (at_builtin; refine wpList_append_own_at _ rfl (.tmp 34) (.tmp 40) 32 rfl w1.heap.size 47 i0 _ 2 16 Try.underlying32 hi hz0 hz1 hz2 rfl (by decide) _ j _ rfl (HJ.out.2.alloc _) ⟨_, 0, none⟩ 1 1 [.bool false, .int .i64 x] rfl rfl (cells_newK _ _ _) (by simp [Value.oneCell']) (by unfold maxLen; omega) (by omega) (by rw [World.size_alloc]; have := HJ.out.1.size; omega) ?_)
      intro v2 w2 hown2 hgr2 _ _
      obtain ⟨a2, c2, rfl⟩ := row_shape hown2
      have HO2 := hideP hown2
      have HC2 : Hid (Ch noB w1 w2) := (HJ.out.1.alloc _).grown hgr2 fun q hq hl => by have := (HJ.out.2.lt q hq).1; omega
      clear hown2 hgr2
      go_wp2_with fail
      exact ⟨⟨j + 1, a2, c2, by go_num, by omega, rfl, HC2.out, by rw [HT.out]; exact HO2.out⟩, by simp [intOf]; omega⟩
    · have hjl : ¬ (j : Int) < (l.length : Int) := by omega
      obtain rfl : j = l.length := by omega
      have HJ2 : Hid (Ch noB w1 wr ∧ wr.ownsRow w1.heap.size 47 2 (.slice a1 l.length c1) l.length ((plainS l).flatMap sltC)) := by
        have := HJ.out
        rw [List.take_of_length_le (Nat.le_refl _)] at this
        exact this
      obtain ⟨w2, hw2⟩ : ∃ w2, w2 = wr := ⟨_, rfl⟩
      rw [← hw2] at HJ2 ⊢
      clear HJ hw2
      have hpl : (plainS l).length = l.length := by unfold plainS; rw [List.length_map]
      have H2 : Hid (ArenaT w.heap.size F w2 p 1000 []) := H1.out.no HJ2.out.1
      have B2 : Hid (Below w.heap.size w w2) := B1.out.trans (HJ2.out.1.below B1.out.size fun _ h => h.elim)
      have HS2 : Hid (SltV (fun b => w1.heap.size ≤ b) w2 (.slice a1 l.length c1) (plainS l)) := by
        have h := HJ2.out.2
        rw [← hpl] at h ⊢
        exact sltV_own h fun q hq => (h.lt q hq).1
      have HA := hideP (halloc_c w.heap.size p 1000 F (fun b => w1.heap.size ≤ b) [] _ (plainS l) w2 H2.out good_nil HS2.out (fun b h h2 => by have := (H1.out.lt b h2).2; omega) (fun s hs => by
        obtain ⟨n, hn, rfl⟩ := List.mem_map.1 hs
        exact HOK.out n hn) (by omega) (by decide))
      go_wp2_with fail
      refine HA.out.mono ?_
      rintro e w3 ⟨x, e0, M1, rfl, hR, F1, p1, p2, p3⟩
      obtain ⟨rfl, hx0, hx1, hxn, rfl⟩ := alloc_fits hR (bad_plain fun s hs => by obtain ⟨n, _, rfl⟩ := List.mem_map.1 hs; rfl) (by rw [used_nil]; omega)
      have H3 := hideP p1
      have P2 := hideP p2
      have P3 := hideP p3
      clear p1 p2 p3 hR HA
      have HU3 : Hid (SltU w1.heap.size w2.heap.size w3 (.slice a1 l.length c1) (plainS l)) := by
        refine (sltU_own (l := plainS l) (by have h := HJ2.out.2; rw [← hpl] at h ⊢; exact h)).ch P3.out fun b h1 h2 h => ?_
        have := (H1.out.lt b h).2
        omega
      have HF : Hid (∀ b, F1 b → ¬ betw w1.heap.size w2.heap.size b) := fun b h h2 => by
        have h2 : w1.heap.size ≤ b ∧ b < w2.heap.size := h2
        rcases P2.out b h with h | h
        · have := (H1.out.lt b h).2
          omega
        · omega
      have B3 : Hid (Below w.heap.size w w3) := B2.out.trans (P3.out.below B2.out.size fun b h => (H2.out.lt b h).1)
      have B12 : Hid (w.heap.size ≤ w1.heap.size) := B1.out.size
      clear P2 P3 H2 H1 B1 B2 HS2 HJ2
      go_wp2_with fail
      -- one writes on the slots that one gave
      go_loopw [9] (fun i wx => ∃ (j : Nat) (l1 : List SlotV), i = .int .i64 j ∧ j ≤ l.length ∧ l1.length = l.length ∧ Hid (Ch (betw w1.heap.size w2.heap.size) w3 wx ∧ SltU w1.heap.size w2.heap.size wx (.slice a1 l.length c1) l1)) (fun i _ => l.length - (intOf i).toNat)
      case atStart => exact ⟨0, plainS l, rfl, Nat.zero_le _, hpl, Ch.refl _ _, HU3.out⟩
      case round =>
        obtain ⟨j, l1, rfl, hj, hl1, HJ⟩ := hrel
        by_cases hlt : j < l.length
        · have hjl : (j : Int) < (l.length : Int) := by omega
          have hj0 : (0 : Int) ≤ (j : Int) := by omega
          obtain ⟨q, rfl, hq, hb⟩ := HJ.out.2.at hl1.symm (by omega : j < l1.length)
          have HN := hideP (hb.setN (by omega : j < l1.length) 7)
          have HQ := hideP hq
          obtain ⟨⟨g1, g2⟩, g3⟩ := hb.at (by omega : j < l1.length)
          have g4 := g3 (j * 2 + 1)
          clear hb g3 hq
          go_wp2_with fail
          have HC : Hid (Ch (betw w1.heap.size w2.heap.size) w3 (wr.setCell ⟨q, j * 2 + 1, none⟩ (.int .i64 7))) := HJ.out.1.set (fun _ => HQ.out) _ _
          exact ⟨⟨j + 1, _, by go_num, by omega, (List.length_set ..).trans hl1, HC.out, SltU.mk ((List.length_set ..).trans hl1).symm HQ.out HN.out⟩, by simp [intOf]; omega⟩
        · have hjl : ¬ (j : Int) < (l.length : Int) := by omega
          obtain rfl : j = l.length := by omega
          obtain ⟨w4, hw4⟩ : ∃ w4, w4 = wr := ⟨_, rfl⟩
          rw [← hw4] at HJ ⊢
          have H4 := hideP (H3.out.ch HJ.out.1 HF.out)
          have B4 : Hid (Below w.heap.size w w4) := B3.out.trans (HJ.out.1.below B3.out.size fun b h => by have h : w1.heap.size ≤ b ∧ _ := h; have := B12.out; omega)
          clear H3 HJ HU3 B3 hw4
          have HG : Hid (GoodM [(x, plainS l)]) := good_nil.push hxn hx0 (bad_plain fun s hs => by obtain ⟨n, _, rfl⟩ := List.mem_map.1 hs; rfl)
          have hone : ∀ k : Hp, k = [(x, plainS l)] → usedM k ≤ 1000000000 := by
            rintro k rfl
            show (plainS l).length + 1 + 0 ≤ 1000000000
            omega
          have HU := hideP (hone _ rfl)
          clear hone
          have HA := hideP (hget_c w.heap.size p 1000 F1 [(x, plainS l)] x w4 H4.out HG.out (by omega) hx1 HU.out)
          go_wp2_with fail
          refine HA.out.mono ?_
          rintro e w5 ⟨v, b, l2, rfl, hR, hown, hc⟩
          obtain ⟨rfl, rfl⟩ := get_one hR
          have HU5 := hideP (sltU_own hown)
          have H5 := hideP (H4.out.no hc)
          have B5 : Hid (Below w.heap.size w w5) := B4.out.trans (hc.below B4.out.size fun b h => h.elim)
          have HF5 : Hid (∀ b, F1 b → ¬ betw w4.heap.size w5.heap.size b) := fun b h h2 => by
            have h2 : w4.heap.size ≤ b ∧ b < w5.heap.size := h2
            have := (H4.out.lt b h).2
            omega
          have B45 : Hid (w.heap.size ≤ w4.heap.size) := B4.out.size
          rw [hpl] at hown
          obtain ⟨a2, c2, rfl⟩ := row_shape hown
          clear hown hc HA H4 B4 HF B12 hR hl1 hj hlt hjl
          go_wp2_with fail
          -- one writes on what one was told
          go_loopw [12] (fun i wx => ∃ (j : Nat) (l1 : List SlotV), i = .int .i64 j ∧ j ≤ l.length ∧ l1.length = l.length ∧ Hid (Ch (betw w4.heap.size w5.heap.size) w5 wx ∧ SltU w4.heap.size w5.heap.size wx (.slice a2 l.length c2) l1)) (fun i _ => l.length - (intOf i).toNat)
          case atStart => exact ⟨0, plainS l, rfl, Nat.zero_le _, hpl, Ch.refl _ _, HU5.out⟩
          case round =>
            obtain ⟨j, l1, rfl, hj, hl1, HJ⟩ := hrel
            by_cases hlt : j < l.length
            · have hjl : (j : Int) < (l.length : Int) := by omega
              have hj0 : (0 : Int) ≤ (j : Int) := by omega
              obtain ⟨q, rfl, hq, hb⟩ := HJ.out.2.at hl1.symm (by omega : j < l1.length)
              have HN := hideP (hb.setR (by omega : j < l1.length) true)
              have HQ := hideP hq
              obtain ⟨⟨g1, g2⟩, g3⟩ := hb.at (by omega : j < l1.length)
              have g4 := g3 (j * 2)
              clear hb g3 hq
              go_wp2_with fail
              have HC : Hid (Ch (betw w4.heap.size w5.heap.size) w5 (wr.setCell ⟨q, j * 2, none⟩ (.bool true))) := HJ.out.1.set (fun _ => HQ.out) _ _
              exact ⟨⟨j + 1, _, by go_num, by omega, (List.length_set ..).trans hl1, HC.out, SltU.mk ((List.length_set ..).trans hl1).symm HQ.out HN.out⟩, by simp [intOf]; omega⟩
            · have hjl : ¬ (j : Int) < (l.length : Int) := by omega
              obtain rfl : j = l.length := by omega
              obtain ⟨w6, hw6⟩ : ∃ w6, w6 = wr := ⟨_, rfl⟩
              rw [← hw6] at HJ ⊢
              have H6 := hideP (H5.out.ch HJ.out.1 HF5.out)
              have B6 : Hid (Below w.heap.size w w6) := B5.out.trans (HJ.out.1.below B5.out.size fun b h => by have h : w4.heap.size ≤ b ∧ _ := h; have := B45.out; omega)
              clear H5 HJ HU5 B5 hw6 HF5 B45
              have HA := hideP (hget_c w.heap.size p 1000 F1 [(x, plainS l)] x w6 H6.out HG.out (by omega) hx1 HU.out)
              go_wp2_with fail
              refine HA.out.mono ?_
              rintro e w7 ⟨v, b, l2, rfl, hR, hown, hc⟩
              obtain ⟨rfl, rfl⟩ := get_one hR
              have HU7 := hideP (sltU_own hown)
              have B7 : Hid (Below w.heap.size w w7) := B6.out.trans (hc.below B6.out.size fun b h => h.elim)
              have hv7 := HV.out.ch (Ch.of (S := noB) B7.out) fun _ _ _ h => h
              have HV7 := hideP hv7
              rw [hpl] at hown
              obtain ⟨a3, c3, rfl⟩ := row_shape hown
              clear hown hc HA H6 B6 hR hl1 hj hlt hjl hv7 HG HU
              go_wp2_with fail
              go_loopw [15] (fun i wx => ∃ j : Nat, i = .int .i64 j ∧ j ≤ l.length ∧ Hid (Ch noB w7 wx)) (fun i _ => l.length - (intOf i).toNat)
              case atStart => exact ⟨0, rfl, Nat.zero_le _, Ch.refl _ _⟩
              case round =>
                obtain ⟨j, rfl, hj, HC⟩ := hrel
                by_cases hlt : j < l.length
                · have hjl : (j : Int) < (l.length : Int) := by omega
                  have hj0 : (0 : Int) ≤ (j : Int) := by omega
                  have hlp : j < (plainS l).length := by omega
                  obtain ⟨q, rfl, hq, hb⟩ := (HU7.out.ch HC.out fun _ _ _ h => h).at hpl.symm hlp
                  obtain ⟨⟨g1, g2⟩, _⟩ := hb.at hlp
                  rw [plain_at hlt hlp] at g1 g2
                  obtain ⟨ao, c', e, hk⟩ := (HV7.out.ch HC.out fun _ _ _ h => h).form
                  injection e with e1 _ e2
                  subst e1 e2
                  obtain ⟨b, o, rfl, _, _, hcell⟩ := hk j hlt
                  obtain ⟨y, hy⟩ : ∃ y, y = l[j] := ⟨_, rfl⟩
                  rw [← hy] at hcell g2
                  simp only at g1 g2
                  clear hb hq hk hy
                  go_wp2_with fail
                  go_quiet (fail)
                  go_wp2_with fail
                  exact ⟨⟨j + 1, by go_num, by omega, HC.out.drewN _⟩, by simp [intOf]; omega⟩
                · have hjl : ¬ (j : Int) < (l.length : Int) := by omega
                  have B8 : Hid (Below w.heap.size w wr) := B7.out.trans (HC.out.below B7.out.size fun _ h => h.elim)
                  go_wp2_with fail
                  go_ret
                  exact ⟨rfl, B8.out⟩
end Go.Proofs.Ytcpmdbdppdnkkaa
