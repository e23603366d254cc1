/- graduslaw16.HeapGone: the walk. -/
import Derived.Test.YtcpmdbdppdnkkaaHpO
namespace Go.Proofs.Ytcpmdbdppdnkkaa
open Go.RowKit

theorem made_slots (n : Nat) : (madeCells #[.bool false, .int .i64 0] (n * 2)).toList = (List.replicate n (⟨false, 0⟩ : SlotV)).flatMap sltC := by
  induction n with
  | zero => simp [madeCells]
  | succ n ih =>
    rw [List.replicate_succ', List.flatMap_append, ← ih]
    have e : (n + 1) * 2 = n * 2 + 1 + 1 := by omega
    have m0 : n * 2 % 2 = 0 := by omega
    have m1 : (n * 2 + 1) % 2 = 1 := by omega
    rw [e]
    simp [madeCells, List.range_succ, Array.toList_range, sltC, m0, m1]
theorem info_int : (Try.prog.info? 3).map (fun i => (i.zero, i.size, i.bytes)) = some (some (.int .i64 0), 1, 8) := by kernel_rfl
theorem to_twenty (x : Int) : ∃ k : Nat, (wrap64 (x.tmod 20 + 20)).tmod 20 = (k : Int) ∧ k < 20 := by
  have h1 : -20 < x.tmod 20 ∧ x.tmod 20 < 20 := by
    rcases Int.le_total 0 x with h | h
    · rw [Int.tmod_eq_emod_of_nonneg h]
      omega
    · have h2 : x.tmod 20 = -((-x).tmod 20) := by rw [Int.neg_tmod, Int.neg_neg]
      rw [h2, Int.tmod_eq_emod_of_nonneg (by omega)]
      omega
  have h2 : wrap64 (x.tmod 20 + 20) = x.tmod 20 + 20 := by unfold wrap64; omega
  rw [h2, Int.tmod_eq_emod_of_nonneg (by omega)]
  exact ⟨((x.tmod 20 + 20) % 20).toNat, by omega, by omega⟩
/-- What Alloc of plain slots leaves of it. -/
theorem refs_stay {B n c : Nat} {wA w' : World} {a : Option Addr} {rs : List Int} {F F1 : Nat → Prop} (hb : ∀ q, (Value.slice a n c).ownBlock = some q → ¬ F q) (hr : wA.ownsRow B 3 1 (.slice a n c) n (rs.map fun r => .int .i64 r)) (h2 : ∀ b, F1 b → F b ∨ wA.heap.size ≤ b) (h3 : Ch F wA w') :
    w'.ownsRow B 3 1 (.slice a n c) n (rs.map fun r => .int .i64 r) ∧ ∀ q, (Value.slice a n c).ownBlock = some q → ¬ F1 q := by
  refine ⟨h3.row hr hb, fun q hq h => ?_⟩
  rcases h2 q h with h | h
  · exact hb q hq h
  · have := (hr.lt q hq).2
    omega
/-- An arena, what it holds, and a row of one's own of as many references. -/
def RefsT (B : Nat) (w : World) (p cap : Nat) (M : Hp) (a : Option Addr) (n c : Nat) (rs : List Int) : Prop := ∃ F, ArenaT B F w p cap M ∧ GoodM M ∧ rs.length = n ∧ (∀ r ∈ rs, 0 ≤ r ∧ r ≤ 9223372036854775807) ∧ w.ownsRow B 3 1 (.slice a n c) n (rs.map fun r => .int .i64 r) ∧ ∀ q, (Value.slice a n c).ownBlock = some q → ¬ F q
theorem get_none {x : Int} {b : Bool} {l2 : List SlotV} (h : (b = true ∧ (x, l2) ∈ ([] : Hp)) ∨ (b = false ∧ ¬ hasM [] x ∧ l2 = [])) : b = false := by
  rcases h with ⟨_, h⟩ | ⟨h, _⟩
  · cases h
  · exact h
theorem used_none : usedM ([] : Hp) ≤ 1000000000 := by decide
section
variable {B p cap n c : Nat} {w w' : World} {M : Hp} {a : Option Addr} {rs : List Int}
theorem RefsT.no (h : RefsT B w p cap M a n c rs) (hc : Ch noB w w') : RefsT B w' p cap M a n c rs := by
  obtain ⟨F, h1, h2, h3, h4, h5, h6⟩ := h
  exact ⟨F, h1.no hc, h2, h3, h4, hc.row h5 fun _ _ h => h, h6⟩
theorem RefsT.at (h : RefsT B w p cap M a n c rs) {j : Nat} (hj : j < rs.length) : ∃ q, a = some ⟨q, 0, none⟩ ∧ w.cell? ⟨q, j, none⟩ = some (.int .i64 rs[j]) ∧ 0 ≤ rs[j] ∧ rs[j] ≤ 9223372036854775807 := by
  obtain ⟨F, h1, h2, h3, h4, h5, h6⟩ := h
  have hh := h5
  have hb4 := h4 _ (List.getElem_mem hj)
  rcases h5.2 with ⟨_, h0⟩ | ⟨q, cap, cur, e, hq, hb, _⟩
  · omega
  · injection e with e _ _
    refine ⟨q, e, ?_, hb4⟩
    subst e
    have c1 := hh.cellAt j (by omega)
    rw [cell_of_row _ _ _ _ _ _ hb] at c1 ⊢
    rw [c1, List.getElem?_map, List.getElem?_eq_getElem hj]
    rfl
theorem RefsT.bad (h : RefsT B w p cap [] a n c rs) (l : List SlotV) (m : Nat) (hm : l.length = m) (hbad : ∃ s ∈ l, s.ref = true) (hok : okSlots l) (hl : l.length ≤ 1000000) (hBw : B ≤ w.heap.size) :
    Calls Try.prog 14 #[.pointer (some ⟨p, 0, none⟩), .slice (some ⟨w.heap.size, 0, none⟩) m m] (w.alloc (.cells (l.flatMap sltC).toArray 47)) fun e w' => e = .returned (.tuple #[.int .i64 0, .int .i64 1]) ∧ RefsT B w' p cap [] a n c rs ∧ Below B w w' := by
  obtain ⟨F, g1, g2, g3, g4, g5, g6⟩ := h
  refine (halloc_c B p cap F (fun b => b = w.heap.size) [] _ l _ (g1.al (.cells (l.flatMap sltC).toArray 47)) good_nil (sltV_made w l m hm) (fun b h h2 => by have := (g1.lt b h2).2; omega) hok hl used_none).mono ?_
  rintro e w' ⟨x, e0, M', rfl, hR, F', p1, p2, p3⟩
  obtain ⟨s, hs, hr⟩ := hbad
  obtain ⟨rfl, rfl, rfl⟩ := alloc_bad hR ⟨s, hs, hr, has_nil⟩
  have hst := refs_stay g6 (((Ch.refl noB w).alloc _).row g5 fun _ _ h => h) p2 p3
  exact ⟨rfl, ⟨F', p1, good_nil, g3, g4, hst.1, hst.2⟩, (((Ch.refl F w).alloc _).trans p3 fun _ _ h => h).below hBw fun b hb => (g1.lt b hb).1⟩
theorem RefsT.add {x : Int} {w2 w3 : World} {F1 : Nat → Prop} {a2 : Option Addr} {c2 : Nat} {o : Obj} (h1 : ArenaT B F1 w2 p cap M) (hg : GoodM M) (hn : rs.length = n) (h4 : ∀ r ∈ rs, 0 ≤ r ∧ r ≤ 9223372036854775807) (h0 : 0 ≤ x) (hx : x ≤ 9223372036854775807) (h6 : ∀ q, (Value.slice a n c).ownBlock = some q → ¬ F1 q)
    (hown : w3.ownsRow B 3 1 (.slice a2 (n + 1) c2) (n + 1) ((rs.map fun r => Value.int .i64 r) ++ [.int .i64 x])) (hgr : (w2.alloc o).grownBy w3 (Value.slice a n c).ownBlock) (hloc : (Value.slice a2 (n + 1) c2).ownBlock = (Value.slice a n c).ownBlock ∨ (Value.slice a2 (n + 1) c2).ownBlock = some (w2.heap.size + 1)) :
    RefsT B w3 p cap M a2 (n + 1) c2 (rs ++ [x]) ∧ Ch (fun b => (Value.slice a n c).ownBlock = some b) w2 w3 := by
  have hc : Ch (fun b => (Value.slice a n c).ownBlock = some b) w2 w3 := ((Ch.refl _ w2).alloc o).grown hgr fun q hq _ => hq
  refine ⟨⟨F1, h1.ch hc fun b hb e => h6 b e hb, hg, by simp [hn], fun r hr => ?_, by rw [List.map_append]; exact hown, fun q hq hF => ?_⟩, hc⟩
  · rcases List.mem_append.1 hr with hr | hr
    · exact h4 r hr
    · rw [List.mem_singleton.1 hr]
      exact ⟨h0, hx⟩
  · rcases hloc with e | e
    · exact h6 q (e ▸ hq) hF
    · rw [e] at hq
      injection hq with hq
      have := (h1.lt q hF).2
      omega
end
set_option maxRecDepth 100000 in
set_option maxHeartbeats 8000000 in
theorem heapGone_c (a : Option Addr) (cap : Nat) (l : List Int) (probe : Int) (w : World) (h : IntsIn w a l.length cap l) (hp0 : -9223372036854775808 ≤ probe) (hp1 : probe ≤ 9223372036854775807) :
    Calls Try.prog 7 #[.slice a l.length cap, .int .i64 probe] w fun e w' => e = .returned (.bool true) ∧ Below w.heap.size w w' := by
  obtain ⟨hv, hok, hln⟩ := h
  have HV := hideP hv
  have HOK := hideP hok
  clear hv hok
  by_cases hlen : 50 < l.length
  · have hlen' : (l.length : Int) > 50 := by omega
    go_enter Try.func7, Try.ntmps7
    go_wp2_with fail
    refine (awake_c _).mono ?_
    rintro e w0 ⟨rfl, hb0⟩
    have B0 := hideP hb0
    clear hb0
    go_wp2_with fail
    go_ret
    exact ⟨rfl, B0.out⟩
  have hlen' : ¬ (l.length : Int) > 50 := by omega
  obtain ⟨i0, hi, hz0, hz1, hz2⟩ := info_parts info_slot
  go_enter Try.func7, Try.ntmps7
  go_wp2_with fail
  refine (awake_c _).mono ?_
  rintro e w0 ⟨rfl, hb0⟩
  have B0 := hideP hb0
  clear hb0
  go_wp2_with fail
  refine (hnew_c 2000 _ (by decide) (by decide)).mono ?_
  rintro e w1 ⟨p, F, rfl, h1, hc1⟩
  have H1 : Hid (ArenaT w.heap.size F w1 p 2000 []) := h1.base B0.out.size
  have B1 : Hid (Below w.heap.size w w1) := B0.out.trans (hc1.below B0.out.size fun _ h => h.elim)
  clear h1 hc1 B0
  go_wp2_with fail
  obtain ⟨i1, hi1, hj0, hj1, hj2⟩ := info_parts info_int
  go_loopw [7, 8] (fun v i wx => ∃ (j : Nat) (a1 : Option Addr) (c1 : Nat) (rs : List Int) (M : Hp), i = .int .i64 j ∧ j ≤ l.length ∧ v = .slice a1 j c1 ∧ usedM M ≤ 20 * j ∧ Hid (RefsT w.heap.size wx p 2000 M a1 j c1 rs) ∧ Hid (Below w.heap.size w wx)) (fun _ i _ => l.length - (intOf i).toNat)
  case atStart => exact ⟨0, none, 0, [], [], rfl, Nat.zero_le _, rfl, Nat.le_refl _, ⟨F, H1.out, good_nil, rfl, (fun _ h => nomatch h), World.ownsRow_nil _ _ _ _, fun q h => by cases h⟩, B1.out⟩
  case round =>
    obtain ⟨j, a1, c1, rs, M, rfl, hj, rfl, hu, HR, HB⟩ := hrel
    by_cases hlt : j < l.length
    · have hjl : (j : Int) < (l.length : Int) := by omega
      have hjz : (0 : Int) ≤ (j : Int) := by omega
      obtain ⟨ao, c', e, hk⟩ := (HV.out.ch (Ch.of (S := noB) HB.out) fun _ _ _ h => h).form
      injection e with e1 _ e2
      subst e1 e2
      obtain ⟨b, o, rfl, _, _, hcell⟩ := hk j hlt
      obtain ⟨x, hx⟩ : ∃ x, x = l[j] := ⟨_, rfl⟩
      have hxb := HOK.out x (hx ▸ List.getElem_mem hlt)
      rw [← hx] at hcell
      clear hk hx
      obtain ⟨k, hk, hk20⟩ := to_twenty x
      obtain ⟨Fj, g1, g2, g3, g4, g5, g6⟩ := HR.out
      have G1 := hideP g1
      have G2 := hideP g2
      have G4 := hideP g4
      have G5 : Hid (wr.ownsRow w.heap.size 3 1 (.slice a1 j c1) j (rs.map fun r => .int .i64 r)) := g5
      have G6 := hideP g6
      clear g1 g2 g4 g5 g6 HR
      go_wp2_with (at_make; refine wpList_make_full _ rfl (.tmp 48) (.tmp 48) 32 rfl wr.heap.size 47 i0 (.agg #[.bool false, .int .i64 0]) 2 Try.underlying32 hi hz0 hz1 .i64 .i64 _ _ k rfl rfl rfl rfl (by rw [hz2]; omega) (by unfold maxLen; omega) (Nat.le_refl _) ?_)
      intro wA hown hgrow
      rw [made_slots] at hown
      have HCA : Hid (Ch noB wr wA) := (Ch.refl noB wr).grown hgrow fun q hq => by cases hq
      have HSA : Hid (SltV (fun b => wr.heap.size ≤ b) wA (.slice (some ⟨wr.heap.size, 0, none⟩) k k) (List.replicate k (⟨false, 0⟩ : SlotV))) := sltV_own (by rw [List.length_replicate]; exact hown) fun q hq => (hown.lt q hq).1
      have HAL := hideP (halloc_c w.heap.size p 2000 Fj (fun b => wr.heap.size ≤ b) M _ (List.replicate k ⟨false, 0⟩) wA (G1.out.no HCA.out) G2.out HSA.out (fun b h h2 => by have := (G1.out.lt b h2).2; omega) (fun s hs => by rw [(List.mem_replicate.1 hs).2]; decide) (by rw [List.length_replicate]; omega) (by omega))
      clear hown hgrow
      go_wp2_with fail
      refine HAL.out.mono ?_
      rintro e w2 ⟨y, e0, M1, rfl, hR, F1, p1, p2, p3⟩
      obtain ⟨rfl, hy0, hy1, hyn, rfl⟩ := alloc_fits hR (bad_plain fun s hs => by rw [(List.mem_replicate.1 hs).2]) (by rw [List.length_replicate]; omega)
      have HP := hideP (refs_stay G6.out (HCA.out.row G5.out fun _ _ h => h) p2 p3)
      have P1 := hideP p1
      have P1b : Hid (∀ b, F1 b → b < w2.heap.size) := fun b hb => (p1.lt b hb).2
      have G2' := hideP (G2.out.push hyn hy0 (bad_plain (l := List.replicate k ⟨false, 0⟩) fun s hs => by rw [(List.mem_replicate.1 hs).2]))
      have HB2 : Hid (Below w.heap.size w w2) := (HB.out.trans (HCA.out.below HB.out.size fun _ h => h.elim)).trans (p3.below (by have := HB.out.size; have := HCA.out.size; omega) fun b hb => (G1.out.lt b hb).1)
      have hus : usedM ((y, List.replicate k (⟨false, 0⟩ : SlotV)) :: M) ≤ 20 * (j + 1) := by
        rw [used_push, List.length_replicate]
        omega
      clear p1 p2 p3 hR HAL HSA HCA G1 G2 G5 G6 HB
      go_wp2_with (at_builtin; refine wpList_append_own_at _ rfl (.tmp 55) (.tmp 57) 31 rfl w.heap.size 3 i1 _ 1 8 Try.underlying31 hi1 hj0 hj1 hj2 rfl (by decide) _ j _ rfl (HP.out.1.alloc _) ⟨_, 0, none⟩ 1 1 [.int .i64 y] rfl rfl (cells_newK _ _ _) (by simp [Value.oneCell']) (by unfold maxLen; omega) (by omega) (by rw [World.size_alloc]; have := HB2.out.size; omega) ?_)
      intro v3 w3 hown3 hgr3 hl1 hl2
      obtain ⟨a2, c2, rfl⟩ := row_shape hown3
      have hra := RefsT.add P1.out G2'.out g3 G4.out hy0 hy1 HP.out.2 hown3 hgr3 hl2
      have HR3 := hideP hra.1
      have HB3 : Hid (Below w.heap.size w w3) := HB2.out.trans (hra.2.below HB2.out.size fun q hq => (HP.out.1.lt q hq).1)
      clear hra hown3 hgr3 hl1 hl2 HP P1 P1b G2' HB2 G4
      go_wp2_with fail
      exact ⟨⟨j + 1, a2, c2, _, _, by go_num, by omega, rfl, hus, HR3.out, HB3.out⟩, by simp [intOf]; omega⟩
    · have hjl : ¬ (j : Int) < (l.length : Int) := by omega
      obtain rfl : j = l.length := by omega
      obtain ⟨w2, hw2⟩ : ∃ w2, w2 = wr := ⟨_, rfl⟩
      rw [← hw2] at HR HB ⊢
      clear hw2 H1 B1
      obtain ⟨F2, g1, g2, g3, g4, g5, g6⟩ := HR.out
      have G1 := hideP g1
      have G2 := hideP g2
      have G4 := hideP g4
      have G5 : Hid (w2.ownsRow w.heap.size 3 1 (.slice a1 l.length c1) l.length (rs.map fun r => .int .i64 r)) := g5
      have G6 := hideP g6
      clear g1 g2 g4 g5 g6 HR
      go_wp2_with fail
      refine (hcollect_c w.heap.size p 2000 F2 (fun _ => False) M _ [] _ G1.out G2.out (intV_nil _ _) (fun _ h => h.elim) (fun _ h => nomatch h) (by decide) (by omega)).mono ?_
      rintro e w3 ⟨M3, rfl, hs, F3, p1, p2, p3⟩
      obtain rfl := stays_none hs
      have hst := refs_stay G6.out G5.out p2 p3
      have HR : Hid (RefsT w.heap.size w3 p 2000 [] a1 l.length c1 rs) := ⟨F3, p1, good_nil, g3, G4.out, hst.1, hst.2⟩
      have HB3 : Hid (Below w.heap.size w w3) := HB.out.trans (p3.below HB.out.size fun b h => (G1.out.lt b h).1)
      clear p1 p2 p3 hs hst G1 G2 G4 G5 G6 HB
      go_wp2_with fail
      go_loopw [12] (fun i wx => ∃ j : Nat, i = .int .i64 j ∧ j ≤ l.length ∧ Hid (RefsT w.heap.size wx p 2000 [] a1 l.length c1 rs) ∧ Hid (Below w.heap.size w wx)) (fun i _ => l.length - (intOf i).toNat)
      case atStart => exact ⟨0, rfl, Nat.zero_le _, HR.out, HB3.out⟩
      case round =>
        clear HR HB3 hu hj hlt hjl
        obtain ⟨j, rfl, hj, HR, HB⟩ := hrel
        by_cases hlt : j < l.length
        · have hjl : (j : Int) < (l.length : Int) := by omega
          have hjz : (0 : Int) ≤ (j : Int) := by omega
          have hjr : j < rs.length := by omega
          obtain ⟨q, rfl, hcell, hx0, hx1⟩ := HR.out.at hjr
          obtain ⟨x, hx⟩ : ∃ x, x = rs[j] := ⟨_, rfl⟩
          rw [← hx] at hcell hx0 hx1
          obtain ⟨F4, g1, g2, g3', g4, g5, g6⟩ := HR.out
          have G1 := hideP g1
          have HG := hideP (hget_c w.heap.size p 2000 F4 [] x wr g1 good_nil (by omega) hx1 used_none)
          clear g1 g2 g3' g4 g5 g6 hx
          go_wp2_with fail
          refine HG.out.mono ?_
          rintro e w4 ⟨v4, b, l4, rfl, hR, hown, hc⟩
          obtain rfl := get_none hR
          have hcell4 := hc.cell hcell fun h => h
          have HR4 := hideP (HR.out.no hc)
          have HB4 : Hid (Below w.heap.size w w4) := HB.out.trans (hc.below HB.out.size fun _ h => h.elim)
          clear hown hc hR HG G1 HR HB hcell
          go_wp2_with fail
          have HAL := hideP (HR4.out.bad [⟨true, x⟩] 1 rfl ⟨_, List.mem_cons_self .., rfl⟩ (fun s hs => by obtain rfl := List.mem_singleton.1 hs; exact ⟨by show -9223372036854775808 ≤ x; omega, hx1⟩) (by simp) HB4.out.size)
          refine HAL.out.mono ?_
          rintro e w5 ⟨rfl, hR5, hB5⟩
          have HR5 := hideP hR5
          have HB5 : Hid (Below w.heap.size w w5) := HB4.out.trans hB5
          clear HAL hR5 hB5 HR4 HB4
          go_wp2_with fail
          exact ⟨⟨j + 1, by go_num, by omega, HR5.out, HB5.out⟩, by simp [intOf]; omega⟩
        · have hjl : ¬ (j : Int) < (l.length : Int) := by omega
          obtain rfl : j = l.length := by omega
          obtain ⟨F4, g1, g2, g3', g4, g5, g6⟩ := HR.out
          have HG := hideP (hget_c w.heap.size p 2000 F4 [] probe wr g1 good_nil hp0 hp1 used_none)
          clear g1 g2 g3' g4 g5 g6
          go_wp2_with fail
          refine HG.out.mono ?_
          rintro e w4 ⟨v4, b, l4, rfl, hR, hown, hc⟩
          obtain rfl := get_none hR
          have HR4 := hideP (HR.out.no hc)
          have HB4 : Hid (Below w.heap.size w w4) := HB.out.trans (hc.below HB.out.size fun _ h => h.elim)
          clear hown hc hR HG HR HB
          go_wp2_with fail
          have HAL := hideP (HR4.out.bad [⟨false, 0⟩, ⟨true, probe⟩] 2 rfl ⟨⟨true, probe⟩, by simp, rfl⟩ (fun s hs => by simp at hs; rcases hs with rfl | rfl; exact ⟨by decide, by decide⟩; exact ⟨hp0, hp1⟩) (by simp) HB4.out.size)
          refine HAL.out.mono ?_
          rintro e w5 ⟨rfl, hR5, hB5⟩
          have HB5 : Hid (Below w.heap.size w w5) := HB4.out.trans hB5
          obtain ⟨F5, g1, _⟩ := hR5
          have HO := hideP (hobjs_c w.heap.size p 2000 F5 [] w5 g1 good_nil used_none)
          clear HAL hB5 HR4 HB4 g1
          go_wp2_with fail
          refine HO.out.mono ?_
          rintro e w6 ⟨rfl, hc⟩
          have HB6 : Hid (Below w.heap.size w w6) := HB5.out.trans (hc.below HB5.out.size fun _ h => h.elim)
          clear hc HO HB5
          go_wp2_with fail
          go_ret
          exact ⟨rfl, HB6.out⟩
end Go.Proofs.Ytcpmdbdppdnkkaa
