/- graduslaw16.HeapChains: the walk. -/
import Derived.Test.YtcpmdbdppdnkkaaHpK
namespace Go.Proofs.Ytcpmdbdppdnkkaa
open Go.RowKit

/-- A product that is told. -/
theorem wpList_mul {P : Program} (w : World) {ops : Array Oper} {rest : List Oper} {o : Oper} {act : Act} {Q : Exit → Act → World → Prop} (hg : o.guard = none) (t u : TypeId) (x y : Operand) (hop : o.op = Op.binOp BinOp.mul t x y u) (a b c : Int) (hx : act.eval x = .int .i64 a) (hy : act.eval y = .int .i64 b) (hc : IntKind.i64.wrap (a * b) = c)
    (hK : wpList P ops Q rest (act.put o.dst (.int .i64 c)) w) : wpList P ops Q (o :: rest) act w := by
  refine wpList_plain hg fun K hK' => ?_
  unfold Oper.wp
  simp [execOp, hop, hx, hy, binOp, eqGuard, Op.intArith, hc]
  exact hK' _ _ hK
/-- A guard for the walk: the operation that writes slot n. -/
theorem at_dst {P : Program} {ops : Array Oper} {Q : Exit → Act → World → Prop} {rest : List Oper} {a : Act} {w : World} {op : Op} {t : TypeId} {pos : String} {af : Array Edge} {g : Option (Nat × Bool)} (n : Nat) (h : wpList P ops Q (⟨some n, op, t, pos, af, g⟩ :: rest) a w) : wpList P ops Q (⟨some n, op, t, pos, af, g⟩ :: rest) a w := h
theorem row_whole {w : World} {B e sz n g : Nat} {xs : List Value} (h : w.ownsRow B e sz (.slice (some ⟨g, 0, none⟩) n n) n xs) : w.heap[g]? = some (.cells xs.toArray e) := by
  obtain ⟨hl, h | ⟨g', cap, cur, e1, hg, hh, _, _, hc, ht⟩⟩ := h
  · cases h.1
  · injection e1 with e1 _ e2
    injection e1 with e1
    injection e1 with e1 _ _
    subst e1 e2
    have : cur.toList = xs := by rw [← ht, List.take_of_length_le (by rw [← hc]; simp)]
    rw [← this]
    exact hh
theorem link_snoc (k : Nat) (u : SlotV) : (List.replicate k (⟨false, 0⟩ : SlotV) ++ [u]).flatMap sltC = (List.replicate k (⟨false, 0⟩ : SlotV)).flatMap sltC ++ sltC u := by simp
theorem link_row {w : World} {N k : Nat} {xs : List Int} {t : TypeId} (h : w.heap[N]? = some (.cells ((List.replicate (k + 1) (⟨false, 0⟩ : SlotV)).flatMap sltC).toArray t)) (b : Bool) (hb : b = !xs.isEmpty) (z : Int) (hz : z = xs.headD 0) :
    ((w.setCell ⟨N, k * 2, none⟩ (.bool b)).setCell ⟨N, k * 2 + 1, none⟩ (.int .i64 z)).heap[N]? = some (.cells ((linkS (k + 1) xs).flatMap sltC).toArray t) := by
  have h2 := cells_setCell (o := k * 2 + 1) (u := .int .i64 z) (cells_setCell (o := k * 2) (u := .bool b) h)
  rw [h2]
  have hl : ((List.replicate k (⟨false, 0⟩ : SlotV)).flatMap sltC).length = k * 2 := by rw [slt_len, List.length_replicate]
  rw [List.replicate_succ', link_snoc]
  unfold linkS
  rw [Nat.add_sub_cancel, link_snoc, List.setIfInBounds_toArray, List.setIfInBounds_toArray, List.set_append_right _ _ (by omega), List.set_append_right _ _ (by omega), hl, Nat.sub_self, Nat.add_sub_cancel_left, hb, hz]
  rfl
theorem sltV_block {w : World} {N c : Nat} {l : List SlotV} (h : w.heap[N]? = some (.cells (l.flatMap sltC).toArray 47)) : SltV (fun b => b = N) w (.slice (some ⟨N, 0, none⟩) l.length c) l := by
  refine .inr ⟨N, 0, c, rfl, rfl, lt_of_block h, fun i hi => ?_⟩
  obtain ⟨h1, h2⟩ := slt_get l i hi
  rw [Nat.zero_add, cell_of_row _ _ _ _ _ _ h, cell_of_row _ _ _ _ _ _ h, List.getElem?_toArray, List.getElem?_toArray]
  exact ⟨h1, h2⟩
theorem slots_zero {w : World} {N k : Nat} {t : TypeId} (h : w.heap[N]? = some (.cells ((List.replicate (k + 1) (⟨false, 0⟩ : SlotV)).flatMap sltC).toArray t)) : (w.cell? ⟨N, k * 2, none⟩ = some (.bool false) ∧ w.cell? ⟨N, k * 2 + 1, none⟩ = some (.int .i64 0)) ∧ (w.frozen? ⟨N, k * 2, none⟩ = false ∧ w.frozen? ⟨N, k * 2 + 1, none⟩ = false) ∧ N < w.heap.size := by
  obtain ⟨h1, h2⟩ := slt_get (List.replicate (k + 1) (⟨false, 0⟩ : SlotV)) k (by simp)
  refine ⟨⟨?_, ?_⟩, ⟨?_, ?_⟩, lt_of_block h⟩
  · rw [cell_of_row _ _ _ _ _ _ h, List.getElem?_toArray, h1]; simp
  · rw [cell_of_row _ _ _ _ _ _ h, List.getElem?_toArray, h2]; simp
  all_goals simp [World.frozen?, h]
theorem intV_made (w : World) (z : Int) : IntV (fun b => b = w.heap.size) (w.alloc (.cells #[.int .i64 z] 3)) (.slice (some ⟨w.heap.size, 0, none⟩) 1 1) [z] := by
  refine intV_own (B := w.heap.size) ⟨rfl, .inr ⟨w.heap.size, 1, #[.int .i64 z], rfl, Nat.le_refl _, heap_alloc_last _ _, Nat.le_refl _, by unfold maxLen; omega, rfl, rfl⟩⟩ fun q hq => by
    injection hq with hq
    exact hq.symm
theorem last_cons {x : Int} {xs : List Int} (h : xs ≠ []) : (x :: xs).getLastD 0 = xs.getLastD 0 := by
  cases xs with
  | nil => exact absurd rfl h
  | cons y ys => rfl
theorem last_snoc : ∀ {xs : List Int}, xs ≠ [] → ∃ ys, xs = ys ++ [xs.getLastD 0]
  | [], h => absurd rfl h
  | [x], _ => ⟨[], rfl⟩
  | x :: y :: ys, _ => by
    obtain ⟨zs, h⟩ := last_snoc (xs := y :: ys) (by simp)
    exact ⟨x :: zs, by rw [last_cons (by simp), List.cons_append, ← h]⟩
set_option maxRecDepth 100000 in
set_option maxHeartbeats 8000000 in
theorem heapChains_c (n s : Int) (w : World) (hn : (Lit.int .i64 n).wf = true) (hs : (Lit.int .i64 s).wf = true) :
    Calls Try.prog 5 #[.int .i64 n, .int .i64 s] w fun e w' => e = .returned (.bool true) ∧ Below w.heap.size w w' := by
  by_cases hin : n < 1 ∨ n > 200 ∨ s < 1 ∨ s > 20
  · go_enter Try.func5, Try.ntmps5
    go_wp2_with fail
    refine (awake_c _).mono ?_
    rintro e w0 ⟨rfl, hb0⟩
    have B0 := hideP hb0
    clear hb0
    go_wp2_with fail
    all_goals
      go_ret
      exact ⟨rfl, B0.out⟩
  have hn0 : ¬ n < 1 := by omega
  have hn2 : ¬ 200 < n := by omega
  have hs0 : ¬ s < 1 := by omega
  have hs2 : ¬ 20 < s := by omega
  clear hin
  obtain ⟨m, rfl⟩ : ∃ m : Nat, n = (m : Int) := ⟨n.toNat, by omega⟩
  obtain ⟨k, rfl⟩ : ∃ k : Nat, s = (k : Int) := ⟨s.toNat, by omega⟩
  have hmk : m * (k + 1) ≤ 4200 := by
    have h1 : m * (k + 1) ≤ 200 * 21 := Nat.mul_le_mul (by omega) (by omega)
    omega
  obtain ⟨C, hC⟩ : ∃ C, C = m * (k + 1) := ⟨_, rfl⟩
  have hmul : (m : Int) * ((k : Int) + 1) = (C : Int) := by rw [hC]; push_cast; rfl
  rw [← hC] at hmk
  have hprod : IntKind.i64.wrap ((m : Int) * ((k : Int) + 1)) = (C : Int) := by rw [hmul, IntKind.wrap_i64]; omega
  have HC := hideP hC
  have HMUL := hideP hmul
  clear hC hmul
  obtain ⟨i0, hi, hz0, hz1, hz2⟩ := info_parts info_slot
  go_enter Try.func5, Try.ntmps5
  go_wp2_with fail
  refine (awake_c _).mono ?_
  rintro e w0 ⟨rfl, hb0⟩
  have B0 := hideP hb0
  clear hb0
  go_wp2_with fail
  refine (hnew_c C _ (by omega) (by omega)).mono ?_
  rintro e w1 ⟨p, F, rfl, h1, hc1⟩
  rw [show ((C : Int)).toNat = C from Int.toNat_natCast C] at h1
  have H1 : Hid (ArenaT w.heap.size F w1 p C []) := h1.base B0.out.size
  have B1 : Hid (Below w.heap.size w w1) := B0.out.trans (hc1.below B0.out.size fun _ h => h.elim)
  clear h1 hc1 B0
  go_wp2_with fail
  obtain ⟨k', rfl⟩ : ∃ k', k = k' + 1 := ⟨k - 1, by omega⟩
  go_loopw [7, 8, 9] (fun l f i wx => ∃ (j : Nat) (xs : List Int) (F : Nat → Prop), i = .int .i64 j ∧ j ≤ m ∧ xs.length = j ∧ l = .int .i64 (xs.headD 0) ∧ f = .int .i64 (xs.getLastD 0) ∧ Hid (ArenaT w.heap.size F wx p C (chainM (k' + 1) xs)) ∧ Hid (GoodM (chainM (k' + 1) xs)) ∧ Hid (∀ x ∈ xs, 0 ≤ x ∧ x ≤ 9223372036854775807) ∧ Hid (Below w.heap.size w wx)) (fun _ _ i _ => m - (intOf i).toNat)
  case atStart => exact ⟨0, [], F, rfl, Nat.zero_le _, rfl, rfl, rfl, H1.out, good_nil, (fun _ h => nomatch h), B1.out⟩
  case round =>
    clear H1 B1
    obtain ⟨j, xs, Fj, rfl, hj, hxl, rfl, rfl, HA, HG, HX, HB⟩ := hrel
    by_cases hlt : j < m
    · have hjm : (j : Int) < (m : Int) := by omega
      have hj0 : (0 : Int) ≤ (j : Int) := by omega
      obtain ⟨z, hz⟩ : ∃ z, z = xs.headD 0 := ⟨_, rfl⟩
      obtain ⟨f, hf⟩ : ∃ f, f = xs.getLastD 0 := ⟨_, rfl⟩
      rw [← hz, ← hf]
      have HZ := hideP hz
      have HF := hideP hf
      clear hz hf
      go_wp2_with (at_make; refine wpList_make_full _ rfl (.tmp 47) (.tmp 47) 32 rfl wr.heap.size 47 i0 (.agg #[.bool false, .int .i64 0]) 2 Try.underlying32 hi hz0 hz1 .i64 .i64 _ _ (k' + 1) rfl rfl rfl rfl (by rw [hz2]; omega) (by unfold maxLen; omega) (Nat.le_refl _) ?_)
      intro wA hown hgrow
      rw [made_slots] at hown
      have HWA := hideP (row_whole hown)
      have HCA : Hid (Ch noB wr wA) := (Ch.refl noB wr).grown hgrow fun q hq => by cases hq
      obtain ⟨⟨s0, s1⟩, ⟨f0, f1⟩, hNl⟩ := slots_zero (row_whole hown)
      clear hown hgrow
      have hk0 : (0 : Int) ≤ (k' : Int) := by omega
      have hbb : decide (0 < j) = !xs.isEmpty := by
        cases xs with
        | nil => simp at hxl; simp; omega
        | cons _ _ => simp at hxl; simp; omega
      have HBB := hideP hbb
      have HXL := hideP hxl
      have hfit : (j + 1) * (k' + 2) ≤ C := by
        rw [HC.out]
        exact Nat.mul_le_mul_right _ hlt
      have hus : usedM (chainM (k' + 1) xs) + (k' + 1) + 1 ≤ C := by
        rw [chain_used (by omega), hxl]
        have : j * (k' + 1 + 1) + (k' + 1) + 1 = (j + 1) * (k' + 2) := by rw [Nat.add_mul, Nat.one_mul]; rfl
        omega
      have HUS := hideP hus
      clear hbb hxl hfit hus
      go_wp2_with fail
      obtain ⟨w3, hw3⟩ : ∃ w3, w3 = (wA.setCell ⟨wr.heap.size, k' * 2, none⟩ (.bool (decide (0 < j)))).setCell ⟨wr.heap.size, k' * 2 + 1, none⟩ (.int .i64 z) := ⟨_, rfl⟩
      rw [← hw3]
      have HW3 : Hid (w3.heap[wr.heap.size]? = some (.cells ((linkS (k' + 1) xs).flatMap sltC).toArray 47)) := by rw [hw3]; exact link_row HWA.out _ HBB.out z HZ.out
      have HC3 : Hid (Ch noB wr w3) := by rw [hw3]; exact (HCA.out.set (fun h => absurd h (Nat.lt_irrefl _)) _ _).set (fun h => absurd h (Nat.lt_irrefl _)) _ _
      have HS3 : Hid (SltV (fun b => b = wr.heap.size) w3 (.slice (some ⟨wr.heap.size, 0, none⟩) (k' + 1) (k' + 1)) (linkS (k' + 1) xs)) := by
        have := sltV_block (c := k' + 1) HW3.out
        rw [link_len (by omega)] at this
        exact this
      have HAL := hideP (halloc_c w.heap.size p C Fj (fun b => b = wr.heap.size) (chainM (k' + 1) xs) _ (linkS (k' + 1) xs) w3 (HA.out.no HC3.out) HG.out HS3.out (fun b hb h2 => by have := (HA.out.lt b h2).2; omega) (link_ok HX.out) (by rw [link_len (by omega)]; omega) (by have := HUS.out; omega))
      clear hw3 s0 s1 f0 f1 hNl HCA HWA HBB
      refine HAL.out.mono ?_
      rintro e w4 ⟨x, e0, M1, rfl, hR, F1, p1, p2, p3⟩
      obtain ⟨rfl, hy0, hy1, hyn, rfl⟩ := alloc_fits hR link_fine (by rw [link_len (by omega)]; exact HUS.out)
      have P1 : Hid (ArenaT w.heap.size F1 w4 p C (chainM (k' + 1) (x :: xs))) := p1
      have G1 : Hid (GoodM (chainM (k' + 1) (x :: xs))) := HG.out.push hyn hy0 link_fine
      have X1 : Hid (∀ y ∈ x :: xs, 0 ≤ y ∧ y ≤ 9223372036854775807) := fun y hy => by
        rcases List.mem_cons.1 hy with rfl | hy
        · exact ⟨hy0, hy1⟩
        · exact HX.out y hy
      have HB4 : Hid (Below w.heap.size w w4) := (HB.out.trans (HC3.out.below HB.out.size fun _ h => h.elim)).trans (p3.below (by have := HB.out.size; have := HC3.out.size; omega) fun b hb => (HA.out.lt b hb).1)
      clear p1 p2 p3 hR hyn HAL HS3 HW3 HC3 HA HG HX HB HUS
      by_cases hz : j = 0
      · subst hz
        obtain rfl : xs = [] := List.eq_nil_of_length_eq_zero HXL.out
        go_wp2_with fail
        go_roundw
        case measure => simp [intOf]; omega
        case rel => (repeat apply Exists.intro); exact ⟨⟨1, [x], F1, rfl, by omega, rfl, rfl, rfl, P1.out, G1.out, X1.out, HB4.out⟩, rfl⟩
      · have hjf : ((j : Int) == 0) = false := by simp; omega
        have hne : xs ≠ [] := by rintro rfl; exact hz HXL.out.symm
        have HNE := hideP hne
        clear hne hz
        go_wp2_with fail
        go_roundw
        case measure => simp [intOf]; omega
        case rel => (repeat apply Exists.intro); exact ⟨⟨j + 1, x :: xs, F1, by go_num, by omega, by rw [List.length_cons, HXL.out], rfl, by rw [last_cons HNE.out, HF.out], P1.out, G1.out, X1.out, HB4.out⟩, rfl⟩
    · have hjm : ¬ (j : Int) < (m : Int) := by omega
      obtain rfl : j = m := by omega
      have hne : xs ≠ [] := by
        rintro rfl
        simp at hxl
        omega
      obtain ⟨ys, hys⟩ := last_snoc hne
      obtain ⟨f, hf⟩ : ∃ f, f = xs.getLastD 0 := ⟨_, rfl⟩
      rw [← hf] at hys ⊢
      have hmf : (f, linkS (k' + 1) []) ∈ chainM (k' + 1) xs := by rw [hys]; exact chain_last f ys
      have hfb := HX.out f (by rw [hys]; simp)
      obtain ⟨z, hz⟩ : ∃ z, z = xs.headD 0 := ⟨_, rfl⟩
      have hzb : 0 ≤ z ∧ z ≤ 9223372036854775807 := HX.out z (by
        rw [hz]
        cases xs with
        | nil => exact absurd rfl hne
        | cons x xs => simp)
      rw [← hz]
      have hus : usedM (chainM (k' + 1) xs) = C := by rw [chain_used (by omega), hxl, HC.out]
      have hlen : (chainM (k' + 1) xs).length = j := by rw [chain_length, hxl]
      have HC1 : Hid (Calls Try.prog 12 #[.pointer (some ⟨p, 0, none⟩), .slice (some ⟨wr.heap.size, 0, none⟩) 1 1] (wr.alloc (.cells #[.int .i64 z] 3)) fun e w' => e = .returned (.int .i64 0) ∧ ∃ (M2 : Hp) (F2 : Nat → Prop), M2.Perm (chainM (k' + 1) xs) ∧ ArenaT w.heap.size F2 w' p C M2 ∧ Below w.heap.size w w') := by
        refine (hcollect_c w.heap.size p C Fj (fun b => b = wr.heap.size) _ _ [z] _ (HA.out.al _) HG.out (intV_made wr z) (fun b hb h2 => by have := (HA.out.lt b h2).2; omega) (fun q hq => by rw [List.mem_singleton] at hq; omega) (by simp) (by omega)).mono ?_
        rintro e w' ⟨M2, rfl, hs, F2, p1, p2, p3⟩
        have hp := chain_all HG.out hne (by rw [← hz]; exact hs)
        refine ⟨by rw [used_perm hp, Int.sub_self], M2, F2, hp, p1, (HB.out.alloc HB.out.size _).trans (p3.below (by rw [World.size_alloc]; have := HB.out.size; omega) fun b hb => (HA.out.lt b hb).1)⟩
      have HG0 := hideP HG.out
      have HMF := hideP hmf
      have HUS := hideP hus
      have HLEN := hideP hlen
      clear HA HG HB HX hys hne hf hz hmf hus hlen hxl
      go_wp2_with fail
      refine HC1.out.mono ?_
      rintro e w2 ⟨rfl, M2, F2, hp, hA2, hB2⟩
      have HP2 := hideP hp
      have K2 := hideP hA2
      have G2 : Hid (GoodM M2) := HG0.out.perm hp.symm
      have B2 := hideP hB2
      have HU2 : Hid (usedM M2 = C) := (used_perm hp).trans HUS.out
      have HO : Hid (Calls Try.prog 20 #[.pointer (some ⟨p, 0, none⟩)] w2 fun e w' => e = .returned (.int .i64 j) ∧ Ch noB w2 w') := by
        have := hobjs_c w.heap.size p C F2 M2 w2 hA2 G2.out (by rw [HU2.out]; omega)
        rw [hp.length_eq, HLEN.out] at this
        exact this
      clear hp hA2 hB2 HC1
      go_wp2_with fail
      refine HO.out.mono ?_
      rintro e w3 ⟨rfl, hc3⟩
      have K3 := hideP (K2.out.no hc3)
      have B3 : Hid (Below w.heap.size w w3) := B2.out.trans (hc3.below B2.out.size fun _ h => h.elim)
      have HGT : Hid (Calls Try.prog 18 #[.pointer (some ⟨p, 0, none⟩), .int .i64 f] w3 fun e w' => ∃ a c, e = .returned (.tuple #[.slice a (k' + 1) c, .bool true]) ∧ Ch noB w3 w') := by
        refine (hget_c w.heap.size p C F2 M2 f w3 K3.out G2.out (by omega) hfb.2 (by rw [HU2.out]; omega)).mono ?_
        rintro e w' ⟨v, b, l, rfl, h, ho, hc⟩
        have hm2 : (f, linkS (k' + 1) []) ∈ M2 := HP2.out.symm.mem_iff.1 HMF.out
        rcases h with ⟨rfl, hl⟩ | ⟨_, h, _⟩
        · rw [G2.out.uniq hl hm2, link_len (by omega)] at ho
          obtain ⟨a, c, rfl⟩ := row_shape ho
          exact ⟨a, c, rfl, hc⟩
        · exact absurd ⟨_, hm2⟩ h
      clear hc3 HO K2 B2
      go_wp2_with fail
      refine HGT.out.mono ?_
      rintro e w4 ⟨a4, c4, rfl, hc4⟩
      have K4 := hideP (K3.out.no hc4)
      have B4 : Hid (Below w.heap.size w w4) := B3.out.trans (hc4.below B3.out.size fun _ h => h.elim)
      clear hc4 HGT K3 B3
      obtain ⟨D, hD⟩ : ∃ D : Int, D = (C : Int) - ((k' : Int) + 1 + 1) := ⟨_, rfl⟩
      have hprod2 : IntKind.i64.wrap (((j : Int) - 1) * ((k' : Int) + 1 + 1)) = D := by
        have h1 := HMUL.out
        push_cast at h1
        have h2 : ((j : Int) - 1) * ((k' : Int) + 1 + 1) = D := by rw [Int.sub_mul, h1, Int.one_mul, hD]
        rw [h2, IntKind.wrap_i64]
        omega
      have HC4 : Hid (Calls Try.prog 12 #[.pointer (some ⟨p, 0, none⟩), .slice (some ⟨w4.heap.size, 0, none⟩) 1 1] (w4.alloc (.cells #[.int .i64 f] 3)) fun e w' => e = .returned (.int .i64 D) ∧ ∃ (F2 : Nat → Prop), ArenaT w.heap.size F2 w' p C [(f, linkS (k' + 1) [])] ∧ Below w.heap.size w w') := by
        refine (hcollect_c w.heap.size p C F2 (fun b => b = w4.heap.size) _ _ [f] _ (K4.out.al _) G2.out (intV_made w4 f) (fun b hb h2 => by have := (K4.out.lt b h2).2; omega) (fun q hq => by rw [List.mem_singleton] at hq; omega) (by simp) (by rw [HU2.out]; omega)).mono ?_
        rintro e w' ⟨M5, rfl, hs, F5, p1, p2, p3⟩
        obtain rfl := chain_one G2.out (HP2.out.symm.mem_iff.1 HMF.out) hs
        refine ⟨?_, F5, p1, (B4.out.alloc B4.out.size _).trans (p3.below (by rw [World.size_alloc]; have := B4.out.size; omega) fun b hb => (K4.out.lt b hb).1)⟩
        rw [HU2.out, used_push, link_len (by omega), used_nil, hD]
        push_cast
        refine congrArg (fun i : Int => Ending.returned (.int .i64 i)) ?_
        omega
      clear hD HU2 HUS HLEN HMUL HC
      go_wp2_with fail
      refine HC4.out.mono ?_
      rintro e w5 ⟨rfl, F5, hA5, hB5⟩
      have G5 : Hid (GoodM [(f, linkS (k' + 1) [])]) := good_nil.push has_nil hfb.1 (link_fine (xs := []))
      have HC5 : Hid (Calls Try.prog 12 #[.pointer (some ⟨p, 0, none⟩), .slice none 0 0] w5 fun e w' => e = .returned (.int .i64 ((k' : Int) + 1 + 1)) ∧ ∃ (F2 : Nat → Prop), ArenaT w.heap.size F2 w' p C [] ∧ Below w.heap.size w w') := by
        refine (hcollect_c w.heap.size p C F5 (fun _ => False) _ _ [] _ hA5 G5.out (intV_nil _ _) (fun _ h => h.elim) (fun _ h => nomatch h) (by decide) (by rw [used_push, link_len (by omega), used_nil]; omega)).mono ?_
        rintro e w' ⟨M6, rfl, hs, F6, p1, p2, p3⟩
        obtain rfl := stays_none hs
        refine ⟨?_, F6, p1, hB5.trans (p3.below hB5.size fun b hb => (hA5.lt b hb).1)⟩
        rw [used_push, link_len (by omega), used_nil]
        push_cast
        refine congrArg (fun i : Int => Ending.returned (.int .i64 i)) ?_
        omega
      clear hA5 hB5 HC4 K4 B4
      go_wp2_with fail
      refine HC5.out.mono ?_
      rintro e w6 ⟨rfl, F6, hA6, hB6⟩
      have B6 := hideP hB6
      have HU6 : Hid (Calls Try.prog 19 #[.pointer (some ⟨p, 0, none⟩)] w6 fun e w' => e = .returned (.int .i64 0) ∧ Ch noB w6 w') := hused_c w.heap.size p C F6 [] w6 hA6 good_nil (by rw [used_nil]; omega)
      clear hA6 hB6 HC5 hprod2
      go_wp2_with fail
      refine HU6.out.mono ?_
      rintro e w7 ⟨rfl, hc7⟩
      have B7 : Hid (Below w.heap.size w w7) := B6.out.trans (hc7.below B6.out.size fun _ h => h.elim)
      clear hc7 HU6 B6
      go_wp2_with fail
      go_ret
      exact ⟨rfl, B7.out⟩
end Go.Proofs.Ytcpmdbdppdnkkaa
