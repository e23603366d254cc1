/- The program's tree: Names. -/
import Derived.Test.YtldcfglkcifklaaShN
import Derived.Laws.CopyOwn
namespace Go.Proofs.Ytldcfglkcifklaa
open Go.RowKit

/-- A row that is known whole. -/
theorem row_whole {w : World} {B e sz n g : Nat} {xs : List Value} (h : w.ownsRow B e sz (.slice (some ⟨g, 0, none⟩) n n) n xs) : w.heap[g]? = some (.cells xs.toArray e) := by
  obtain ⟨hl, h | ⟨g', cap, cur, e1, hg, hh, _, _, hc, ht⟩⟩ := h
  · cases h.1
  · injection e1 with e1 _ e2
    injection e1 with e1
    injection e1 with e1 _ _
    subst e1 e2
    have : cur.toList = xs := by rw [← ht, List.take_of_length_le (by rw [← hc]; simp)]
    rw [← this]
    exact hh
theorem whole_row {w : World} {B e n g : Nat} {xs : List Value} (hB : B ≤ g) (hn : n ≤ maxLen) (hl : xs.length = n) (h : w.heap[g]? = some (.cells xs.toArray e)) : w.ownsRow B e 1 (.slice (some ⟨g, 0, none⟩) n n) n xs :=
  ⟨by omega, .inr ⟨g, n, xs.toArray, rfl, hB, h, Nat.le_refl _, hn, by simp [hl], by rw [List.take_of_length_le (by simp [hl])]⟩⟩
theorem shape_last {G : Nat → Prop} {w : World} {xs : List Value} {NL : List ByteArray} {T : List (List ByteArray)} {i : Nat} (h : ShapeAt G w xs NL T i) (hd : T.Nodup) (hi : i < T.length) (hp : T[i] ≠ []) (hz : ∀ h : 0 < T.length, T[0] = []) :
    ∃ (A : Nat) (ao : Option Addr) (c : Nat) (La : List ByteArray), xs[i * 4]? = some (.int .i64 T[i].length) ∧ xs[i * 4 + 1]? = some (.int .i64 A) ∧ xs[i * 4 + 2]? = some (.slice ao La.length c) ∧ A < i ∧ ∃ hA : A < T.length, T[i] = T[A] ++ La ∧ La ≠ [] ∧ StrV G w (.slice ao La.length c) La := by
  obtain ⟨A, la, pl, La, h1, h2, h3, h4, h5, h6, h7, h8, h9⟩ := h
  obtain ⟨ao, c, rfl, _⟩ := h8.form
  have hA : A < i := by
    rcases h5 with h | ⟨rfl, rfl⟩
    · exact h
    · exact absurd (hz hi) hp
  have hA2 : A < T.length := by omega
  rw [getD_at hi] at h1 h7
  rw [getD_at hA2] at h7
  refine ⟨A, ao, c, La, h1, h2, h3, hA, hA2, h7, ?_, h8⟩
  rintro rfl
  rw [List.append_nil] at h7
  have := nodup_at hd hi hA2 h7
  omega
theorem map_splice {ys zs La : List Value} {e : Nat} (hy : ys.length = e) (hle : La.length ≤ e) : splice (ys ++ zs) (e - La.length) La = ys.take (e - La.length) ++ (La ++ zs) := by
  unfold splice
  rw [List.take_append_of_le_length (by omega), List.drop_append, List.drop_eq_nil_of_le (by omega), List.nil_append]
  congr 2
  rw [show e - La.length + La.length - ys.length = 0 by omega, List.drop_zero]
theorem take_split {L X La : List ByteArray} {Y : List ByteArray} {a : Nat} (h : L.take (a + La.length) = Y) (ha : a = X.length) (hY : Y = X ++ La) : L.take a = X ∧ L.drop a = La ++ L.drop (a + La.length) := by
  have h1 : L = X ++ (La ++ L.drop (a + La.length)) := by rw [← List.append_assoc, ← hY, ← h, List.take_append_drop]
  subst ha
  constructor
  · rw [h1, List.take_left']
    rfl
  · rw [h1, List.drop_left']
    · rw [← h1]
    · rfl
/-- A guard for the walk: the operation that writes slot n. -/
theorem at_dst {P : Program} {ops : Array Oper} {Q : Exit → Act → World → Prop} {rest : List Oper} {a : Act} {w : World} {op : Op} {t : TypeId} {pos : String} {af : Array Edge} {g : Option (Nat × Bool)} (n : Nat) (h : wpList P ops Q (⟨some n, op, t, pos, af, g⟩ :: rest) a w) : wpList P ops Q (⟨some n, op, t, pos, af, g⟩ :: rest) a w := h
theorem sz_str : (Try.prog.info? 9).map (·.size) = some 1 := by kernel_rfl
theorem strs_cells {F : Nat → Prop} {w : World} {ao : Option Addr} {c : Nat} {La : List ByteArray} {cs : List Value} (h : StrV F w (.slice ao La.length c) La) (hc : cs = La.map Value.string) (hp : 0 < La.length) : ∃ ad, ao = some ad ∧ ∀ j v, cs[j]? = some v → w.cell? (ad.add j) = some v := by
  obtain ⟨ao', c', e, _, h1, h2⟩ := h.form
  injection e with e _ _
  subst e hc
  obtain ⟨b, o, e, _⟩ := h2 0 hp
  exact ⟨_, e, h1 _ e⟩
set_option maxRecDepth 100000 in
set_option maxHeartbeats 4000000 in
theorem snames_c (B t : Nat) (F : Nat → Prop) (T : List (List ByteArray)) (s : Int) (w : World) (h : TreeT B F w t T) (hg : GoodT T) (hs0 : -9223372036854775808 ≤ s) (hs1 : s ≤ 9223372036854775807) (hT : T.length ≤ 1000000) :
    Calls Try.prog 16 #[.pointer (some ⟨t, 0, none⟩), .int .i64 s] w fun e w' => ∃ v, e = .returned v ∧ w'.ownsRow w.heap.size 9 1 v (namesV T s).length ((namesV T s).map Value.string) ∧ Ch noB w w' := by
  obtain ⟨ro, k, nb, mb, vl, vs, xs, NL, M, H1, hok, hNL⟩ := h
  have H := hideP H1
  have HG := hideP hg
  obtain ⟨al, cl, g, cs, rfl, hvs⟩ := H1.look
  obtain ⟨rfl, hcells⟩ := hvs hg.pos
  have hb1 := (box1 H1.tb).1
  obtain ⟨⟨c0, c1, c2, c3⟩, _, _⟩ := box4 H1.kb
  have HH := hideP (has_c t k T.length s w _ _ hb1 c2)
  have HCE := hideP hcells
  have HLT := hideP hg.len
  clear hvs hcells hok H1 hg
  by_cases hin : 0 ≤ s ∧ s < T.length
  · obtain ⟨j, rfl⟩ := Int.eq_ofNat_of_zero_le hin.1
    have hj : j < T.length := by omega
    have hj0 : (0 : Int) ≤ (j : Int) := by omega
    have hjl : (j : Int) < (T.length : Int) := by omega
    rw [decide_eq_true hin] at HH
    have hnv : namesV T j = T[j] := by unfold namesV; rw [if_neg (by omega), atV_nat hj]
    rw [hnv]
    obtain ⟨L, hL⟩ : ∃ L, L = T[j] := ⟨_, rfl⟩
    obtain ⟨A, la, pl, La, e0, _⟩ := H.out.rows j hj
    rw [getD_at hj] at e0
    have hcs : w.cell? ⟨g, j * 4, none⟩ = some (.int .i64 L.length) := by rw [hL]; exact (HCE.out _ (by omega)).trans e0
    rw [← hL]
    have hLl : L.length ≤ 1000000 := by have := HLT.out _ (List.getElem_mem hj); rw [hL]; omega
    obtain ⟨i0, hi, hz0, hz1, hz2⟩ := info_parts info_str
    have HLj := hideP hL
    clear hnv e0 hin hL
    go_enter Try.func16, Try.ntmps16
    go_wp2_with fail
    refine HH.out.mono ?_
    rintro e w ⟨rfl, rfl⟩
    go_wp2_with (at_make; refine wpList_make_full _ rfl (.tmp 22) (.tmp 22) 28 rfl w.heap.size 9 i0 (.string ⟨#[]⟩) 1 Try.underlying28 hi hz0 hz1 .i64 .i64 _ _ L.length rfl rfl rfl rfl (by rw [hz2]; omega) (by unfold maxLen; omega) (Nat.le_refl _) ?_)
    intro w1 hown1 hgr1
    have HC1 : Hid (Ch noB w w1) := (Ch.refl _ w).grown hgr1 fun q hq => by cases hq
    have HR1 : Hid (w1.heap[w.heap.size]? = some (.cells (List.replicate L.length (Value.string ⟨#[]⟩)).toArray 9)) := by
      have := row_whole hown1
      rw [toList_madeCells_one] at this
      exact this
    clear hown1 hgr1
    go_wp2_with fail
    go_loopw [1, 6] (fun sv ev wr => ∃ (i e : Nat) (ys : List Value), sv = .int .i64 i ∧ ev = .int .i64 e ∧ e ≤ L.length ∧ ys.length = e ∧ Hid (∃ hi : i < T.length, T[i].length = e ∧ L.take e = T[i]) ∧ Hid (wr.heap[w.heap.size]? = some (.cells (ys ++ (L.drop e).map Value.string).toArray 9)) ∧ Hid (Ch noB w wr)) (fun sv _ _ => (intOf sv).toNat)
    case atStart => exact ⟨j, L.length, List.replicate L.length (.string ⟨#[]⟩), rfl, rfl, Nat.le_refl _, by simp, ⟨hj, by rw [HLj.out], by rw [HLj.out]; simp⟩, by rw [List.drop_length, List.map_nil, List.append_nil]; exact HR1.out, HC1.out⟩
    case round =>
      obtain ⟨i, e, ys, rfl, rfl, he, hy, HI, HR, HC⟩ := hrel
      by_cases hpos : 0 < e
      · have hpos' : (e : Int) > 0 := by omega
        obtain ⟨hiT, hil, hit⟩ := HI.out
        obtain ⟨A, ao, c, La, e0, e1, e2, hA, hAT, hTA, hne, hst⟩ := shape_last (H.out.rows i hiT) HG.out.nd hiT (by rintro h; rw [h] at hil; simp at hil; omega) fun _ => HG.out.zero
        have hlen : T[A].length + La.length = e := by rw [← hil, hTA, List.length_append]
        have hLa : 0 < La.length := List.length_pos_iff.2 hne
        have d1 := HC.out.cell hb1 fun h => h
        have d2 := HC.out.cell c2 fun h => h
        have d3 := HC.out.cell ((HCE.out (i * 4 + 1) (by omega)).trans e1) fun h => h
        have d4 := HC.out.cell ((HCE.out (i * 4 + 2) (by omega)).trans e2) fun h => h
        have hi0 : (0 : Int) ≤ (i : Int) := by omega
        have hil2 : (i : Int) < (T.length : Int) := by omega
        have HTA := hideP hTA
        have HIT := hideP hit
        have HD3 : Hid (w.cell? ⟨g, i * 4 + 1, none⟩ = some (.int .i64 A)) := (HCE.out (i * 4 + 1) (by omega)).trans e1
        have HST := hideP (hst.ch HC.out fun _ _ _ h => h)
        obtain ⟨a, ha⟩ : ∃ a, a = T[A].length := ⟨_, rfl⟩
        rw [← ha] at hlen
        have HAa := hideP ha
        obtain rfl : e = a + La.length := hlen.symm
        have haL : a ≤ L.length := by omega
        have haI : (a : Int) ≤ (L.length : Int) := by omega
        have haN : ¬ a = L.length := by omega
        obtain ⟨cs', hcs'⟩ : ∃ cs' : List Value, cs' = La.map Value.string := ⟨_, rfl⟩
        have HCS := hideP hcs'
        have hcl : cs'.length = La.length := by rw [hcs']; simp
        obtain ⟨cur, hcur⟩ : ∃ cur : List Value, cur = ys ++ (L.drop (a + La.length)).map Value.string := ⟨_, rfl⟩
        have HCU := hideP hcur
        have hcul : cur.length = L.length := by rw [hcur]; simp; omega
        rw [← hcur] at HR
        clear hst hTA hcur hcs' hil hit ha hlen e0 e1 e2 hne
        go_wp2_with ((with_reducible refine at_dst 58 ?_); refine wpList_copy_splice rfl (.tmp 56) (.tmp 57) 28 28 rfl 9 Try.underlying28 sz_str _ _ _ _ _ _ rfl rfl w.heap.size a cur 9 HR.out cs' (by rw [hcl]; exact (Nat.min_eq_left (by omega)).symm) (fun _ => ⟨by first | rfl | simp, strs_cells HST.out HCS.out hLa⟩) (by omega) (by rw [HCS.out]; exact one_strs _) w.heap.size w (HC.out.below' fun _ _ h => h) (Nat.le_refl _) ?_; intro w2 HG2 hb2; have HC2 : Hid (Ch noB w w2) := Ch.of hb2; have z1 := HC2.out.cell hb1 fun h => h; have z2 := HC2.out.cell c2 fun h => h; have z3 := HC2.out.cell HD3.out fun h => h; clear hb2)
        exact ⟨⟨A, a, ys.take a, rfl, rfl, by omega, by simp; omega, ⟨hAT, HAa.out.symm, (take_split HIT.out HAa.out HTA.out).1⟩, by show w2.heap[w.heap.size]? = _; rw [(take_split HIT.out HAa.out HTA.out).2, List.map_append, ← HCS.out]; have := HG2.out; rw [HCU.out, show a = a + La.length - cs'.length by omega, map_splice (by omega) (by omega)] at this; simpa [hcl] using this, HC2.out⟩, by simp [intOf]; omega⟩
      · have hpos' : ¬ (e : Int) > 0 := by omega
        obtain rfl : e = 0 := by omega
        obtain rfl : ys = [] := List.eq_nil_of_length_eq_zero hy
        go_wp2_with fail
        go_ret
        exact ⟨_, rfl, by have := HR.out; rw [List.drop_zero, List.nil_append] at this; exact whole_row (Nat.le_refl _) (by unfold maxLen; omega) (by simp) this, HC.out⟩
  · rw [decide_eq_false hin] at HH
    have e : namesV T s = [] := by unfold namesV; rw [if_pos (by omega)]
    rw [e]
    clear e hin
    go_enter Try.func16, Try.ntmps16
    go_wp2_with fail
    refine HH.out.mono ?_
    rintro e w' ⟨rfl, rfl⟩
    go_wp2_with fail
    go_ret
    exact ⟨_, rfl, World.ownsRow_nil _ _ _ _, Ch.refl _ _⟩
end Go.Proofs.Ytldcfglkcifklaa
