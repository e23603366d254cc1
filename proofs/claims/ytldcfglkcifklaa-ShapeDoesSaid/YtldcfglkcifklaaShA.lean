/- The reference's tree of shapes: Add, Of. -/
import Derived.Test.YtldcfglkcifklaaShR
namespace Go.Proofs.Ytldcfglkcifklaa
open Go.RowKit

theorem info_strs : (Try.prog.info? 28).map (fun i => (i.zero, i.size, i.bytes)) = some (some (.slice none 0 0), 1, 24) := by kernel_rfl
/-- What a call of a tree leaves. -/
def TrP (R : (Nat → Prop) → World → List (List ByteArray) → Prop) (F : Nat → Prop) (w : World) (T : List (List ByteArray)) (w' : World) : Prop := ∃ F', R F' w' T ∧ (∀ b, F' b → F b ∨ w.heap.size ≤ b) ∧ Ch F w w'
section
variable {R : (Nat → Prop) → World → List (List ByteArray) → Prop} {F : Nat → Prop} {w w1 w2 : World} {T T' : List (List ByteArray)}
theorem TrP.same (h : R F w T) : TrP R F w T w := ⟨F, h, fun _ h => .inl h, Ch.refl _ _⟩
end
set_option maxRecDepth 100000 in
set_option maxHeartbeats 4000000 in
theorem radd_c (B r : Nat) (F : Nat → Prop) (T : List (List ByteArray)) (s : Int) (x : ByteArray) (w : World) (h : RefT B F w r T) (hs0 : -9223372036854775808 ≤ s) (hs1 : s ≤ 9223372036854775807) (hT : T.length ≤ 1000000000) (hl : ∀ l ∈ T, l.length ≤ 1000000000) :
    Calls Try.prog 13 #[.pointer (some ⟨r, 0, none⟩), .int .i64 s, .string x] w fun e w' => e = .returned (.tuple #[.int .i64 (addV T s x).2.1, .int .i64 (addV T s x).2.2]) ∧ TrP (fun F w T => RefT B F w r T) F w (addV T s x).1 w' := by
  obtain ⟨a0, cap, hc, hk⟩ := h.look
  have HK := hideP hk
  have H := hideP h
  clear h hk
  have HSl := hideP (rslot_c B r F T s x w H.out hs0 hs1 hl)
  by_cases h0 : s < 0
  · rw [add_out (.inl h0)]
    go_enter Try.func13, Try.ntmps13
    go_wp2_with fail
    go_ret2
    exact ⟨rfl, TrP.same H.out⟩
  obtain ⟨k, rfl⟩ := Int.eq_ofNat_of_zero_le (show 0 ≤ s by omega)
  by_cases hkT : k < T.length
  · obtain ⟨q, ao, c, rfl, hq, hv, _⟩ := HK.out k hkT
    have hkl : (k : Int) < (T.length : Int) := by omega
    have hk0 : (0 : Int) ≤ (k : Int) := by omega
    have hnot : ¬ ((k : Int) < 0 ∨ (T.length : Int) ≤ (k : Int)) := by omega
    have hgq : ((k : Int) ≥ (T.length : Int)) = False := by simp; omega
    cases hsl : slotV (atV T k) x with
    | some i =>
      have e1 : slotR T k x = .tuple #[.int .i64 i, .bool true] := by unfold slotR; rw [if_neg hnot, hsl]
      rw [add_has hnot (by rw [hsl]; rfl)]
      rw [e1] at HSl
      clear HK hv hq e1 hsl
      go_enter Try.func13, Try.ntmps13
      go_wp2_with fail
      refine HSl.out.mono ?_
      rintro e w' ⟨rfl, rfl⟩
      go_wp2_with fail
      go_ret2
      exact ⟨rfl, TrP.same H.out⟩
    | none =>
      have e1 : slotR T k x = .tuple #[.int .i64 0, .bool false] := by unfold slotR; rw [if_neg hnot, hsl]
      rw [e1] at HSl
      obtain ⟨l, hl'⟩ : ∃ l, l = T[k] := ⟨_, rfl⟩
      have hll : l.length ≤ 1000000000 := by rw [hl']; exact hl _ (List.getElem_mem hkT)
      have hat : atV T k = l := by rw [atV_nat hkT, hl']
      rw [← hl'] at hq hv
      have HR : Hid (addV T k x = match rowV T (l ++ [x]) with | some i => (T, (i : Int), 0) | none => (T ++ [l ++ [x]], (T.length : Int), 0)) := by
        cases hr : rowV T (l ++ [x]) with
        | some i => exact add_old hnot (by rw [hsl]; rfl) (by rw [hat]; exact hr)
        | none => rw [add_new hnot (by rw [hsl]; rfl) (by rw [hat]; exact hr), hat]; exact rfl
      obtain ⟨R, hR⟩ : ∃ R, R = addV T k x := ⟨_, rfl⟩
      rw [← hR] at HR ⊢
      obtain ⟨i0, hi, hz0, hz1, hz2⟩ := info_parts info_str
      obtain ⟨i1, hi1, hz3, hz4, hz5⟩ := info_parts info_strs
      obtain ⟨ao', c', ev, hf1, hf2, _⟩ := hv.form
      injection ev with ev1 ev2 ev3
      subst ev1 ev3
      have HF1 := hideP hf1
      have HF2 := hideP hf2
      have HQ := hideP hq
      clear e1 hsl hat hl' hR hf1 hf2 ev2 hv
      go_enter Try.func13, Try.ntmps13
      go_wp2_with fail
      refine HSl.out.mono ?_
      rintro e w ⟨rfl, rfl⟩
      clear HSl
      go_wp2_with (at_builtin; refine wpList_append_anyK _ rfl (.const (.slice none 0 0)) (.tmp 39) 28 rfl w.heap.size 9 i0 _ 1 16 Try.underlying28 hi hz0 hz1 hz2 rfl (by decide) _ 0 [] rfl (World.ownsRow_nil _ _ _ _) ao l.length c (l.map Value.string) rfl (by simp) HF1.out HF2.out (one_strs _) (by unfold maxLen; omega) (by omega) (Nat.le_refl _) ?_)
      intro v1 w1 hown1 hgr1 _
      have hown1' : w1.ownsRow w.heap.size 9 1 v1 l.length (l.map Value.string) := by simpa using hown1
      obtain ⟨a1, c1, rfl⟩ := row_shape hown1'
      have HO1 := hideP hown1'
      have HC1 : Hid (Ch (fun _ => False) w w1) := (Ch.refl _ w).grown hgr1 fun q hq => by cases hq
      clear hown1 hown1' hgr1
      have HZ1 := hideP HC1.out.size
      go_wp2_with (at_builtin; refine wpList_append_own_at _ rfl (.tmp 40) (.tmp 42) 28 rfl w.heap.size 9 i0 _ 1 16 Try.underlying28 hi hz0 hz1 hz2 rfl (by decide) _ l.length _ rfl (HO1.out.alloc _) ⟨_, 0, none⟩ 1 1 [.string x] rfl rfl (cells_newK _ _ _) (by simp [Value.oneCell']) (by unfold maxLen; omega) (by omega) (by have := HZ1.out; simp; omega) ?_)
      intro v2 w2 hown2 hgr2 _ _
      have hown2' : w2.ownsRow w.heap.size 9 1 v2 (l ++ [x]).length ((l ++ [x]).map Value.string) := by simpa using hown2
      have HC2 : Hid (Ch (fun _ => False) w w2) := (HC1.out.alloc _).grown hgr2 fun q hq hl => by have := (HO1.out.lt q hq).1; omega
      have HO2 := hideP hown2'
      obtain ⟨a2, c2, rfl⟩ := row_shape hown2'
      clear hown2 hown2' hgr2 HO1 HC1 HZ1 hi hz0 hz1 hz2
      have H2 : Hid (RefT B F w2 r T) := H.out.ch HC2.out fun _ _ h => h
      have HN2 : Hid (StrV (fun b => w.heap.size ≤ b) w2 (.slice a2 (l ++ [x]).length c2) (l ++ [x])) := strV_own HO2.out fun q hq => (HO2.out.lt q hq).1
      obtain ⟨n, hn⟩ : ∃ n, n = l ++ [x] := ⟨_, rfl⟩
      rw [← hn] at HR HO2 HN2 ⊢
      have hnl : n.length ≤ 1000000001 := by rw [hn]; simp; omega
      obtain ⟨b0, cap2, hc2, hk2⟩ := H2.out.look
      have HK2 := hideP hk2
      clear hn HF1 HF2 HQ hc hk2 HK hq hll hkl hk0 hnot hgq
      go_wp2_with fail
      go_loopw [11] (fun i wx => ∃ j qn : Nat, i = .int .i64 j ∧ j ≤ T.length ∧ wx = w2.drewN qn ∧ Hid (∀ i (_ : i < T.length), i < j → T[i] ≠ n)) (fun i _ => T.length - (intOf i).toNat)
      case atStart => exact ⟨0, 0, rfl, Nat.zero_le _, rfl, fun _ _ h => absurd h (Nat.not_lt_zero _)⟩
      case round =>
        obtain ⟨j, qn, rfl, hj, rfl, HN⟩ := hrel
        by_cases hlt : j < T.length
        · have hjl : (j : Int) < (T.length : Int) := by omega
          have hj0 : (0 : Int) ≤ (j : Int) := by omega
          obtain ⟨q2, ao2, c3, rfl, hq2, hv2, _⟩ := HK2.out j hlt
          have HV := hideP hv2
          clear hv2
          go_wp2_with fail
          refine (rsame_c (fun _ => True) _ _ T[j] n _ ((HV.out.ch ((Ch.refl (fun _ => False) _).drewN _) fun _ _ _ h => h).mono fun _ _ _ => trivial) ((HN2.out.ch ((Ch.refl (fun _ => False) _).drewN _) fun _ _ _ h => h).mono fun _ _ _ => trivial) (by have := hl _ (List.getElem_mem hlt); omega) (by omega)).mono ?_
          rintro e w4 ⟨rfl, q4, rfl⟩
          by_cases heq : T[j] = n
          · have hRj : R = (T, (j : Int), 0) := by rw [HR.out, rowV_at hlt heq HN.out]
            rw [decide_eq_true heq]
            subst hRj
            clear heq HR
            go_wp2_with fail
            go_ret2
            exact ⟨rfl, F, H2.out.ch ((Ch.refl (fun _ => False) _).drewN _) fun _ _ h => h, fun _ h => .inl h, (HC2.out.mono fun _ _ h => h.elim).drewN _⟩
          · have HQ := hideP heq
            rw [decide_eq_false heq]
            clear heq
            go_wp2_with fail
            exact ⟨⟨j + 1, _, by go_num, by omega, rfl, fun k hk hkj => by
              by_cases e : k = j
              · subst e; exact HQ.out
              · exact HN.out k hk (by omega)⟩, by simp [intOf]; omega⟩
        · have hjl : ¬ (j : Int) < (T.length : Int) := by omega
          have hRj : R = (T ++ [n], (T.length : Int), 0) := by rw [HR.out, rowV_none fun i hi => HN.out i hi (by omega)]
          subst hRj
          clear HR
          obtain ⟨v, xs, g1, g2, g3, g4, g5, g6⟩ := H2.out
          obtain ⟨v0, cap0, rfl⟩ := row_shape g2
          obtain ⟨hx0, hf0, hr0⟩ := box1 g1
          have G1 := hideP g1
          have G2 : Hid ((w2.drewN qn).ownsRow B 28 1 (.slice v0 T.length cap0) T.length xs) := g2
          have G3 := hideP g3
          have G5 := hideP g5
          have G6 := hideP g6
          have HB : Hid (B ≤ w2.heap.size) := by have := g6 r g4; show B ≤ w2.heap.size; omega
          clear g1 g2 g3 g5 g6 hc2 HK2
          go_wp2_with (at_builtin; refine wpList_append_own_at _ rfl (.tmp 68) (.tmp 70) 36 rfl B 28 i1 _ 1 24 Try.underlying36 hi1 hz3 hz4 hz5 rfl (by decide) _ T.length _ rfl (G2.out.alloc _) ⟨_, 0, none⟩ 1 1 [.slice a2 n.length c2] rfl rfl (cells_newK _ _ _) (by simp [Value.oneCell']) (by unfold maxLen; omega) (by omega) (by have := HB.out; simp; omega) ?_)
          intro v3 w3 hown3 hgr3 _ hloc3
          obtain ⟨a3, c3, rfl⟩ := row_shape hown3
          have HO3 := hideP hown3
          have HG3 := hideP hgr3
          have HL3 := hideP hloc3
          have hne : ∀ q, (Value.slice v0 T.length cap0).ownBlock = some q → q ≠ r := fun q hq => (G5.out q hq).2
          have HX3 : Hid (w3.heap[r]? = some (.cells #[.slice v0 T.length cap0] 38)) := (hgr3.block r (by rw [World.size_alloc]; show r < w2.heap.size + 1; omega) fun e => hne r e.symm rfl).trans ((Below.heap_alloc _ _ _ hr0).trans G1.out)
          obtain ⟨y0, y1, y2⟩ := box1 HX3.out
          have HNE := hideP hne
          clear hown3 hgr3 hloc3 hx0 hf0 hne
          go_wp2_with fail
          go_ret2
          have hw2 := HC2.out.size
          have hs3 : w2.heap.size + 1 ≤ w3.heap.size := by have := HG3.out.size; rw [World.size_alloc] at this; exact this
          have hloc : ∀ q, (Value.slice a3 (T.length + 1) c3).ownBlock = some q → (Value.slice v0 T.length cap0).ownBlock = some q ∨ (w2.heap.size < q ∧ q < w3.heap.size) := fun q hq => by
            rcases HL3.out with e | e
            · exact .inl (e ▸ hq)
            · rw [e] at hq
              injection hq with hq
              have := (HO3.out.lt q (by rw [e, hq])).2
              exact .inr ⟨by omega, this⟩
          have hlo := H.out.lt
          have hTl : (T ++ [n]).length = T.length + 1 := by simp
          have hxl : xs.length = T.length := by have := G2.out.1; omega
          have hc3 : Ch (fun b => (Value.slice v0 T.length cap0).ownBlock = some b) w2 w3 := (((Ch.refl _ w2).drewN qn).alloc _).grown HG3.out fun q hq _ => hq
          have hc4 : Ch (fun b => b = r ∨ (Value.slice v0 T.length cap0).ownBlock = some b) w2 (w3.setCell ⟨r, 0, none⟩ (.slice a3 (T.length + 1) c3)) := (hc3.mono fun _ _ h => .inr h).set (fun _ => .inl rfl) _ _
          refine ⟨?_, fun b => F b ∨ (w.heap.size ≤ b ∧ b < w3.heap.size), ⟨.slice a3 (T.length + 1) c3, xs ++ [.slice a2 n.length c2], ?_, ?_, ?_, .inl g4, ?_, ?_⟩, fun b h => ?_, ?_⟩
          · show Ending.returned (.tuple #[_, _]) = .returned (.tuple #[.int .i64 (T.length : Int), .int .i64 0])
            refine congrArg (fun i : Int => Ending.returned (.tuple #[.int .i64 i, .int .i64 0])) ?_
            omega
          · have := cells_setCell (o := 0) (u := .slice a3 (T.length + 1) c3) HX3.out
            simpa using this
          · rw [hTl]
            exact ((Ch.refl (fun b => b = r) w3).set (fun _ => rfl) _ _).row HO3.out fun q hq e => by
              rcases hloc q hq with h | h
              · exact HNE.out q h e
              · omega
          · intro i hi
            by_cases hiT : i < T.length
            · obtain ⟨u, hu, hv⟩ := G3.out i hiT
              refine ⟨u, by rw [List.getElem?_append_left (by omega)]; exact hu, ?_⟩
              rw [List.getElem_append_left hiT]
              refine (hv.ch hc4 fun b hb _ hs => ?_).mono fun b _ hb => ⟨.inl hb.1, hb.2.1, fun e => ?_⟩
              · rcases hs with hs | hs
                · exact hb.2.1 hs
                · exact hb.2.2 hs
              · rcases hloc b e with h | h
                · exact hb.2.2 h
                · have := (hlo b hb.1).2
                  omega
            · obtain rfl : i = T.length := by omega
              refine ⟨.slice a2 n.length c2, by rw [List.getElem?_append_right (by omega), hxl, Nat.sub_self]; rfl, ?_⟩
              rw [List.getElem_append_right (Nat.le_refl _)]
              simp only [Nat.sub_self, List.getElem_cons_zero]
              refine ((HN2.out.mono (F' := fun b => w.heap.size ≤ b ∧ b < w2.heap.size) fun b hb h => ⟨h, hb⟩).ch hc4 fun b hb _ hs => ?_).mono fun b _ hb => ⟨.inr ⟨hb.1, by omega⟩, fun e => ?_, fun e => ?_⟩
              · rcases hs with hs | hs
                · have := (hlo r g4).2
                  omega
                · have := (hlo b (G5.out b hs).1).2
                  omega
              · have := (hlo r g4).2
                omega
              · rcases hloc b e with h | h
                · have := (hlo b (G5.out b h).1).2
                  omega
                · omega
          · intro q hq
            rcases hloc q hq with h | h
            · exact ⟨.inl (G5.out q h).1, (G5.out q h).2⟩
            · exact ⟨.inr ⟨by omega, h.2⟩, by omega⟩
          · intro b hb
            rw [size_set]
            rcases hb with hb | hb
            · have := hlo b hb
              exact ⟨this.1, by omega⟩
            · have := hlo r g4
              exact ⟨by omega, hb.2⟩
          · rcases h with h | h
            · exact .inl h
            · exact .inr h.1
          · refine (HC2.out.mono fun _ _ h => h.elim).trans hc4 fun b hb hs => ?_
            rcases hs with hs | hs
            · exact hs ▸ g4
            · exact (G5.out b hs).1
  · rw [add_out (.inr (by omega))]
    have hkl : (T.length : Int) ≤ (k : Int) := by omega
    go_enter Try.func13, Try.ntmps13
    go_wp2_with fail
    go_ret2
    exact ⟨rfl, TrP.same H.out⟩

theorem TrP.next {R : (Nat → Prop) → World → List (List ByteArray) → Prop} {F F1 : Nat → Prop} {w w1 w2 : World} {T2 : List (List ByteArray)} (h1 : ∀ b, F1 b → F b ∨ w.heap.size ≤ b) (hc : Ch F w w1) (h : TrP R F1 w1 T2 w2) : TrP R F w T2 w2 := by
  obtain ⟨F2, a1, a2, a3⟩ := h
  refine ⟨F2, a1, fun b hb => ?_, hc.trans a3 fun b hb h => ?_⟩
  · rcases a2 b hb with h | h
    · exact h1 b h
    · exact .inr (Nat.le_trans hc.size h)
  · rcases h1 b h with h | h
    · exact h
    · omega
set_option maxRecDepth 100000 in
set_option maxHeartbeats 4000000 in
theorem rof_c (B r : Nat) (F FA : Nat → Prop) (T : List (List ByteArray)) (v : Value) (ns : List ByteArray) (w : World) (h : RefT B F w r T) (hg : GoodT T) (hv : StrV FA w v ns) (hF : ∀ b, FA b → ¬ F b) (hT : T.length + ns.length ≤ 1000000000) :
    Calls Try.prog 11 #[.pointer (some ⟨r, 0, none⟩), v] w fun e w' => e = .returned (.tuple #[.int .i64 (ofV ns T 0).2, .int .i64 0]) ∧ TrP (fun F w T => RefT B F w r T) F w (ofV ns T 0).1 w' := by
  have H := hideP h
  have HV := hideP hv
  have HG := hideP hg
  have HF := hideP hF
  obtain ⟨ao, c, rfl, _, _, _⟩ := hv.form
  clear h hv hg hF
  go_enter Try.func11, Try.ntmps11
  go_wp2_with fail
  go_loopw [6, 7] (fun sv i wx => ∃ j : Nat, i = .int .i64 j ∧ j ≤ ns.length ∧ sv = .int .i64 (ofV (ns.take j) T 0).2 ∧ Hid (TrP (fun F w T => RefT B F w r T) F w (ofV (ns.take j) T 0).1 wx)) (fun _ i _ => ns.length - (intOf i).toNat)
  case atStart => exact ⟨0, rfl, Nat.zero_le _, rfl, TrP.same H.out⟩
  case round =>
    obtain ⟨j, rfl, hj, rfl, HP⟩ := hrel
    obtain ⟨F1, p1, p2, p3⟩ := HP.out
    by_cases hlt : j < ns.length
    · have hjl : (j : Int) < (ns.length : Int) := by omega
      have hj0 : (0 : Int) ≤ (j : Int) := by omega
      have hl1 := of_len (ns.take j) (T := T) (s := 0)
      rw [List.length_take] at hl1
      have hgT := good_of (ns.take j) (s := 0) HG.out
      have hv1 : StrV FA wr (.slice ao ns.length c) ns := HV.out.ch p3 fun b hb _ => HF.out b hb
      obtain ⟨ao', c', e, _, _, hc⟩ := hv1.form
      injection e with e1 _ e2
      subst e1 e2
      obtain ⟨b, o, rfl, _, _, hcell⟩ := hc j hlt
      have hN : ofV (ns.take (j + 1)) T 0 = ((addV (ofV (ns.take j) T 0).1 (ofV (ns.take j) T 0).2 ns[j]).1, (addV (ofV (ns.take j) T 0).1 (ofV (ns.take j) T 0).2 ns[j]).2.1) := by rw [take_snocK _ _ hlt, ofV_snoc]
      have HN := hideP hN
      have hr := of_rng (ns.take j) (T := T) (s := 0) HG.out.pos (Int.le_refl _) (by have := HG.out.pos; omega)
      obtain ⟨X, hX⟩ : ∃ X, X = ofV (ns.take j) T 0 := ⟨_, rfl⟩
      rw [← hX] at hl1 hgT p1 HP HN hr ⊢
      have hb1 : -9223372036854775808 ≤ X.2 ∧ X.2 ≤ 9223372036854775807 := by omega
      have HC := hideP (radd_c B r F1 X.1 X.2 ns[j] wr p1 hb1.1 hb1.2 (by omega) (fun l hl => by have := hgT.len l hl; omega))
      have HG1 := hideP hgT
      have P2 := hideP p2
      have P3 := hideP p3
      clear hX hgT hv1 hc p1 p2 p3 hN hr hb1
      go_wp2_with fail
      refine HC.out.mono ?_
      rintro e w4 ⟨rfl, hp⟩
      have HP4 := hideP (TrP.next P2.out P3.out hp)
      clear hp
      go_wp2_with fail
      exact ⟨⟨j + 1, by go_num, by omega, by rw [HN.out], by rw [HN.out]; exact HP4.out⟩, by simp [intOf]; omega⟩
    · have hjl : ¬ (j : Int) < (ns.length : Int) := by omega
      have e : ns.take j = ns := List.take_of_length_le (by omega)
      rw [e] at HP ⊢
      clear e p1 p2 p3
      go_wp2_with fail
      go_ret2
      exact ⟨rfl, HP.out⟩
end Go.Proofs.Ytldcfglkcifklaa
