/- graduslaw16.HeapDoes: the walk. -/
import Derived.Test.YtcpmdbdppdnkkaaHpY
import Derived.Test.YtcpmdbdppdnkkaaHpZ
namespace Go.Proofs.Ytcpmdbdppdnkkaa
open Go.RowKit Go.ChangeShapes Go.WideShapes Go.ChangeAt

/-- An arena, the reference's world, a row of references: each apart from the others. -/
structure DoT (B p r cap : Nat) (ci : Int) (M : Hp) (L : Wd) (refs : List Int) (a : Option Addr) (n c : Nat) (w : World) (FA FW : Nat → Prop) : Prop where
  ar : ArenaT B FA w p cap M
  wd : WorldT B FW w r ci L
  ap : ∀ b, FA b → ¬ FW b
  co : Corr refs L M
  rf : w.ownsRow B 3 1 (.slice a n c) n (refs.map (Value.int .i64))
  rl : refs.length = n
  ro : ∀ q, (Value.slice a n c).ownBlock = some q → ¬ FA q ∧ ¬ FW q
  rb : ∀ x ∈ refs, 0 ≤ x ∧ x ≤ 9223372036854775807
  sl : ∀ o ∈ L, okSlots o.1 ∧ o.1.length ≤ 40
  us : totL L ≤ 41 * L.length
theorem DoT.tell {B p r cap : Nat} {ci : Int} {M : Hp} {L : Wd} {refs : List Int} {a : Option Addr} {n c : Nat} {w : World} {FA FW : Nat → Prop} (h : DoT B p r cap ci M L refs a n c w FA FW) (hl : L.length ≤ 60) : TellT p r cap ci M L refs a n c w :=
  ⟨⟨B, FA, h.ar⟩, ⟨B, FW, h.wd⟩, h.co, ⟨fun _ => True, by
    have := intV_own (F := fun _ => True) (ns := refs) (by rw [h.rl]; exact h.rf) fun _ _ => trivial
    exact this⟩, h.rb, fun o ho => ⟨(h.sl o ho).1, by have := (h.sl o ho).2; omega⟩, by omega, by have := (used_tot L).1; have := h.us; omega⟩
/-- The three things in memory, with no word of what they tell of each other. -/
structure Tri (B p r cap : Nat) (ci : Int) (M : Hp) (L : Wd) (refs : List Int) (a : Option Addr) (n c : Nat) (w : World) (FA FW : Nat → Prop) : Prop where
  ar : ArenaT B FA w p cap M
  wd : WorldT B FW w r ci L
  ap : ∀ b, FA b → ¬ FW b
  rf : w.ownsRow B 3 1 (.slice a n c) n (refs.map (Value.int .i64))
  ro : ∀ q, (Value.slice a n c).ownBlock = some q → ¬ FA q ∧ ¬ FW q
section
variable {B p r cap : Nat} {ci : Int} {M M' : Hp} {L L' : Wd} {refs : List Int} {a : Option Addr} {n c : Nat} {w w1 w2 : World} {FA FW : Nat → Prop}
theorem DoT.tri (h : DoT B p r cap ci M L refs a n c w FA FW) : Tri B p r cap ci M L refs a n c w FA FW := ⟨h.ar, h.wd, h.ap, h.rf, h.ro⟩
theorem Tri.no (h : Tri B p r cap ci M L refs a n c w FA FW) (hc : Ch noB w w1) : Tri B p r cap ci M L refs a n c w1 FA FW :=
  ⟨h.ar.no hc, h.wd.ch hc fun _ _ h => h, h.ap, hc.row h.rf fun _ _ h => h, h.ro⟩
theorem Tri.arena (h : Tri B p r cap ci M L refs a n c w FA FW) (ht : TrW (fun F w M => ArenaT B F w p cap M) FA w M' w1) : ∃ FA', Tri B p r cap ci M' L refs a n c w1 FA' FW ∧ Ch FA w w1 := by
  obtain ⟨F', h1, h2, h3⟩ := ht
  refine ⟨F', ⟨h1, h.wd.ch h3 fun b hb hf => h.ap b hf hb, fun b hb hw => ?_, h3.row h.rf fun q hq => (h.ro q hq).1, fun q hq => ⟨fun hf => ?_, (h.ro q hq).2⟩⟩, h3⟩
  · rcases h2 b hb with h4 | h4
    · exact h.ap b h4 hw
    · have := (h.wd.lt b hw).2
      omega
  · rcases h2 q hf with h4 | h4
    · exact (h.ro q hq).1 h4
    · have := (h.rf.lt q hq).2
      omega
theorem Tri.world (h : Tri B p r cap ci M L refs a n c w FA FW) (ht : TrW (fun F w L => WorldT B F w r ci L) FW w L' w1) : ∃ FW', Tri B p r cap ci M L' refs a n c w1 FA FW' ∧ Ch FW w w1 := by
  obtain ⟨F', h1, h2, h3⟩ := ht
  refine ⟨F', ⟨h.ar.ch h3 fun b hb hf => h.ap b hb hf, h1, fun b hb hw => ?_, h3.row h.rf fun q hq => (h.ro q hq).2, fun q hq => ⟨(h.ro q hq).1, fun hf => ?_⟩⟩, h3⟩
  · rcases h2 b hw with h4 | h4
    · exact h.ap b hb h4
    · have := (h.ar.lt b hb).2
      omega
  · rcases h2 q hf with h4 | h4
    · exact (h.ro q hq).2 h4
    · have := (h.rf.lt q hq).2
      omega
end
theorem DoT.no {B p r cap : Nat} {ci : Int} {M : Hp} {L : Wd} {refs : List Int} {a : Option Addr} {n c : Nat} {w w1 : World} {FA FW : Nat → Prop} (h : DoT B p r cap ci M L refs a n c w FA FW) (hc : Ch noB w w1) : DoT B p r cap ci M L refs a n c w1 FA FW := by
  have t := h.tri.no hc
  exact ⟨t.ar, t.wd, t.ap, h.co, t.rf, h.rl, t.ro, h.rb, h.sl, h.us⟩
theorem tot_sweep {L : Wd} {m : List Bool} : ∀ j, totL (sweepTo L m j) = totL L := fun j => by
  unfold totL
  congr 1
  apply List.ext_getElem?
  intro i
  rw [List.getElem?_map, List.getElem?_map, sweep_get]
  cases L[i]? <;> rfl
theorem sweep_mem {L : Wd} {m : List Bool} {j : Nat} {o : List SlotV × Bool} (h : o ∈ sweepTo L m j) : ∃ o' ∈ L, o'.1 = o.1 := by
  obtain ⟨i, hi⟩ := List.mem_iff_getElem?.1 h
  rw [sweep_get] at hi
  cases e : L[i]? with
  | none => rw [e] at hi; cases hi
  | some o' =>
    rw [e] at hi
    exact ⟨o', List.mem_of_getElem? e, by simp only [Option.map_some, Option.some.injEq] at hi; rw [← hi]⟩
theorem named_in {refs : List Int} {L : Wd} {k : Int} (h : ∀ x ∈ refs, 0 ≤ x ∧ x ≤ 9223372036854775807) : -1 ≤ namedR refs L k ∧ namedR refs L k ≤ 9223372036854775807 := by
  rw [named_b]
  by_cases hb : isB L k = true
  · rw [if_pos hb, List.getD_eq_getElem?_getD]
    cases e : refs[k.toNat]? with
    | none => decide
    | some x =>
      have := h x (List.mem_of_getElem? e)
      show -1 ≤ x ∧ x ≤ _
      omega
  · rw [if_neg hb]
    decide
theorem named_ge {refs : List Int} {L : Wd} {k : Int} (h : ∀ x ∈ refs, 0 ≤ x ∧ x ≤ 9223372036854775807) : -1 ≤ namedR refs L k := (named_in h).1
theorem named_le {refs : List Int} {L : Wd} {k : Int} (h : ∀ x ∈ refs, 0 ≤ x ∧ x ≤ 9223372036854775807) : namedR refs L k ≤ 9223372036854775807 := (named_in h).2
theorem tot_snoc (L : Wd) (o : List SlotV × Bool) : totL (L ++ [o]) = totL L + (o.1.length + 1) := by
  unfold totL
  simp
/-- One more in all three. -/
theorem DoT.pushed {B p r cap : Nat} {ci : Int} {M M5 : Hp} {L : Wd} {refs : List Int} {a a7 : Option Addr} {n c c7 : Nat} {w w6 w7 : World} {FA FW FA5 FW6 : Nat → Prop} {sl : List SlotV} {x : Int} {ob : Obj} (h : DoT B p r cap ci M L refs a n c w FA FW) (T : Tri B p r cap ci M5 (L ++ [(sl, false)]) refs a n c w6 FA5 FW6)
    (hg : (w6.alloc ob).grownBy w7 (Value.ownBlock (.slice a n c))) (ho : w7.ownsRow B 3 1 (.slice a7 (n + 1) c7) (n + 1) (refs.map (Value.int .i64) ++ [.int .i64 x])) (hb : (Value.slice a7 (n + 1) c7).ownBlock = (Value.slice a n c).ownBlock ∨ (Value.slice a7 (n + 1) c7).ownBlock = some (w6.heap.size + 1))
    (hp : ¬ badL M (sl.map (mapS refs L)) ∧ ¬ hasM M x ∧ M5 = (x, sl.map (mapS refs L)) :: M) (hx : 0 ≤ x ∧ x ≤ 9223372036854775807) (hs : okSlots sl ∧ sl.length ≤ 40) : DoT B p r cap ci M5 (L ++ [(sl, false)]) (refs ++ [x]) a7 (n + 1) c7 w7 FA5 FW6 := by
  have hc : Ch (fun b => (Value.slice a n c).ownBlock = some b) w6 w7 := ((Ch.refl _ w6).alloc ob).grown hg fun q hq _ => hq
  refine ⟨T.ar.ch hc fun b hb2 hs2 => (T.ro b hs2).1 hb2, T.wd.ch hc fun b hb2 hs2 => (T.ro b hs2).2 hb2, T.ap, ?_, ?_, ?_, fun q hq => ?_, fun y hy => ?_, fun o ho2 => ?_, ?_⟩
  · rw [hp.2.2]
    exact h.co.push hp.2.1 hx.1 fun hbad => hp.1 (h.co.bad.2 hbad)
  · rw [List.map_append]
    exact ho
  · rw [List.length_append, h.rl]
    exact rfl
  · rcases hb with e | e
    · exact T.ro q (e ▸ hq)
    · rw [e] at hq
      injection hq with hq
      exact ⟨fun hf => by have := (T.ar.lt q hf).2; omega, fun hf => by have := (T.wd.lt q hf).2; omega⟩
  · rcases List.mem_append.1 hy with hy | hy
    · exact h.rb y hy
    · rw [List.mem_singleton.1 hy]
      exact hx
  · rcases List.mem_append.1 ho2 with ho2 | ho2
    · exact h.sl o ho2
    · rw [List.mem_singleton.1 ho2]
      exact hs
  · rw [tot_snoc, List.length_append]
    have := h.us
    show totL L + (sl.length + 1) ≤ 41 * (L.length + 1)
    omega
/-- The roots that were named so far, as a row of numbers. -/
def rowN (refs : List Int) (L : Wd) (l : List Int) (m : Nat) : List Value := ((l.take m).map (namedR refs L)).map (Value.int .i64)
theorem rowN_succ {refs : List Int} {L : Wd} {l : List Int} {m : Nat} (h : m < l.length) : rowN refs L l (m + 1) = rowN refs L l m ++ [Value.int .i64 (namedR refs L l[m])] := by
  unfold rowN
  rw [List.take_succ_eq_append_getElem h, List.map_append, List.map_append]
  rfl
set_option maxRecDepth 100000 in
set_option maxHeartbeats 8000000 in
theorem heapDoes_c (cells : Int) (a : Option Addr) (cap : Nat) (l : List OpH) (w : World) (hc : (Lit.int .i64 cells).wf = true) (h : OpsIn w a l.length cap l) :
    Calls Try.prog 3 #[.int .i64 cells, .slice a l.length cap] w fun e w' => e = .returned (.bool true) ∧ Below w.heap.size w w' := by
  obtain ⟨hv, hln⟩ := h
  have HV := hideP hv
  have hcb := bounds_i64 hc
  have HFW : Hid (∀ W, Below w.heap.size w W → Calls Try.prog 9 #[.slice a l.length cap] W fun e w' => e = .returned (.bool (fewB l)) ∧ Ch noB W w') := fun W hW => few_c _ a cap l W (HV.out.ch (Ch.of (S := noB) hW) fun _ _ _ h => h) hln
  clear hv hc
  cases hfb : fewB l with
  | false =>
    rw [hfb] at HFW
    clear hfb
    go_enter Try.func3, Try.ntmps3
    go_wp2_with fail
    refine (awake_c _).mono ?_
    rintro e w0 ⟨rfl, hb0⟩
    have B0 := hideP hb0
    clear hb0
    go_wp2_with fail
    refine (HFW.out _ B0.out).mono ?_
    rintro e w1 ⟨rfl, hc1⟩
    have B1 : Hid (Below w.heap.size w w1) := B0.out.trans (hc1.below B0.out.size fun _ h => h.elim)
    clear hc1
    go_wp2_with fail
    refine (hnew_c cells _ hcb.1 hcb.2).mono ?_
    rintro e w2 ⟨p, F, rfl, _, hc2⟩
    have B2 : Hid (Below w.heap.size w w2) := B1.out.trans (hc2.below B1.out.size fun _ h => h.elim)
    clear hc2
    go_wp2_with fail
    go_ret
    exact ⟨rfl, B2.out⟩
  | true =>
    have HFEW : Hid (FewH l) := few_iff.1 hfb
    rw [hfb] at HFW
    clear hfb
    obtain ⟨i0, hi, hz0, hz1, hz2⟩ := info_parts info_slot
    obtain ⟨i1, hi1, hy0, hy1, hy2⟩ := info_parts info_int
    go_enter Try.func3, Try.ntmps3
    go_wp2_with fail
    refine (awake_c _).mono ?_
    rintro e w0 ⟨rfl, hb0⟩
    have B0 := hideP hb0
    clear hb0
    go_wp2_with fail
    refine (HFW.out _ B0.out).mono ?_
    rintro e w1 ⟨rfl, hx1⟩
    have B1 : Hid (Below w.heap.size w w1) := B0.out.trans (hx1.below B0.out.size fun _ h => h.elim)
    clear hx1 B0
    go_wp2_with fail
    refine (hnew_c cells _ hcb.1 hcb.2).mono ?_
    rintro e w2 ⟨p, F, rfl, h1, hx2⟩
    have H1 : Hid (ArenaT w.heap.size F w2 p cells.toNat []) := h1.base B1.out.size
    have B2 : Hid (Below w.heap.size w w2) := B1.out.trans (hx2.below B1.out.size fun _ h => h.elim)
    clear hx2 h1 B1 HFW
    go_wp2_with fail
    obtain ⟨w3, hw3⟩ : ∃ w3, w3 = w2.alloc (.cells #[.int .i64 cells, .slice none 0 0] 30) := ⟨_, rfl⟩
    have HD : Hid (DoT w.heap.size p w2.heap.size cells.toNat cells [] [] [] none 0 0 w3 F (fun b => b = w2.heap.size)) := by
      have hlt := H1.out.lt
      have hs : w3.heap.size = w2.heap.size + 1 := by rw [hw3, World.size_alloc]
      refine ⟨by rw [hw3]; exact H1.out.al _, ⟨.slice none 0 0, [], by rw [hw3]; exact heap_alloc_last _ _, World.ownsRow_nil _ _ _ _, fun i hi => absurd hi (Nat.not_lt_zero i), rfl, fun q hq => (by cases hq), fun b hb => by have := B2.out.size; omega⟩, fun b hb e => by have := (hlt b hb).2; omega, ⟨rfl, good_nil, List.Perm.refl _, fun i l hi => by simp at hi⟩, World.ownsRow_nil _ _ _ _, rfl, fun q hq => (by cases hq), (fun _ h => nomatch h), (fun _ h => nomatch h), Nat.zero_le _⟩
    have B3 : Hid (Below w.heap.size w w3) := by rw [hw3]; exact B2.out.alloc B2.out.size _
    rw [← hw3]
    clear hw3 H1 B2
    go_wp2_with fail
    go_loopw [9, 10] (fun v i wx => ∃ (j n c : Nat) (a3 : Option Addr) (F1 F2 : Nat → Prop) (M : Hp) (L : Wd) (refs : List Int), i = .int .i64 j ∧ j ≤ l.length ∧ v = .slice a3 n c ∧ L.length ≤ j ∧ Hid (DoT w.heap.size p w2.heap.size cells.toNat cells M L refs a3 n c wx F1 F2) ∧ Hid (Below w.heap.size w wx)) (fun _ i _ => l.length - (intOf i).toNat)
    case atStart => exact ⟨0, 0, 0, none, F, _, [], [], [], rfl, Nat.zero_le _, rfl, Nat.zero_le _, HD, B3⟩
    case round =>
      obtain ⟨j, n, c, a3, F1, F2, M, L, refs, rfl, hj, rfl, hLj, HD, HB⟩ := hrel
      by_cases hlt : j < l.length
      · have hjl : (j : Int) < (l.length : Int) := by omega
        have hjz : (0 : Int) ≤ (j : Int) := by omega
        have hl60 : l.length ≤ 60 := HFEW.out.1
        obtain ⟨o, ho⟩ : ∃ o, o = l[j] := ⟨_, rfl⟩
        have ho40 := HFEW.out.2 o (ho ▸ List.getElem_mem hlt)
        obtain ⟨wv, hwv⟩ : ∃ x, x = wr := ⟨_, rfl⟩
        rw [← hwv] at HD HB ⊢
        clear hwv
        obtain ⟨b, q, rfl, _, hbl, hok, hcol, ⟨sa, sc, hs1, hs2⟩, ra, rc, hr1, hr2⟩ := HV.out.at.2 j hlt
        rw [← ho] at hok hcol hs1 hs2 hr1 hr2
        have HOK := hideP hok
        have HCOL0 : Hid (∀ W, Below w.heap.size w W → W.cell? ⟨b, q + j * 3, none⟩ = some (.bool o.col)) := by
          have h1 := hideP hcol
          exact fun W hW => (Ch.of (S := noB) hW).cell h1.out fun h => h
        have HSL0 : Hid (∀ W, Below w.heap.size w W → W.cell? ⟨b, q + j * 3 + 1, none⟩ = some (.slice sa o.sl.length sc) ∧ SltV (fun b => b < w.heap.size) W (.slice sa o.sl.length sc) o.sl) := by
          have h1 := hideP hs1
          have h2 := hideP hs2
          exact fun W hW => ⟨(Ch.of (S := noB) hW).cell h1.out fun h => h, h2.out.ch (Ch.of (S := noB) hW) fun _ _ _ h => h⟩
        have HRT0 : Hid (∀ W, Below w.heap.size w W → W.cell? ⟨b, q + j * 3 + 2, none⟩ = some (.slice ra o.rt.length rc) ∧ IntV (fun b => b < w.heap.size) W (.slice ra o.rt.length rc) o.rt) := by
          have h1 := hideP hr1
          have h2 := hideP hr2
          exact fun W hW => ⟨(Ch.of (S := noB) hW).cell h1.out fun h => h, h2.out.ch (Ch.of (S := noB) hW) fun _ _ _ h => h⟩
        have hcol := HCOL0.out wv HB.out
        have hsl0 := (HSL0.out wv HB.out).1
        have HBC : Hid (∀ W, Ch noB wv W → Below w.heap.size w W) := fun W hW => HB.out.trans (hW.below HB.out.size fun _ h => h.elim)
        clear hok hs1 hs2 hr1 hr2 ho
        cases hoc : o.col with
        | true =>
          rw [hoc] at hcol HCOL0
          clear hsl0
          have HNM : Hid (∀ W k, Ch noB wv W → k ≤ 9223372036854775807 → Calls Try.prog 11 #[.slice a3 n c, .pointer (some ⟨w2.heap.size, 0, none⟩), .int .i64 k] W fun e w' => e = .returned (.int .i64 (namedR refs L k)) ∧ w' = W) := fun W k hW hk => by
            have h := HD.out
            exact named_c _ _ F2 (fun _ => True) cells L refs a3 n c k W (h.wd.ch hW fun _ _ h => h) (IntV.ch (intV_own (by rw [h.rl]; exact h.rf) fun _ _ => trivial) hW fun _ _ _ h => h) h.co.len hk
          go_wp2_with fail
          go_loopw [11, 12] (fun v i wx => ∃ (m : Nat) (a4 : Option Addr) (c4 : Nat), i = .int .i64 m ∧ m ≤ o.rt.length ∧ v = .slice a4 m c4 ∧ Hid (wx.ownsRow wv.heap.size 3 1 (.slice a4 m c4) m (rowN refs L o.rt m)) ∧ Hid (Ch noB wv wx)) (fun _ i _ => o.rt.length - (intOf i).toNat)
          case atStart => exact ⟨0, none, 0, rfl, Nat.zero_le _, rfl, World.ownsRow_nil _ _ _ _, Ch.refl _ _⟩
          case round =>
            obtain ⟨m, a4, c4, rfl, hm, rfl, HY, HC⟩ := hrel
            by_cases hlm : m < o.rt.length
            · have hml : (m : Int) < (o.rt.length : Int) := by omega
              have hmz : (0 : Int) ≤ (m : Int) := by omega
              obtain ⟨z1, z2⟩ := HRT0.out wr (HBC.out _ HC.out)
              have z0 := HCOL0.out wr (HBC.out _ HC.out)
              obtain ⟨a5, c5, e, hk⟩ := z2.form
              injection e with e1 _ e2
              subst e1 e2
              obtain ⟨b2, o2, rfl, hb2, _, x1⟩ := hk m hlm
              have hkb := HOK.out.2.1 _ (List.getElem_mem hlm)
              have HTK : Hid (rowN refs L o.rt (m + 1) = rowN refs L o.rt m ++ [Value.int .i64 (namedR refs L o.rt[m])]) := rowN_succ hlm
              obtain ⟨k, hkk⟩ : ∃ k, k = o.rt[m] := ⟨_, rfl⟩
              rw [← hkk] at x1 hkb HTK
              obtain ⟨x, hx⟩ : ∃ x, x = namedR refs L k := ⟨_, rfl⟩
              have HN1 : Hid (Calls Try.prog 11 #[.slice a3 n c, .pointer (some ⟨w2.heap.size, 0, none⟩), .int .i64 k] wr fun e w' => e = .returned (.int .i64 x) ∧ w' = wr) := by
                rw [hx]
                exact HNM.out _ k HC.out hkb.2
              rw [← hx] at HTK
              clear hk z2 hkk hx
              have hbw : wv.heap.size ≤ wr.heap.size := HC.out.size
              go_wp2_with fail
              refine HN1.out.mono ?_
              rintro e w4 ⟨rfl, rfl⟩
              go_wp2_with (at_builtin; refine wpList_append_own_at _ rfl (.tmp 63) (.tmp 75) 31 rfl wv.heap.size 3 i1 _ 1 8 Try.underlying31 hi1 hy0 hy1 hy2 rfl (by decide) _ m _ rfl (HY.out.alloc _) ⟨_, 0, none⟩ 1 1 [.int .i64 x] rfl rfl (cells_newS _ _ rfl _ _) (by simp [Value.oneCell']) (by unfold maxLen; omega) (by omega) (by rw [World.size_alloc]; omega) ?_)
              intro v3 w5 hown3 hgr3 _ _
              obtain ⟨a6, c6, rfl⟩ := row_shape hown3
              have HC3 : Hid (Ch noB wv w5) := (HC.out.alloc _).grown hgr3 fun q hq hlt => by have := (HY.out.lt q hq).1; omega
              have HY3 : Hid (w5.ownsRow wv.heap.size 3 1 (.slice a6 (m + 1) c6) (m + 1) (rowN refs L o.rt (m + 1))) := by
                rw [HTK.out]
                exact hown3
              clear hown3 hgr3 HY HC HN1 HTK
              go_wp2_with fail
              exact ⟨⟨m + 1, a6, c6, by go_num, by omega, rfl, HY3.out, HC3.out⟩, by simp [intOf]; omega⟩
            · have hml : ¬ (m : Int) < (o.rt.length : Int) := by omega
              obtain rfl : m = o.rt.length := by omega
              have HRV : Hid (∀ W, Ch noB wr W → IntV (fun b => wv.heap.size ≤ b) W (.slice a4 o.rt.length c4) (o.rt.map (namedR refs L))) := fun W hW => by
                have h := HY.out
                have hlen : (o.rt.map (namedR refs L)).length = o.rt.length := List.length_map ..
                unfold rowN at h
                rw [List.take_length] at h
                have h2 : IntV (fun b => wv.heap.size ≤ b) wr (.slice a4 o.rt.length c4) (o.rt.map (namedR refs L)) := intV_own (by rw [hlen]; exact h) fun q hq => (h.lt q hq).1
                exact h2.ch hW fun _ _ _ h => h
              clear HY HNM
              have z0 := HCOL0.out wr (HBC.out _ HC.out)
              obtain ⟨z1, z2⟩ := HRT0.out wr (HBC.out _ HC.out)
              clear z2
              obtain ⟨fr, hfr⟩ : ∃ fr, fr = freedTo L (endV L o.rt) L.length := ⟨_, rfl⟩
              have HBr : Hid (Below w.heap.size w wr) := HB.out.trans (HC.out.below HB.out.size fun _ h => h.elim)
              have hus : usedM M ≤ 1000000 := by rw [HD.out.co.used.1]; have := (used_tot L).1; have := HD.out.us; omega
              have HC1 : Hid (∀ W, Ch noB wr W → Calls Try.prog 12 #[.pointer (some ⟨p, 0, none⟩), .slice a4 o.rt.length c4] W fun e w' => e = .returned (.int .i64 (fr : Int)) ∧ Hid (∃ M' FA', Stays M (o.rt.map (namedR refs L)) M' ∧ Tri w.heap.size p w2.heap.size cells.toNat cells M' L refs a3 n c w' FA' F2 ∧ Below w.heap.size w w')) := fun W hW => by
                have T0 := (HD.out.tri.no HC.out).no hW
                have hsz := HC.out.size
                refine (hcollect_c w.heap.size p cells.toNat F1 (fun b => wv.heap.size ≤ b) M _ _ W T0.ar HD.out.co.good (HRV.out W hW) (fun b h h2 => by have := (HD.out.ar.lt b h2).2; omega) (fun q hq => ?_) (by rw [List.length_map]; omega) (by omega)).mono ?_
                · obtain ⟨k, _, rfl⟩ := List.mem_map.1 hq
                  have h1 := named_ge HD.out.rb (L := L) (k := k)
                  have h2 := named_le HD.out.rb (L := L) (k := k)
                  omega
                · rintro e w' ⟨M', rfl, hs, ht⟩
                  obtain ⟨FA', h1, h2⟩ := T0.arena ht
                  refine ⟨by rw [HD.out.co.freed hs, hfr], M', FA', hs, h1, ?_⟩
                  have B1 : Below w.heap.size w W := HBr.out.trans (hW.below HBr.out.size fun _ h => h.elim)
                  exact B1.trans (h2.below B1.size fun b hb => (T0.ar.lt b hb).1)
              have HC2 : Hid (∀ w1 W, Hid (∃ M' FA', Stays M (o.rt.map (namedR refs L)) M' ∧ Tri w.heap.size p w2.heap.size cells.toNat cells M' L refs a3 n c w1 FA' F2 ∧ Below w.heap.size w w1) → Ch noB w1 W → Calls Try.prog 13 #[.pointer (some ⟨w2.heap.size, 0, none⟩), .slice ra o.rt.length rc] W fun e w' => e = .returned (.int .i64 (fr : Int)) ∧ Hid (∃ M' L' FA' FW', L'.length = L.length ∧ DoT w.heap.size p w2.heap.size cells.toNat cells M' L' refs a3 n c w' FA' FW' ∧ Below w.heap.size w w')) := fun w1 W h1 hW => by
                obtain ⟨M', FA', hs, T1, B1⟩ := h1.out
                have BW : Below w.heap.size w W := B1.trans (hW.below B1.size fun _ h => h.elim)
                have T2 := T1.no hW
                have hD := HD.out
                have hut := (used_tot L).1
                have hu := hD.us
                refine (rcollect_c w.heap.size _ F2 (fun b => b < w.heap.size) cells L _ o.rt W T2.wd hD.co.closed (HRT0.out W BW).2 (fun b h h2 => by have := (T2.wd.lt b h2).1; omega) HOK.out.2.1 (by omega) (by omega) HOK.out.2.2.2 (fun o ho => by have := (hD.sl o ho).2; omega)).mono ?_
                · rintro e w' ⟨rfl, ht⟩
                  obtain ⟨FW', T3, h3⟩ := T2.world ht
                  refine ⟨by rw [hfr], M', _, FA', FW', sweep_len _, ⟨T3.ar, T3.wd, T3.ap, hD.co.sweep hs, T3.rf, hD.rl, T3.ro, hD.rb, fun o ho => ?_, by rw [tot_sweep, sweep_len]; exact hu⟩, BW.trans (h3.below BW.size fun b hb => (T2.wd.lt b hb).1)⟩
                  obtain ⟨o', h1, h2⟩ := sweep_mem ho
                  rw [← h2]
                  exact hD.sl o' h1
              have HSK1 : Hid (∀ w', Hid (∃ M' FA', Stays M (o.rt.map (namedR refs L)) M' ∧ Tri w.heap.size p w2.heap.size cells.toNat cells M' L refs a3 n c w' FA' F2 ∧ Below w.heap.size w w') → w'.cell? ⟨b, q + j * 3 + 2, none⟩ = some (.slice ra o.rt.length rc)) := fun w' h => by
                obtain ⟨_, _, _, _, h⟩ := h.out
                exact (HRT0.out _ h).1
              have HSK2 : Hid (∀ w', Hid (∃ M' L' FA' FW', L'.length = L.length ∧ DoT w.heap.size p w2.heap.size cells.toNat cells M' L' refs a3 n c w' FA' FW' ∧ Below w.heap.size w w') → w'.cell? ⟨b, q + j * 3 + 2, none⟩ = some (.slice ra o.rt.length rc)) := fun w' h => by
                obtain ⟨_, _, _, _, _, _, h⟩ := h.out
                exact (HRT0.out _ h).1
              obtain ⟨P1, hP1⟩ : ∃ P : World → Prop, P = fun w' => Hid (∃ M' FA', Stays M (o.rt.map (namedR refs L)) M' ∧ Tri w.heap.size p w2.heap.size cells.toNat cells M' L refs a3 n c w' FA' F2 ∧ Below w.heap.size w w') := ⟨_, rfl⟩
              have HC1' : Hid (∀ W, Ch noB wr W → Calls Try.prog 12 #[.pointer (some ⟨p, 0, none⟩), .slice a4 o.rt.length c4] W fun e w' => e = .returned (.int .i64 (fr : Int)) ∧ Hid (P1 w')) := fun W hW => by rw [hP1]; exact HC1.out W hW
              have HC2' : Hid (∀ w1 W, Hid (P1 w1) → Ch noB w1 W → Calls Try.prog 13 #[.pointer (some ⟨w2.heap.size, 0, none⟩), .slice ra o.rt.length rc] W fun e w' => e = .returned (.int .i64 (fr : Int)) ∧ Hid (∃ M' L' FA' FW', L'.length = L.length ∧ DoT w.heap.size p w2.heap.size cells.toNat cells M' L' refs a3 n c w' FA' FW' ∧ Below w.heap.size w w')) := fun w1 W h hW => by rw [hP1] at h; exact HC2.out w1 W h.out hW
              have HSK1' : Hid (∀ w', Hid (P1 w') → w'.cell? ⟨b, q + j * 3 + 2, none⟩ = some (.slice ra o.rt.length rc)) := fun w' h => by rw [hP1] at h; exact HSK1.out w' h.out
              have s0 := (HRT0.out wr.drew HBr.out.drew).1
              have e1 : ((fr : Int) != (fr : Int)) = false := by simp
              clear HD HRV hfr HC1 HC2 HSK1 hP1 hcol
              go_wp2_with fail
              go_region_held (fun W => W.cell? ⟨b, q + j * 3 + 2, none⟩ = some (.slice ra o.rt.length rc)) (with_reducible assumption) (first
                | (go_at_call 12; refine (HC1'.out _ (by first | exact Ch.refl _ _ | exact (Ch.refl _ _).drew | exact (Ch.refl _ _).drewN _)).mono ?_; rintro e w4 ⟨rfl, HP⟩; have s4 := HSK1'.out _ HP)
                | (go_at_call 13; refine (HC2'.out _ _ HP (by first | exact Ch.refl _ _ | exact (Ch.refl _ _).drew | exact (Ch.refl _ _).drewN _)).mono ?_; rintro e w5 ⟨rfl, HP2⟩; have s5 := HSK2.out _ HP2))
              all_goals
                clear s0 s4 s5 HC1' HC2' HSK1' HSK2 HP
                obtain ⟨M', L', FA', FW', hLL, hD', hB'⟩ := HP2.out
                have HD5 := hideP hD'
                have HB5 := hideP hB'
                have HT := hideP (hD'.tell (by omega))
                clear hD' hB' HP2
                go_wp2_with fail
                refine (tells_c _ _ _ _ _ _ _ _ _ _ _ HT.out).mono ?_
                rintro e w6 ⟨rfl, hc6⟩
                have HD6 := hideP (HD5.out.no hc6)
                have HB6 : Hid (Below w.heap.size w w6) := HB5.out.trans (hc6.below HB5.out.size fun _ h => h.elim)
                clear HD5 HB5 HT hc6
                go_wp2_with fail
                exact ⟨⟨j + 1, n, c, a3, FA', FW', M', L', refs, by go_num, by omega, rfl, by omega, HD6.out, HB6.out⟩, by simp [intOf]; omega⟩
        | false =>
          rw [hoc] at hcol HCOL0
          obtain ⟨E, hE⟩ : ∃ E, E = errL cells L o.sl := ⟨_, rfl⟩
          have hus : usedM M ≤ 1000000 := by rw [HD.out.co.used.1]; have := (used_tot L).1; have := HD.out.us; omega
          have HCS : Hid (Calls Try.prog 15 #[.slice a3 n c, .pointer (some ⟨w2.heap.size, 0, none⟩), .slice sa o.sl.length sc] wv fun e w' => ∃ v, e = .returned v ∧ Hid (SltV (fun b => wv.heap.size ≤ b) w' v (o.sl.map (mapS refs L))) ∧ Hid (Ch noB wv w')) := by
            have hD := HD.out
            refine (slots_c _ _ F2 (fun _ => True) (fun b => b < w.heap.size) cells L refs a3 n c sa o.sl.length sc o.sl wv hD.wd (intV_own (by rw [hD.rl]; exact hD.rf) fun _ _ => trivial) hD.co.len (HSL0.out wv HB.out).2 HOK.out.1 (by omega)).mono ?_
            rintro e w' ⟨v, rfl, h1, h2⟩
            have hlen : (o.sl.map (mapS refs L)).length = o.sl.length := List.length_map ..
            exact ⟨v, rfl, sltV_own (by rw [hlen]; exact h1) fun q hq => (h1.lt q hq).1, h2⟩
          have HCA : Hid (∀ W v, Ch noB wv W → SltV (fun b => wv.heap.size ≤ b) W v (o.sl.map (mapS refs L)) → Calls Try.prog 14 #[.pointer (some ⟨p, 0, none⟩), v] W fun e w' => ∃ x, e = .returned (.tuple #[.int .i64 x, .int .i64 E]) ∧ 0 ≤ x ∧ x ≤ 9223372036854775807 ∧ Hid (∃ M' FA', AllocR cells.toNat M (o.sl.map (mapS refs L)) x E M' ∧ Tri w.heap.size p w2.heap.size cells.toNat cells M' L refs a3 n c w' FA' F2 ∧ Below w.heap.size w w')) := fun W v hW hv => by
            have hD := HD.out
            have T0 := hD.tri.no hW
            have BW := HBC.out W hW
            refine (halloc_c w.heap.size p cells.toNat F1 (fun b => wv.heap.size ≤ b) M v _ W T0.ar hD.co.good hv (fun b h h2 => by have := (hD.ar.lt b h2).2; omega) ?_ (by rw [List.length_map]; omega) (by omega)).mono ?_
            · intro s hs
              obtain ⟨t, ht, rfl⟩ := List.mem_map.1 hs
              have h1 := HOK.out.1 t ht
              have h2 := named_in hD.rb (L := L) (k := t.n)
              obtain ⟨tr, tn⟩ := t
              cases tr with
              | true =>
                have h3 : -1 ≤ namedR refs L tn := h2.1
                exact ⟨by show -9223372036854775808 ≤ namedR refs L tn; omega, h2.2⟩
              | false => exact h1
            · rintro e w' ⟨x, e0, M', rfl, ha, ht⟩
              obtain ⟨FA', h1, h2⟩ := T0.arena ht
              have he : e0 = E ∧ 0 ≤ x ∧ x ≤ 9223372036854775807 := by
                have hml : (o.sl.map (mapS refs L)).length = o.sl.length := List.length_map ..
                have hum := hD.co.used.1
                unfold errL at hE
                rcases ha with ⟨hb, rfl, rfl, rfl⟩ | ⟨hb, hc, rfl, rfl, rfl⟩ | ⟨hb, hc, rfl, g0, g1, hn, rfl⟩
                · rw [if_pos (badB_iff.2 (hD.co.bad.1 hb))] at hE
                  exact ⟨hE.symm, by decide, by decide⟩
                · rw [if_neg (fun h => hb (hD.co.bad.2 (badB_iff.1 h))), if_pos (by omega)] at hE
                  exact ⟨hE.symm, by decide, by decide⟩
                · rw [if_neg (fun h => hb (hD.co.bad.2 (badB_iff.1 h))), if_neg (by omega)] at hE
                  exact ⟨hE.symm, g0, g1⟩
              obtain ⟨rfl, hx0, hx1⟩ := he
              exact ⟨x, rfl, hx0, hx1, M', FA', ha, h1, BW.trans (h2.below BW.size fun b hb => (T0.ar.lt b hb).1)⟩
          go_wp2_with fail
          refine HCS.out.mono ?_
          rintro e w4 ⟨v, rfl, HV4, HC4⟩
          go_wp2_with fail
          refine (HCA.out _ _ HC4.out HV4.out).mono ?_
          rintro e w5 ⟨x, rfl, hx0, hx1, HP⟩
          obtain ⟨M5, FA5, ha5, T5, B5⟩ := HP.out
          have HA5 := hideP ha5
          have HT5 := hideP T5
          have HB5 := hideP B5
          have s5 := (HSL0.out w5 B5).1
          have HR : Hid (Calls Try.prog 16 #[.pointer (some ⟨w2.heap.size, 0, none⟩), .slice sa o.sl.length sc] w5 fun e w' => e = .returned (.int .i64 E) ∧ Hid (∃ FW', Tri w.heap.size p w2.heap.size cells.toNat cells M5 (if E = 0 then L ++ [(o.sl, false)] else L) refs a3 n c w' FA5 FW' ∧ Below w.heap.size w w')) := by
            have hD := HD.out
            have hut := (used_tot L).1
            have hu := hD.us
            refine (ralloc_c w.heap.size _ F2 (fun b => b < w.heap.size) cells L _ o.sl w5 T5.wd (HSL0.out w5 B5).2 (fun b h h2 => by have := (T5.wd.lt b h2).1; omega) HOK.out.1 (by omega) (by omega) (by omega)).mono ?_
            rintro e w' ⟨rfl, ht⟩
            rw [← hE] at ht
            obtain ⟨FW', h1, h2⟩ := T5.world ht
            exact ⟨by rw [hE], FW', h1, B5.trans (h2.below B5.size fun b hb => (T5.wd.lt b hb).1)⟩
          have hx2 : ¬ x < 0 := by omega
          have e1 : ((E : Int) != (E : Int)) = false := by simp
          clear HP ha5 T5 B5 hcol hsl0 HCS HCA HV4 HC4 hE
          go_wp2_with fail
          refine HR.out.mono ?_
          rintro e w6 ⟨rfl, HP6⟩
          clear HR
          by_cases hE0 : E = 0
          · subst hE0
            obtain ⟨FW6, T6, B6⟩ := HP6.out
            rw [if_pos rfl] at T6
            have hpush : ¬ badL M (o.sl.map (mapS refs L)) ∧ ¬ hasM M x ∧ M5 = (x, o.sl.map (mapS refs L)) :: M := by
              rcases HA5.out with ⟨_, _, h, _⟩ | ⟨_, _, _, h, _⟩ | ⟨hb, _, _, _, _, hn, hm⟩
              · cases h
              · cases h
              · exact ⟨hb, hn, hm⟩
            have HPu := hideP hpush
            have HT6 := hideP T6
            have HB6 := hideP B6
            clear hpush T6 B6 HP6 HA5
            go_wp2_with (at_builtin; refine wpList_append_own_at _ rfl (.tmp 117) (.tmp 119) 31 rfl w.heap.size 3 i1 _ 1 8 Try.underlying31 hi1 hy0 hy1 hy2 rfl (by decide) _ n _ rfl (HT6.out.rf.alloc _) ⟨_, 0, none⟩ 1 1 [.int .i64 x] rfl rfl (cells_newS _ _ rfl _ _) (by simp [Value.oneCell']) (by unfold maxLen; have := HD.out.rl; have := HD.out.co.len; omega) (by have := HD.out.rl; have := HD.out.co.len; omega) (by rw [World.size_alloc]; have := HB6.out.size; omega) ?_)
            intro v7 w7 hown7 hgr7 _ hb7
            obtain ⟨a7, c7, rfl⟩ := row_shape hown7
            have HD7 : Hid (DoT w.heap.size p w2.heap.size cells.toNat cells M5 (L ++ [(o.sl, false)]) (refs ++ [x]) a7 (n + 1) c7 w7 FA5 FW6) := HD.out.pushed HT6.out hgr7 hown7 hb7 HPu.out ⟨hx0, hx1⟩ ⟨HOK.out.1, ho40.1⟩
            have HB7 : Hid (Below w.heap.size w w7) := by
              have hc : Ch (fun b => w.heap.size ≤ b) w6 w7 := ((Ch.refl _ w6).alloc _).grown hgr7 fun q hq _ => (HT6.out.rf.lt q hq).1
              exact HB6.out.trans (hc.below HB6.out.size fun _ h => h)
            have HT := hideP (HD7.out.tell (by rw [List.length_append]; show L.length + 1 ≤ 60; omega))
            clear hown7 hgr7 hb7 HT6 HT5 HD
            go_wp2_with fail
            refine (tells_c _ _ _ _ _ _ _ _ _ _ _ HT.out).mono ?_
            rintro e w8 ⟨rfl, hc8⟩
            have HD8 := hideP (HD7.out.no hc8)
            have HB8 : Hid (Below w.heap.size w w8) := HB7.out.trans (hc8.below HB7.out.size fun _ h => h.elim)
            clear HD7 HB7 HT hc8
            go_wp2_with fail
            exact ⟨⟨j + 1, n + 1, c7, a7, FA5, FW6, M5, L ++ [(o.sl, false)], refs ++ [x], by go_num, by omega, rfl, by rw [List.length_append]; show L.length + 1 ≤ j + 1; omega, HD8.out, HB8.out⟩, by simp [intOf]; omega⟩
          · obtain ⟨FW6, T6, B6⟩ := HP6.out
            rw [if_neg hE0] at T6
            have hM5 : M5 = M := by
              rcases HA5.out with ⟨_, _, _, h⟩ | ⟨_, _, _, _, h⟩ | ⟨_, _, h, _⟩
              · exact h
              · exact h
              · exact absurd h hE0
            subst hM5
            have hD := HD.out
            have HD7 : Hid (DoT w.heap.size p w2.heap.size cells.toNat cells M5 L refs a3 n c w6 FA5 FW6) := ⟨T6.ar, T6.wd, T6.ap, hD.co, T6.rf, hD.rl, T6.ro, hD.rb, hD.sl, hD.us⟩
            have HB7 := hideP B6
            have HT := hideP (HD7.out.tell (by omega))
            clear hD T6 B6 HP6 HA5 HT5 HD
            go_wp2_with fail
            refine (tells_c _ _ _ _ _ _ _ _ _ _ _ HT.out).mono ?_
            rintro e w8 ⟨rfl, hc8⟩
            have HD8 := hideP (HD7.out.no hc8)
            have HB8 : Hid (Below w.heap.size w w8) := HB7.out.trans (hc8.below HB7.out.size fun _ h => h.elim)
            clear HD7 HB7 HT hc8
            go_wp2_with fail
            exact ⟨⟨j + 1, n, c, a3, FA5, FW6, M5, L, refs, by go_num, by omega, rfl, by omega, HD8.out, HB8.out⟩, by simp [intOf]; omega⟩
      · have hjl : ¬ (j : Int) < (l.length : Int) := by omega
        have hlx : l.length ≤ 60 := HFEW.out.1
        have HG : Hid (∀ W, Ch noB wr W → Calls Try.prog 18 #[.pointer (some ⟨p, 0, none⟩), .int .i64 (-1)] W fun e w' => ∃ v, e = .returned (.tuple #[v, .bool false]) ∧ Ch noB W w') := fun W hW => by
          have h := HD.out
          have hus : usedM M ≤ 1000000000 := by rw [h.co.used.1]; have := (used_tot L).1; have := h.us; omega
          refine (hget_c w.heap.size p cells.toNat F1 M (-1) W (h.ar.no hW) h.co.good (by decide) (by decide) hus).mono ?_
          rintro e w' ⟨v, b, l1, rfl, hb, _, hc⟩
          rcases hb with ⟨rfl, hb⟩ | ⟨rfl, _⟩
          · have := h.co.good.pos _ hb
            omega
          · exact ⟨v, rfl, hc⟩
        clear HD
        go_wp2_with fail
        refine (HG.out _ (Ch.refl _ _)).mono ?_
        rintro e w4 ⟨v, rfl, hc4⟩
        have HB4 : Hid (Below w.heap.size w w4) := HB.out.trans (hc4.below HB.out.size fun _ h => h.elim)
        go_wp2_with fail
        go_ret
        exact ⟨rfl, HB4.out⟩
end Go.Proofs.Ytcpmdbdppdnkkaa
