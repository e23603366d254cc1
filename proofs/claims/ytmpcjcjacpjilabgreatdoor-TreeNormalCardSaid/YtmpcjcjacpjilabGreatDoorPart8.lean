/- Part of the proof of TreeNormal: the texts that follow, in build order. -/
import Derived.Test.YtmpcjcjacpjilabGreatDoorPart7
import Derived.Test.YtmpcjcjacpjilabGreatDoorPart3
import Derived.Shelf.SlSortCmp.WholeK
import Derived.Test.YtmpcjcjacpjilabGreatDoorPart2

/- types.normUnion by a contract: the walk. -/
namespace Go.Proofs.YtmpcjcjacpjilabGreatDoor
open Go.RowKit

theorem tag_kind {k : Int} {t : Nat} (h : k = (t : Int) + 1) (ht : t < 6) : tagV k = (t : Int) := by unfold tagV; rw [if_pos (by omega)]; omega

theorem heap4 (w : World) (a b c d : Obj) : ((((w.alloc a).alloc b).alloc c).alloc d).heap[w.heap.size]? = some a ∧ ((((w.alloc a).alloc b).alloc c).alloc d).heap[w.heap.size + 1]? = some b ∧
    ((((w.alloc a).alloc b).alloc c).alloc d).heap[w.heap.size + 2]? = some c ∧ ((((w.alloc a).alloc b).alloc c).alloc d).heap[w.heap.size + 3]? = some d := by
  refine ⟨?_, ?_, ?_, ?_⟩
  · rw [Below.heap_alloc _ _ _ (by simp; omega), Below.heap_alloc _ _ _ (by simp; omega), Below.heap_alloc _ _ _ (by simp)]
    exact heap_alloc_last w a
  · rw [Below.heap_alloc _ _ _ (by simp), Below.heap_alloc _ _ _ (by simp)]
    exact heap_at1 w a b
  · rw [Below.heap_alloc _ _ _ (by simp)]
    have := heap_alloc_last ((w.alloc a).alloc b) c
    simpa using this
  · have := heap_alloc_last (((w.alloc a).alloc b).alloc c) d
    simpa using this

theorem norms_snoc {n j : Nat} {ks es : List Ty} {E : Ty} (hel : es.length = j) (hlt : j < ks.length) (hes : ∀ i (h : i < es.length) (h' : i < ks.length), normT n ks[i] = some es[i]) (hE : normT n ks[j] = some E) :
    ∀ i (h : i < (es ++ [E]).length), normT n (ks[i]'(by simp at h; omega)) = some (es ++ [E])[i] := by
  intro i h
  by_cases hij : i < es.length
  · rw [List.getElem_append_left hij]
    exact hes i hij (by omega)
  · have : i = j := by simp at h; omega
    subst this
    rw [List.getElem_append_right (by omega)]
    simp only [hel, Nat.sub_self, List.getElem_cons_zero]
    exact hE

theorem flat_mid {es : List Ty} {E X : Ty} {p : Nat} {hp : p < (membersT E).length} (hX : X = (membersT E)[p]) : (es ++ [E]).flatMap membersT = (es.flatMap membersT ++ (membersT E).take p) ++ X :: (membersT E).drop (p + 1) := by
  have h1 := List.take_append_drop p (membersT E)
  rw [List.drop_eq_getElem_cons hp, ← hX] at h1
  rw [List.flatMap_append, List.append_assoc, h1]
  simp

theorem arr_index {A : List Value} {t : Nat} {x0 x1 x2 x3 : Value} (ht : t < 6) (h0 : A[t * 4]? = some x0) (h1 : A[t * 4 + 1]? = some x1) (h2 : A[t * 4 + 2]? = some x2) (h3 : A[t * 4 + 3]? = some x3) (w : World) :
    (Instr.index 75 (.agg A.toArray) (.int .i64 t)).run Tryz.prog w = .ok (.agg #[x0, x1, x2, x3]) w := by
  have hu := Tryz.underlying75
  have ha := Tryz.isAgg25
  have hz := Tryz.sizeOf25
  simp [Instr.index, asIntOf, run_underlying hu, part, ha, hz, Result.andThen, ht]
  refine List.ext_getElem? fun i => ?_
  rw [List.getElem?_take]
  by_cases hi : i < 4
  · rw [if_pos hi, List.getElem?_drop]
    have : i = 0 ∨ i = 1 ∨ i = 2 ∨ i = 3 := by omega
    rcases this with rfl | rfl | rfl | rfl
    · simpa using h0
    · simpa using h1
    · simpa using h2
    · simpa using h3
  · rw [if_neg hi, List.getElem?_eq_none (by simp; omega)]

theorem cells_new (W : World) (x0 x1 x2 x3 : Value) (t : TypeId) : ∀ (j : Nat) u, ([x0, x1, x2, x3] : List Value)[j]? = some u → (W.alloc (.cells #[x0, x1, x2, x3] t)).cell? ((⟨W.heap.size, 0, none⟩ : Addr).add j) = some u := by
  intro j u hj
  have hadd : (⟨W.heap.size, 0, none⟩ : Addr).add j = ⟨W.heap.size, j, none⟩ := by unfold Addr.add; split <;> simp_all
  rw [hadd, cell_of_row _ _ j _ t (0, 0) (heap_alloc_last W _)]
  simpa using hj

theorem cells_newN (W : World) {N : Nat} (hN : N = W.heap.size) (x0 x1 x2 x3 : Value) (t : TypeId) : ∀ (j : Nat) u, ([x0, x1, x2, x3] : List Value)[j]? = some u → (W.alloc (.cells #[x0, x1, x2, x3] t)).cell? ((⟨N, 0, none⟩ : Addr).add j) = some u := by
  subst hN
  exact cells_new W x0 x1 x2 x3 t

theorem cells_one (c : Cells) : ∀ u ∈ c.list, u.oneCell' = true := by
  intro u hu
  simp [Cells.list] at hu
  rcases hu with rfl | rfl | rfl | rfl <;> rfl

theorem own_form {w : World} {base t k n : Nat} {v : Value} {xs : List Value} (h : w.ownsRow base t k v (n + 1) xs) : ∃ g cap, v = .slice (some ⟨g, 0, none⟩) (n + 1) cap := by
  rcases h.2 with ⟨_, h0⟩ | ⟨g, cap, cur, h1, _⟩
  · omega
  · exact ⟨g, cap, h1⟩

theorem rowF_lower {w : World} {lo lo' n : Nat} {ka : Option Addr} {ks : List Ty} (h : KidsF w lo n ka ks) (hl : lo' ≤ lo) : KidsF w lo' n ka ks := by
  rcases h with h | ⟨b, o, e, hb, hcl, hc⟩
  · exact .inl h
  · refine .inr ⟨b, o, e, by omega, hcl, fun i hi => ?_⟩
    obtain ⟨c0, c1, c2, c3, e0, e1, e2, e3, ht⟩ := hc i hi
    exact ⟨c0, c1, c2, c3, e0, e1, e2, e3, tyF_lower ht hl⟩

theorem tags_take (L : List Ty) (t : Nat) (ht : t < 6) : (tagsL.take (t + 1)).filterMap (firstK L) = (tagsL.take t).filterMap (firstK L) ++ (match firstK L ((t : Int) + 1) with | some x => [x] | none => []) := by
  have : tagsL[t]? = some ((t : Int) + 1) := by
    have : t = 0 ∨ t = 1 ∨ t = 2 ∨ t = 3 ∨ t = 4 ∨ t = 5 := by omega
    rcases this with rfl | rfl | rfl | rfl | rfl | rfl <;> rfl
  rw [List.take_add_one, this, List.filterMap_append]
  cases h : firstK L ((t : Int) + 1) <;> simp [h]

set_option maxHeartbeats 4000000 in
set_option maxRecDepth 100000 in
theorem normUnion_c (n : Nat) (ih : NormAt n) (nm : ByteArray) (na : Option Addr) (nc : Nat) (ka : Option Addr) (kc : Nat) (ns : List (List UInt8)) (ks : List Ty) (w : World) (hkl : ks.length ≤ reachBytes) (hk : KidsAt w false n ka ks) (hw : Words w) :
    Calls Tryz.prog 23 #[.agg #[.int .i64 7, .string nm, .slice na ns.length nc, .slice ka ks.length kc]] w (NormPost w (n + 1) (mkT 7 nm.data.toList ns ks)) := by
  have hkl' : ks.length ≤ 140737488351232 := hkl
  have HK := hideP hk
  have HW := hideP hw
  clear hk hw hkl
  go_enter Tryz.func23, Tryz.ntmps23
  go_wp2_with fail
  go_loopw [19] (fun i wr => ∃ (j : Nat) (es : List Ty), i = .int .i64 j ∧ j ≤ ks.length ∧ Hid (es.length = j) ∧ Hid (∀ i (h : i < es.length) (h' : i < ks.length), normT n ks[i] = some es[i]) ∧ Hid (UInv w wr n (tyO 7 nm na ns.length nc ka ks.length kc) (es.flatMap membersT))) (fun i _ => ks.length - (intOf i).toNat)
  case atStart =>
    refine ⟨0, [], rfl, Nat.zero_le _, rfl, fun i h => absurd h (Nat.not_lt_zero _), ?_⟩
    obtain ⟨h0, h1, h2, h3⟩ := heap4 w (tyO 7 nm na ns.length nc ka ks.length kc) zO _ _
    refine ⟨(((bl_alloc w _).alloc (by simp) _).alloc (by simp; omega) _).alloc (by simp; omega) _, h0, h1, ⟨_, h2, rfl, fun t ht => ⟨(0, ⟨#[]⟩, none, 0, 0, none, 0, 0), fun j hj => ?_, fun E hE => by cases hE⟩⟩, ⟨_, h3, rfl, fun t ht => ?_⟩, fun x hx => by cases hx⟩
    · have h6 : t = 0 ∨ t = 1 ∨ t = 2 ∨ t = 3 ∨ t = 4 ∨ t = 5 := by omega
      have h4 : j = 0 ∨ j = 1 ∨ j = 2 ∨ j = 3 := by omega
      rcases h6 with rfl | rfl | rfl | rfl | rfl | rfl <;> rcases h4 with rfl | rfl | rfl | rfl <;> rfl
    · have : t = 0 ∨ t = 1 ∨ t = 2 ∨ t = 3 ∨ t = 4 ∨ t = 5 := by omega
      rcases this with rfl | rfl | rfl | rfl | rfl | rfl <;> rfl
  case round =>
    obtain ⟨j, es, rfl, hj, hel, hes, hU⟩ := hrel
    by_cases hlt : j < ks.length
    · have hjl : (j : Int) < (ks.length : Int) := by omega
      obtain ⟨b, o, k1, n1, na1, nl1, nc1, la1, ll1, lc1, rfl, hbl, q0, q1, q2, q3, ht1⟩ := kid_at HK.out hlt
      have r0 := (hU.out.bl.cell (p := ⟨b, o + j * 4, none⟩) hbl).trans q0
      have r1 := (hU.out.bl.cell (p := ⟨b, o + j * 4 + 1, none⟩) hbl).trans q1
      have r2 := (hU.out.bl.cell (p := ⟨b, o + j * 4 + 2, none⟩) hbl).trans q2
      have r3 := (hU.out.bl.cell (p := ⟨b, o + j * 4 + 3, none⟩) hbl).trans q3
      have hb1 := hU.out.bl.alloc hU.out.bl.size (tyO k1 n1 na1 nl1 nc1 la1 ll1 lc1)
      have HC := hideP (ih _ _ _ (ty_below ht1 hb1) (HW.out.below hb1))
      have HU1 := hideP (hU.out.grow (bl_alloc wr (tyO k1 n1 na1 nl1 nc1 la1 ll1 lc1)))
      clear q0 q1 q2 q3 ht1 hb1
      go_wp2_with fail
      refine HC.out.mono ?_
      intro e w1 hpost
      obtain ⟨hbw, hways⟩ := norm_ways hpost
      have HU2 := hideP (HU1.out.grow hbw)
      obtain ⟨⟨z0, z1, z2, z3⟩, ⟨f0, f1, f2, f3⟩, hlt1⟩ := res_facts HU2.out.rs
      clear hpost HC HU1
      rcases hways with ⟨hn, rfl⟩ | ⟨E1, g1, g2, g3, g4, g5, g6, g7, g8, hn, rfl, hF1, hk1⟩
      · have HN : Hid (normT (n + 1) (mkT 7 nm.data.toList ns ks) = none) := by
          rw [normT_uni]
          cases hm : ks.mapM (normT n) with
          | none => rfl
          | some fs =>
            have h1 := (mapM_mem hm).2
            have := mapM_zip hm (fs[j], ks[j]) (List.mem_iff_getElem.2 ⟨j, by simp; omega, by simp⟩)
            rw [hn] at this
            cases this
        clear hn
        go_wp2_with fail
        exact bodyPost_ret (results_cell_tmp rfl _ rfl (no_answer HN.out HU2.out.bl (by omega) HU2.out.rs _).1 Tryz.underlying25 ty_size) rfl (norm_conv (no_answer HN.out HU2.out.bl (by omega) HU2.out.rs _).2 rfl)
      · have HN1 := hideP hn
        have hsz1 := HU2.out.sz
        have hwr := hU.out.sz
        have hF2 : TyF w1 (w.heap.size + 4) n (.agg #[.int .i64 g1, .string g2, .slice g3 g4 g5, .slice g6 g7 g8]) E1 := tyF_lower hF1 (by simp; omega)
        have hF3 := tyF_below hF2 (bl_alloc w1 (tyO g1 g2 g3 g4 g5 g6 g7 g8))
        have HPC := hideP (parts_c (w.heap.size + 4) n g1 g2 g3 g4 g5 g6 g7 g8 E1 _ hF3 (by simp; omega))
        have HU3 := hideP (HU2.out.grow (bl_alloc w1 (tyO g1 g2 g3 g4 g5 g6 g7 g8)))
        clear hn hF1 hF2 hF3 z0 z1 z2 z3 f0 f1 f2 f3 HU2
        go_wp2_with fail
        refine HPC.out.mono ?_
        rintro e w2 ⟨pa, pc, rfl, hkf, hb2, hml⟩
        have HU4 := hideP (HU3.out.grow hb2)
        have HKF := hideP hkf
        have hml' : (membersT E1).length ≤ 140737488351232 := hml
        clear HPC HU3 hkf hb2 hml
        have hne : NormT n E1 := norm_normal HN1.out
        have HNE := hideP hne
        clear hne
        go_wp2_with fail
        go_loopw [34] (fun i wr => ∃ (p : Nat), i = .int .i64 p ∧ p ≤ (membersT E1).length ∧ Hid (UInv w wr n (tyO 7 nm na ns.length nc (some ⟨b, o, none⟩) ks.length kc) (es.flatMap membersT ++ (membersT E1).take p)) ∧ Hid (KidsF wr (w.heap.size + 4) n pa (membersT E1))) (fun i _ => (membersT E1).length - (intOf i).toNat)
        case atStart => exact ⟨0, rfl, Nat.zero_le _, by simpa using HU4, HKF⟩
        case round =>
          obtain ⟨p, rfl, hp, hU, hKF⟩ := hrel
          clear HU4 HKF
          by_cases hpt : p < (membersT E1).length
          · have hpl : (p : Int) < ((membersT E1).length : Int) := by omega
            obtain ⟨b3, o3, k3, n3, na3, nl3, nc3, la3, ll3, lc3, rfl, hbl3, q0, q1, q2, q3, ht3⟩ := kidF_at hKF.out hpt
            have hx := members_norm HNE.out _ (List.getElem_mem hpt)
            have hkx := norm_kind hx.1
            have hk3 : kindT (membersT E1)[p] = k3 := by
              obtain ⟨_, _, _, _, _, _, _, _, e, e2⟩ := tyF_form ht3
              injection e with e
              injection e with e
              injection e with e0 _
              injection e0 with _ e0
              rw [e2, e0]
            rw [hk3] at hkx
            have hk7 : k3 ≠ 7 := by rw [← hk3]; exact hx.2
            obtain ⟨X, hX⟩ : ∃ X, X = (membersT E1)[p] := ⟨_, rfl⟩
            rw [← hX] at ht3 hk3 hx
            have HX := hideP hX
            have HK3 := hideP hk3
            have HT3 := hideP (tyF_below ht3 (below_next (bl_alloc wr (tyO k3 n3 na3 nl3 nc3 la3 ll3 lc3)) (bl_alloc _ (tyO k3 n3 na3 nl3 nc3 la3 ll3 lc3))))
            have HU5 := hideP (hU.out.grow (below_next (bl_alloc wr (tyO k3 n3 na3 nl3 nc3 la3 ll3 lc3)) (bl_alloc _ (tyO k3 n3 na3 nl3 nc3 la3 ll3 lc3))))
            have HKF5 := hideP (kidsF_below hKF.out (below_next (bl_alloc wr (tyO k3 n3 na3 nl3 nc3 la3 ll3 lc3)) (bl_alloc _ (tyO k3 n3 na3 nl3 nc3 la3 ll3 lc3))))
            have hbx : ((wr.alloc (tyO k3 n3 na3 nl3 nc3 la3 ll3 lc3)).alloc (tyO k3 n3 na3 nl3 nc3 la3 ll3 lc3)).heap[wr.heap.size]? = some (tyO k3 n3 na3 nl3 nc3 la3 ll3 lc3) := (Below.heap_alloc _ _ _ (by simp)).trans (heap_alloc_last wr _)
            have hszr := hU.out.sz
            clear hX hx hk3 ht3
            by_cases h0 : k3 = 0
            · subst h0
              have HTG := hideP (tag_c 0 n3 na3 nl3 nc3 la3 ll3 lc3 (wr.alloc (tyO 0 n3 na3 nl3 nc3 la3 ll3 lc3)))
              go_wp2_with fail
              refine HTG.out.mono ?_
              rintro e w5 ⟨rfl, rfl⟩
              have ht0 : tagV 0 = -1 := rfl
              obtain ⟨⟨z0, z1, z2, z3⟩, ⟨f0, f1, f2, f3⟩, hlt1⟩ := res_facts HU5.out.rs
              have HN : Hid (normT (n + 1) (mkT 7 nm.data.toList ns ks) = none) := by
                refine union_no (es := es ++ [E1]) (P := es.flatMap membersT ++ (membersT E1).take p) (x := X) (M := (membersT E1).drop (p + 1)) (by have := hel.out; simp; omega) ?_ ?_ (.inl HK3.out)
                · exact norms_snoc hel.out hlt hes.out HN1.out
                · exact flat_mid HX.out
              go_wp2_with fail
              go_quiet (fail)
              go_wp2_with fail
              exact bodyPost_ret (results_cell_tmp rfl _ rfl (no_answer0 HN.out (below_drewN HU5.out.bl nq) (by omega) HU5.out.rs).1 Tryz.underlying25 ty_size) rfl (norm_conv (no_answer0 HN.out (below_drewN HU5.out.bl nq) (by omega) HU5.out.rs).2 rfl)
            · obtain ⟨t, ht⟩ : ∃ t : Nat, k3 = (t : Int) + 1 := ⟨(k3 - 1).toNat, by omega⟩
              have ht6 : t < 6 := by omega
              have hti : (t : Int) < 6 := by omega
              have hm1 : ((t : Int) == -1) = false := by rw [beq_eq_false_iff_ne]; omega
              have htg := tag_kind ht ht6
              have HTG := hideP (tag_c k3 n3 na3 nl3 nc3 la3 ll3 lc3 (wr.alloc (tyO k3 n3 na3 nl3 nc3 la3 ll3 lc3)))
              rw [htg] at HTG
              have HKT := hideP ht
              clear ht htg hkx hk7 h0
              obtain ⟨⟨z0, z1, z2, z3⟩, ⟨f0, f1, f2, f3⟩, hlt1⟩ := res_facts hU.out.rs
              obtain ⟨cs, hcs, hcs2, hcs3⟩ := hU.out.mm
              obtain ⟨fs, hfs, hfs2, hfs3⟩ := hU.out.fd
              have fF : wr.frozen? ⟨w.heap.size + 1 + 1 + 1, t, none⟩ = false := by simp [World.frozen?, hfs]
              have cF : wr.cell? ⟨w.heap.size + 1 + 1 + 1, t, none⟩ = some (.bool (firstK (es.flatMap membersT ++ (membersT E1).take p) ((t : Int) + 1)).isSome) := by
                rw [cell_of_row wr (w.heap.size + 1 + 1 + 1) _ _ _ _ hfs]
                exact hfs3 t ht6
              have fM : ∀ i, wr.frozen? ⟨w.heap.size + 1 + 1, i, none⟩ = false := fun i => by simp [World.frozen?, hcs]
              have m0 := fM (t * 4)
              have m1 := fM (t * 4 + 1)
              have m2 := fM (t * 4 + 2)
              have m3 := fM (t * 4 + 3)
              have hM : ∀ i, i < 24 → ∃ v, wr.cell? ⟨w.heap.size + 1 + 1, i, none⟩ = some v := fun i hi => by
                rw [cell_of_row wr (w.heap.size + 1 + 1) _ _ _ _ hcs]
                exact ⟨_, Array.getElem?_eq_getElem (by omega)⟩
              have hlM : w.heap.size + 1 + 1 < wr.heap.size := lt_of_block hcs
              have hlF : w.heap.size + 1 + 1 + 1 < wr.heap.size := lt_of_block hfs
              have HC3 := hideP hcs3
              have HCS := hideP hcs
              clear hfs hfs2 hfs3 fM hcs3 hbx hcs
              cases hfk : firstK (es.flatMap membersT ++ (membersT E1).take p) ((t : Int) + 1) with
              | none =>
                rw [hfk, Option.isSome_none] at cF
                have HFK := hideP hfk
                obtain ⟨v0, c0⟩ := hM (t * 4) (by omega)
                obtain ⟨v1, c1⟩ := hM (t * 4 + 1) (by omega)
                obtain ⟨v2, c2⟩ := hM (t * 4 + 2) (by omega)
                obtain ⟨v3, c3⟩ := hM (t * 4 + 3) (by omega)
                clear hfk hM
                go_wp2_with fail
                refine HTG.out.mono ?_
                rintro e w5 ⟨rfl, rfl⟩
                go_wp2_with fail
                go_quiet (fail)
                go_wp2_with fail
                refine ⟨⟨p + 1, by go_num, by omega, ?_, ?_⟩, by simp [intOf]; omega⟩
                · rw [List.take_succ_eq_append_getElem hpt, ← List.append_assoc, ← HX.out]
                  exact UInv.put (c := (k3, n3, na3, nl3, nc3, la3, ll3, lc3)) (HU5.out.grow (below_drewN (Below.refl _ _) nq)) ht6 (HK3.out.trans HKT.out) (tyF_below HT3.out (below_drewN (Below.refl _ _) nq)) (.inl HFK.out)
                · exact kidsF_keep HKF5.out (by simp [World.setCell]) fun bb h1 _ => putM_other (((wr.alloc (tyO k3 n3 na3 nl3 nc3 la3 ll3 lc3)).alloc (tyO k3 n3 na3 nl3 nc3 la3 ll3 lc3)).drewN nq) _ _ _ (k3, n3, na3, nl3, nc3, la3, ll3, lc3) bb (by omega) (by omega)
              | some Y =>
                rw [hfk, Option.isSome_some] at cF
                have HFK := hideP hfk
                obtain ⟨⟨y1, y2, y3, y4, y5, y6, y7, y8⟩, hyc, hyF⟩ := HC3.out t ht6
                have hyF := hyF Y hfk
                have yc : ∀ i u, i < 4 → (Cells.list (y1, y2, y3, y4, y5, y6, y7, y8))[i]? = some u → wr.cell? ⟨w.heap.size + 1 + 1, t * 4 + i, none⟩ = some u := fun i u hi hu => by
                  rw [cell_of_row wr (w.heap.size + 1 + 1) _ _ _ _ HCS.out, hyc i hi]
                  exact hu
                have c0 : wr.cell? ⟨w.heap.size + 1 + 1, t * 4, none⟩ = some (.int .i64 y1) := yc 0 _ (by omega) rfl
                have c1 : wr.cell? ⟨w.heap.size + 1 + 1, t * 4 + 1, none⟩ = some (.string y2) := yc 1 _ (by omega) rfl
                have c2 : wr.cell? ⟨w.heap.size + 1 + 1, t * 4 + 2, none⟩ = some (.slice y3 y4 y5) := yc 2 _ (by omega) rfl
                have c3 : wr.cell? ⟨w.heap.size + 1 + 1, t * 4 + 3, none⟩ = some (.slice y6 y7 y8) := yc 3 _ (by omega) rfl
                have HYF := hideP (tyF_at (tyF_below hyF (below_next (bl_alloc wr (tyO k3 n3 na3 nl3 nc3 la3 ll3 lc3)) (bl_alloc _ (tyO k3 n3 na3 nl3 nc3 la3 ll3 lc3)))))
                have HXF := hideP (tyF_at HT3.out)
                have HSC : Hid (∀ wx, Below ((wr.alloc (tyO k3 n3 na3 nl3 nc3 la3 ll3 lc3)).alloc (tyO k3 n3 na3 nl3 nc3 la3 ll3 lc3)).heap.size ((wr.alloc (tyO k3 n3 na3 nl3 nc3 la3 ll3 lc3)).alloc (tyO k3 n3 na3 nl3 nc3 la3 ll3 lc3)) wx → Calls Tryz.prog 15 #[.agg #[.int .i64 y1, .string y2, .slice y3 y4 y5, .slice y6 y7 y8], .agg #[.int .i64 k3, .string n3, .slice na3 nl3 nc3, .slice la3 ll3 lc3]] wx fun e w' => (∃ r, e = .returned (.bool r) ∧ (r = true ↔ Y = X)) ∧ Below ((wr.alloc (tyO k3 n3 na3 nl3 nc3 la3 ll3 lc3)).alloc (tyO k3 n3 na3 nl3 nc3 la3 ll3 lc3)).heap.size ((wr.alloc (tyO k3 n3 na3 nl3 nc3 la3 ll3 lc3)).alloc (tyO k3 n3 na3 nl3 nc3 la3 ll3 lc3)) w') :=
                  fun wx hx => (tsame_c n _ _ _ _ _ (ty_below HYF.out hx) (ty_below HXF.out hx)).mono fun e w' h => ⟨h.1, below_next hx h.2⟩
                clear hfk hM yc hyc hyF
                go_wp2_with fail
                refine HTG.out.mono ?_
                rintro e w5 ⟨rfl, rfl⟩
                go_wp2_with fail
                go_cut [34, 54] from 34 to 61 (fun s34 s54 wx => s34 = .int .i64 p ∧ ∃ r, s54 = .bool (!r) ∧ (r = true ↔ Y = X) ∧ Below ((wr.alloc (tyO k3 n3 na3 nl3 nc3 la3 ll3 lc3)).alloc (tyO k3 n3 na3 nl3 nc3 la3 ll3 lc3)).heap.size ((wr.alloc (tyO k3 n3 na3 nl3 nc3 la3 ll3 lc3)).alloc (tyO k3 n3 na3 nl3 nc3 la3 ll3 lc3)) wx)
                case first =>
                  go_region_with (go_at_call 15; refine (HSC.out _ (by first | exact Below.refl _ _ | exact below_drewN (Below.refl _ _) _ | exact (Below.refl _ _).drew)).mono ?_; rintro e w6 ⟨⟨r, rfl, hr⟩, hbc⟩)
                  all_goals (go_wp2_with fail; go_meet; exact ⟨rfl, r, rfl, hr, hbc⟩)
                case rest =>
                  obtain ⟨rfl, r, rfl, hr, hbc⟩ := hcut
                  have HU6 := hideP (HU5.out.grow hbc)
                  have HR := hideP hr
                  have HT6 := hideP (tyF_below HT3.out hbc)
                  have HKF6 := hideP (kidsF_below HKF5.out hbc)
                  have hbx : ((wr.alloc (tyO k3 n3 na3 nl3 nc3 la3 ll3 lc3)).alloc (tyO k3 n3 na3 nl3 nc3 la3 ll3 lc3)).heap[wr.heap.size]? = some (tyO k3 n3 na3 nl3 nc3 la3 ll3 lc3) := (Below.heap_alloc _ _ _ (by simp)).trans (heap_alloc_last wr _)
                  obtain ⟨⟨x0, x1, x2, x3⟩, _, _⟩ := res_facts ((hbc.block _ (lt_of_block hbx)).trans hbx)
                  obtain ⟨⟨z0', z1', z2', z3'⟩, ⟨f0', f1', f2', f3'⟩, hlt1'⟩ := res_facts HU6.out.rs
                  obtain ⟨cs', hcs', hcs2', _⟩ := HU6.out.mm
                  obtain ⟨fs', hfs', hfs2', _⟩ := HU6.out.fd
                  have gF : wc.frozen? ⟨w.heap.size + 1 + 1 + 1, t, none⟩ = false := by simp [World.frozen?, hfs']
                  have dF : ∃ v, wc.cell? ⟨w.heap.size + 1 + 1 + 1, t, none⟩ = some v := by
                    rw [cell_of_row wc (w.heap.size + 1 + 1 + 1) _ _ _ _ hfs']
                    exact ⟨_, Array.getElem?_eq_getElem (by omega)⟩
                  have gM : ∀ i, wc.frozen? ⟨w.heap.size + 1 + 1, i, none⟩ = false := fun i => by simp [World.frozen?, hcs']
                  have dM : ∀ i, i < 24 → ∃ v, wc.cell? ⟨w.heap.size + 1 + 1, i, none⟩ = some v := fun i hi => by
                    rw [cell_of_row wc (w.heap.size + 1 + 1) _ _ _ _ hcs']
                    exact ⟨_, Array.getElem?_eq_getElem (by omega)⟩
                  obtain ⟨vF, dF⟩ := dF
                  obtain ⟨v0, d0⟩ := dM (t * 4) (by omega)
                  obtain ⟨v1, d1⟩ := dM (t * 4 + 1) (by omega)
                  obtain ⟨v2, d2⟩ := dM (t * 4 + 2) (by omega)
                  obtain ⟨v3, d3⟩ := dM (t * 4 + 3) (by omega)
                  have g0' := gM (t * 4)
                  have g1' := gM (t * 4 + 1)
                  have g2' := gM (t * 4 + 2)
                  have g3' := gM (t * 4 + 3)
                  have hlM' : w.heap.size + 1 + 1 < wc.heap.size := lt_of_block hcs'
                  have hlF' : w.heap.size + 1 + 1 + 1 < wc.heap.size := lt_of_block hfs'
                  clear hr hbc hbx hcs' hfs' gM dM hcs2' hfs2' m0 m1 m2 m3 fF cF c0 c1 c2 c3
                  cases r
                  · have HN : Hid (normT (n + 1) (mkT 7 nm.data.toList ns ks) = none) := by
                      refine union_no (es := es ++ [E1]) (P := es.flatMap membersT ++ (membersT E1).take p) (x := X) (M := (membersT E1).drop (p + 1)) (by have := hel.out; simp; omega) ?_ ?_ (.inr ⟨Y, ?_, fun e => ?_⟩)
                      · exact norms_snoc hel.out hlt hes.out HN1.out
                      · exact flat_mid HX.out
                      · rw [HK3.out, HKT.out]
                        exact HFK.out
                      · exact absurd (HR.out.2 e) (by decide)
                    go_wp2_with fail
                    exact bodyPost_ret (results_cell_tmp rfl _ rfl (no_answer0 HN.out HU6.out.bl (by omega) HU6.out.rs).1 Tryz.underlying25 ty_size) rfl (norm_conv (no_answer0 HN.out HU6.out.bl (by omega) HU6.out.rs).2 rfl)
                  · have hYX : Y = X := HR.out.1 rfl
                    have HFK2 : Hid (firstK (es.flatMap membersT ++ (membersT E1).take p) ((t : Int) + 1) = some X) := by
                      rw [← hYX]
                      exact HFK
                    clear hYX
                    go_wp2_with fail
                    refine ⟨⟨p + 1, by go_num, by omega, ?_, ?_⟩, by simp [intOf]; omega⟩
                    · rw [List.take_succ_eq_append_getElem hpt, ← List.append_assoc, ← HX.out]
                      exact UInv.put (c := (k3, n3, na3, nl3, nc3, la3, ll3, lc3)) HU6.out ht6 (HK3.out.trans HKT.out) HT6.out (.inr HFK2.out)
                    · exact kidsF_keep HKF6.out (by simp [World.setCell]) fun bb h1 _ => putM_other wc _ _ _ (k3, n3, na3, nl3, nc3, la3, ll3, lc3) bb (by omega) (by omega)
          · have hpl : ¬ (p : Int) < ((membersT E1).length : Int) := by omega
            go_wp2_with fail
            refine ⟨⟨j + 1, es ++ [E1], by go_num, by omega, ?_, ?_, ?_⟩, by simp [intOf]; omega⟩
            · show _ = _
              rw [List.length_append, hel.out]
              rfl
            · intro i h h'
              exact norms_snoc hel.out hlt hes.out HN1.out i h
            · have := hU.out
              rw [List.take_of_length_le (by omega)] at this
              show UInv _ _ _ _ _
              rw [List.flatMap_append]
              simpa using this
    · have hjl : ¬ (j : Int) < (ks.length : Int) := by omega
      have hes2 : es.length = ks.length := by have := hel.out; omega
      have HY : Hid (normT (n + 1) (mkT 7 nm.data.toList ns ks) = madeV (tagsL.filterMap (firstK (es.flatMap membersT)))) := by
        refine union_yes hes2 (fun i h => hes.out i h (by omega)) fun x hx => ?_
        obtain ⟨g1, g2, g3⟩ := hU.out.gd x hx
        exact ⟨by omega, g3⟩
      obtain ⟨L, hL⟩ : ∃ L, L = es.flatMap membersT := ⟨_, rfl⟩
      rw [← hL] at HY hU
      have hszr := hU.out.sz
      obtain ⟨cs, hcs, hcs2, hcs3⟩ := hU.out.mm
      obtain ⟨fs, hfs, hfs2, hfs3⟩ := hU.out.fd
      obtain ⟨A, hA⟩ : ∃ A : List Value, A = cs.toList := ⟨_, rfl⟩
      have hr : (wr.alloc (.cells #[.int .i64 7, .string ⟨#[]⟩, .slice none 0 0, .slice none 0 0] 25)).rangeAt (w.heap.size + 1 + 1) 0 A := by
        intro i v hi
        rw [Nat.zero_add, World.cell?_of_block (w := wr) (a := ⟨w.heap.size + 1 + 1, i, none⟩) (Below.heap_alloc wr _ _ (lt_of_block hcs)), cell_of_row wr (w.heap.size + 1 + 1) _ _ _ _ hcs]
        rw [hA] at hi
        simpa using hi
      have hsz : (Tryz.prog.info? 75).map (·.size) = some A.length := by
        rw [hA, show cs.toList.length = 24 by simpa using hcs2]
        kernel_rfl
      have HA : Hid (∀ t : Nat, t < 6 → ∃ c : Cells, (∀ j : Nat, j < 4 → A[t * 4 + j]? = c.list[j]?) ∧ ∀ E, firstK L ((t : Int) + 1) = some E → TyF wr (w.heap.size + 4) n c.val E) := fun t ht => by
        obtain ⟨c, h1, h2⟩ := hcs3 t ht
        refine ⟨c, fun j hj => ?_, h2⟩
        rw [← h1 j hj, hA]
        simp
      have HA24 : Hid (A.length = 24) := by
        show _ = _
        rw [hA]
        simpa using hcs2
      have HFD : Hid (∀ t : Nat, t < 6 → wr.cell? ⟨w.heap.size + 1 + 1 + 1, t, none⟩ = some (.bool (firstK L ((t : Int) + 1)).isSome)) := fun t ht => by
        rw [cell_of_row wr (w.heap.size + 1 + 1 + 1) _ _ _ _ hfs]
        exact hfs3 t ht
      have HR := hideP hr
      obtain ⟨wo, hwo⟩ : ∃ wo, wo = wr := ⟨_, rfl⟩
      subst hwo
      obtain ⟨i0, hi, hz0, hz1, hz2⟩ := info_parts info_ty
      clear HK hL hcs hcs2 hcs3 hfs hfs2 hfs3 hA hr hes hel hes2
      go_wp2_with (refine wpList_load_mid rfl 75 (.tmp 4) rfl (w.heap.size + 1 + 1) 0 rfl A (.array 6 25) HR.out Tryz.underlying75 rfl hsz ?_)
      go_loopw [65] (fun i wx => ∃ (t : Nat) (v : Value) (cl : List Cells), i = .int .i64 t ∧ t ≤ 6 ∧ Hid (cl.length = ((tagsL.take t).filterMap (firstK L)).length) ∧ Hid (∀ i (h : i < cl.length) (h' : i < ((tagsL.take t).filterMap (firstK L)).length), TyF wo (w.heap.size + 4) n cl[i].val ((tagsL.take t).filterMap (firstK L))[i]) ∧
        Hid (Below wo.heap.size wo wx) ∧ Hid (wx.heap[wo.heap.size]? = some (.cells #[.int .i64 7, .string ⟨#[]⟩, .slice none 0 0, v] 25)) ∧ Hid (wx.ownsRow (wo.heap.size + 1) 25 4 v cl.length (cl.flatMap Cells.list))) (fun i _ => 6 - (intOf i).toNat)
      case atStart => exact ⟨0, .slice none 0 0, [], rfl, by omega, rfl, fun i h => absurd h (Nat.not_lt_zero _), bl_alloc _ _, heap_alloc_last _ _, World.ownsRow_nil ..⟩
      case round =>
        obtain ⟨t, v, cl, rfl, ht, hcl, hct, hbx, hux, hox⟩ := hrel
        by_cases ht6 : t < 6
        · have hti : (t : Int) < 6 := by omega
          obtain ⟨⟨y1, y2, y3, y4, y5, y6, y7, y8⟩, hyc, hyF⟩ := HA.out t ht6
          have a0 : A[t * 4]? = some (.int .i64 y1) := hyc 0 (by omega)
          have a1 : A[t * 4 + 1]? = some (.string y2) := hyc 1 (by omega)
          have a2 : A[t * 4 + 2]? = some (.slice y3 y4 y5) := hyc 2 (by omega)
          have a3 : A[t * 4 + 3]? = some (.slice y6 y7 y8) := hyc 3 (by omega)
          have hix := arr_index ht6 a0 a1 a2 a3
          have HYF := hideP hyF
          have cF := (hbx.out.cell (p := ⟨w.heap.size + 1 + 1 + 1, t, none⟩) (by show w.heap.size + 1 + 1 + 1 < wo.heap.size; omega)).trans (HFD.out t ht6)
          have hlx : wo.heap.size < wr.heap.size := lt_of_block hux.out
          have hl3 : w.heap.size + 1 + 1 + 1 < wr.heap.size := by omega
          clear hyc hyF a0 a1 a2 a3
          cases hfk : firstK L ((t : Int) + 1) with
          | none =>
            rw [hfk, Option.isSome_none] at cF
            have HFK := hideP hfk
            clear hfk
            go_wp2_with fail
            refine ⟨⟨t + 1, v, cl, by go_num, by omega, ?_, ?_, hbx.out.alloc (Nat.le_of_lt hlx) _, (Below.heap_alloc _ _ _ hlx).trans hux.out, hox.out.alloc _⟩, by simp [intOf]; omega⟩
            · show _ = _
              rw [tags_take _ _ ht6, HFK.out, List.append_nil]
              exact hcl.out
            · show ∀ i, _
              rw [tags_take _ _ ht6, HFK.out, List.append_nil]
              exact hct.out
          | some X =>
            rw [hfk, Option.isSome_some] at cF
            have HFK := hideP hfk
            have HXF := hideP (HYF.out X hfk)
            obtain ⟨u0, _, _⟩ := res_facts hux.out
            obtain ⟨_, _, _, u3⟩ := u0
            have uf : wr.frozen? ⟨wo.heap.size, 3, none⟩ = false := (res_facts hux.out).2.1.2.2.2
            have hcl6 : cl.length ≤ 6 := by
              rw [hcl.out]
              refine Nat.le_trans (List.length_filterMap_le _ _) ?_
              simp [tagsL]
              omega
            have HUN : Hid (∀ w4, ((wr.alloc (tyO y1 y2 y3 y4 y5 y6 y7 y8)).alloc (tyO y1 y2 y3 y4 y5 y6 y7 y8)).grownBy w4 v.ownBlock → w4.cell? ⟨wo.heap.size, 3, none⟩ = some v ∧ w4.frozen? ⟨wo.heap.size, 3, none⟩ = false ∧ wo.heap.size < w4.heap.size ∧ w4.heap[wo.heap.size]? = some (.cells #[.int .i64 7, .string ⟨#[]⟩, .slice none 0 0, v] 25)) := by
              intro w4 hg
              have h1 := (hg.block wo.heap.size (by simp; omega) (fun e => by have := (hox.out.lt _ e.symm).1; omega)).trans ((Below.heap_alloc _ _ _ (by simp; omega)).trans ((Below.heap_alloc _ _ _ hlx).trans hux.out))
              have h2 := res_facts h1
              exact ⟨h2.1.2.2.2, h2.2.1.2.2.2, h2.2.2, h1⟩
            clear hfk
            go_wp2_with (at_builtin; refine wpList_append_own_at _ rfl (.tmp 73) (.tmp 75) 23 rfl (wo.heap.size + 1) 25 i0 _ 4 72 Tryz.underlying23 hi hz0 hz1 hz2 rfl (by decide) _ _ _ rfl ((hox.out.alloc _).alloc _) ⟨_, 0, none⟩ 1 1 [.int .i64 y1, .string y2, .slice y3 y4 y5, .slice y6 y7 y8] rfl rfl (cells_newN _ (by simp) _ _ _ _ _) (cells_one (y1, y2, y3, y4, y5, y6, y7, y8)) (by unfold maxLen; omega) (by omega) (by simp; omega) ?_; intro v' w4 hown' hgrow _ hloc; obtain ⟨gg, cap', rfl⟩ := own_form hown'; have HOWN := hideP hown'; have HGROW := hideP hgrow; obtain ⟨uc4, uf4, hl4, hu4⟩ := HUN.out w4 hgrow; have HU4 := hideP hu4; clear hu4; clear hown' hgrow hloc)
            refine ⟨⟨t + 1, _, cl ++ [(y1, y2, y3, y4, y5, y6, y7, y8)], by go_num, by omega, ?_, ?_, ?_, cells_setCell HU4.out, ?_⟩, by simp [intOf]; omega⟩
            · show _ = _
              rw [tags_take _ _ ht6, HFK.out, List.length_append, List.length_append, hcl.out]
              rfl
            · show ∀ i, _
              rw [tags_take _ _ ht6, HFK.out]
              intro i h h'
              by_cases hic : i < cl.length
              · rw [List.getElem_append_left hic, List.getElem_append_left (by have := hcl.out; omega)]
                exact hct.out i hic (by have := hcl.out; omega)
              · have hie : i = cl.length := by simp at h; omega
                subst hie
                rw [List.getElem_append_right (Nat.le_refl _), List.getElem_append_right (by have := hcl.out; omega)]
                simp only [Nat.sub_self, List.getElem_cons_zero, hcl.out]
                exact HXF.out
            · show Below _ _ _
              refine Below.setCell (p := ⟨wo.heap.size, 3, none⟩) ?_ (Nat.le_refl _) _
              exact ((hbx.out.alloc (Nat.le_of_lt hlx) _).alloc (by simp; omega) _).grown HGROW.out (by simp; omega) fun k e => by have := (hox.out.lt _ e).1; omega
            · have := ownsRow_setCell_below HOWN.out (a := ⟨wo.heap.size, 3, none⟩) (Nat.lt_succ_self _) (.slice (some ⟨gg, 0, none⟩) (cl.length + 1) cap')
              show World.ownsRow _ _ _ _ _ _ _
              simpa [Cells.list] using this
        · have ht' : t = 6 := by omega
          subst ht'
          have htk : tagsL.take 6 = tagsL := rfl
          rw [htk] at hcl hct
          obtain ⟨l, hl⟩ : ∃ l, l = tagsL.filterMap (firstK L) := ⟨_, rfl⟩
          rw [← hl] at hcl hct HY
          have hcl6 : cl.length ≤ 6 := by
            rw [hcl.out, hl]
            exact Nat.le_trans (List.length_filterMap_le _ _) (by simp [tagsL])
          have HB := hideP (below_next hU.out.bl hbx.out)
          have HRS : Hid (wr.heap[w.heap.size + 1]? = some zO) := (hbx.out.block _ (lt_of_block hU.out.rs)).trans hU.out.rs
          obtain ⟨⟨z0, z1, z2, z3⟩, ⟨f0, f1, f2, f3⟩, hlt1⟩ := res_facts HRS.out
          obtain ⟨⟨uu0, uu1, uu2, uu3⟩, _, hlu⟩ := res_facts hux.out
          have HCT : Hid (∀ i (h : i < cl.length) (h' : i < l.length), TyF wr (w.heap.size + 4) n cl[i].val l[i]) := fun i h h' => tyF_below (hct.out i h h') hbx.out
          obtain ⟨ka', kc', rfl, hkc, hkf⟩ := kidsF_of_owns (lo := w.heap.size + 4) (ks := l) hox.out (by omega) hcl.out.symm (fun i h1 h2 => HCT.out i h1 h2)
          have HKF := hideP hkf
          clear hl htk hct hkf
          have hkeep : ∀ x0 x1 x2 x3 bb, w.heap.size + 4 ≤ bb → bb < wr.heap.size → ((((wr.setCell ⟨w.heap.size + 1, 0, none⟩ x0).setCell ⟨w.heap.size + 1, 1, none⟩ x1).setCell ⟨w.heap.size + 1, 2, none⟩ x2).setCell ⟨w.heap.size + 1, 3, none⟩ x3).heap[bb]? = wr.heap[bb]? := fun x0 x1 x2 x3 bb h1 _ => other_set4 (by omega) _ _ _ _
          have HKEEP := hideP hkeep
          clear hkeep
          clear hux hox
          rcases l with _ | ⟨X, _ | ⟨X', rest⟩⟩
          · skip
            have uu4 : wr.cell? ⟨wo.heap.size, 3, none⟩ = some (.slice ka' 0 kc') := uu3
            clear uu3
            have HN : Hid (normT (n + 1) (mkT 7 nm.data.toList ns ks) = none) := HY
            clear HY
            go_wp2_with fail
            exact bodyPost_ret (results_cell_tmp rfl _ rfl (no_answer0 HN.out HB.out (by omega) HRS.out).1 Tryz.underlying25 ty_size) rfl (norm_conv (no_answer0 HN.out HB.out (by omega) HRS.out).2 rfl)
          · skip
            have uu4 : wr.cell? ⟨wo.heap.size, 3, none⟩ = some (.slice ka' 1 kc') := uu3
            clear uu3
            have HN : Hid (normT (n + 1) (mkT 7 nm.data.toList ns ks) = some X) := HY
            obtain ⟨b5, o5, k5, n5, na5, nl5, nc5, la5, ll5, lc5, rfl, hbl5, q0, q1, q2, q3, ht5⟩ := kidF_at HKF.out (i := 0) (by simp)
            simp only [Nat.zero_mul, Nat.add_zero] at q0 q1 q2 q3
            have HT5 := hideP ht5
            clear HY ht5
            go_wp2_with fail
            refine bodyPost_ret (results_cell_tmp rfl _ rfl (set4 HRS.out _ _ _ _) Tryz.underlying25 ty_size) rfl ?_
            exact an_answer HN.out (below_set4 HB.out (by omega) _ _ _ _) (tyF_lower (tyF_mono (tyF_keep HT5.out (by rw [size_set4]; exact Nat.le_refl _) (HKEEP.out _ _ _ _)) (Nat.le_succ n)) (by omega)) rfl
          · skip
            have HN : Hid (normT (n + 1) (mkT 7 nm.data.toList ns ks) = some (mkT 7 [] [] (X :: X' :: rest))) := HY
            have e0 : (((X :: X' :: rest).length : Int) == 0) = false := by rw [beq_eq_false_iff_ne]; simp; omega
            have e1 : (((X :: X' :: rest).length : Int) == 1) = false := by rw [beq_eq_false_iff_ne]; simp; omega
            have hlen6 : (X :: X' :: rest).length ≤ 6 := by rw [← hcl.out]; exact hcl6
            obtain ⟨lst, hlst⟩ : ∃ lst, lst = X :: X' :: rest := ⟨_, rfl⟩
            rw [← hlst] at HN e0 e1 HKF hkc uu3 hlen6
            clear HY hlst
            go_wp2_with fail
            refine bodyPost_ret (results_cell_tmp rfl _ rfl (set4 HRS.out _ _ _ _) Tryz.underlying25 ty_size) rfl ?_
            refine an_answer HN.out (below_set4 HB.out (by omega) _ _ _ _) ?_ rfl
            refine ⟨7, ⟨#[]⟩, none, 0, ka', kc', [], lst, rfl, rfl, by decide, by decide, by simp, ⟨Nat.le_refl _, by simp [reachBytes]⟩, ⟨hkc, by unfold reachBytes; omega⟩, .inl rfl, ?_⟩
            exact rowF_lower (kidsF_keep HKF.out (by rw [size_set4]; exact Nat.le_refl _) (HKEEP.out _ _ _ _)) (by omega)
end Go.Proofs.YtmpcjcjacpjilabGreatDoor

/- slices.SortFunc of fields, by the library's contract. -/
namespace Go.Proofs.YtmpcjcjacpjilabGreatDoor
open Go.RowKit Go.Shelf Go.Lib Go.Sort

/-- A field: its name, its type's cells, its type. -/
abbrev Fd := ByteArray × Cells × List Ty
def encF (f : Fd) : List Value := .string f.1 :: f.2.1.list

theorem cmp_lt : ∀ a b : List UInt8, Lib.compareBytes a b < 0 ↔ ltB a b = true
  | [], [] => by simp [Lib.compareBytes, ltB]
  | [], _ :: _ => by simp [Lib.compareBytes, ltB]
  | _ :: _, [] => by simp [Lib.compareBytes, ltB]
  | x :: r, y :: s => by
    have ih := cmp_lt r s
    unfold Lib.compareBytes ltB
    by_cases h1 : x.toNat < y.toNat
    · simp [h1, UInt8.lt_iff_toNat_lt]
    · by_cases h2 : y.toNat < x.toNat
      · simp [h1, h2, UInt8.lt_iff_toNat_lt]
      · simp [h1, h2, UInt8.lt_iff_toNat_lt, ih]

def cfF (x y : Fd) : Int := Lib.compareBytes x.1.data.toList y.1.data.toList

theorem ltF (x y : Fd) : ltOf cfF x y = ltB x.1.data.toList y.1.data.toList := by
  unfold ltOf cfF
  rw [Bool.eq_iff_iff, decide_eq_true_eq]
  exact cmp_lt _ _

theorem ltB_cases (a b : List UInt8) : ltB a b = true ∨ a = b ∨ ltB b a = true := by
  cases h1 : ltB a b
  · cases h2 : ltB b a
    · exact .inr (.inl (ltB_total a b h1 h2))
    · exact .inr (.inr rfl)
  · exact .inl rfl

theorem swoF : SWO (ltOf cfF) where
  irrefl x := by rw [ltF]; exact ltB_irr _
  trans x y z h1 h2 := by
    rw [ltF] at *
    exact ltB_trans _ _ _ h1 h2
  ntrans x y z h1 h2 := by
    rw [ltF] at *
    rcases ltB_cases x.1.data.toList y.1.data.toList with h | h | h
    · rw [h] at h1; cases h1
    · rw [h]; exact h2
    · rcases ltB_cases y.1.data.toList z.1.data.toList with g | g | g
      · rw [g] at h2; cases h2
      · rw [← g]; exact h1
      · cases hx : ltB x.1.data.toList z.1.data.toList
        · rfl
        · exact (ltB_asym hx (ltB_trans _ _ _ g h)).elim

set_option maxHeartbeats 1000000 in
theorem closureF (x y : Fd) (W : World) : Calls Tryz.prog 46 #[.agg (encF x).toArray, .agg (encF y).toArray] W fun e w' => e = .returned (.int .i64 (cfF x y)) ∧ ∃ q os', w' = grow (W.drewN q) os' := by
  obtain ⟨nx, ⟨k1, n1, na1, nl1, nc1, ka1, kl1, kc1⟩, _⟩ := x
  obtain ⟨ny, ⟨k2, n2, na2, nl2, nc2, ka2, kl2, kc2⟩, _⟩ := y
  have hcon := fun W' => Tryz.strings_Compare nx ny W'
  unfold cfF
  generalize Lib.compareBytes nx.data.toList ny.data.toList = r at hcon ⊢
  show Calls Tryz.prog 46 #[.agg #[.string nx, .int .i64 k1, .string n1, .slice na1 nl1 nc1, .slice ka1 kl1 kc1], .agg #[.string ny, .int .i64 k2, .string n2, .slice na2 nl2 nc2, .slice ka2 kl2 kc2]] W _
  go_enter Tryz.func46, Tryz.ntmps46
  go_wp2_with (go_at_call 47; refine (hcon _).mono ?_; rintro e w' ⟨rfl, rfl⟩)
  go_ret
  exact ⟨rfl, 0, _, by rw [alloc_eq_grow, alloc_eq_grow, grow_grow]; rfl⟩

theorem sort_block {w : World} {blk off n : Nat} {d : Array Fd} {os : Array Obj} : w.grownBy (sortWorldK encF 5 w blk off n d os) (some blk) := by
  refine ⟨rfl, rfl, rfl, size_sortWorldK_c encF 5 w blk off n d os, fun k hk hne => ?_⟩
  have hk' : k ≠ blk := fun e => hne (by rw [e])
  unfold sortWorldK putRowK putRow mapBlock Go.Sort.ahead grow
  simp only
  rw [Array.getElem?_append_left (by simpa using hk), Array.getElem?_modify, if_neg (fun e => hk' e.symm)]

/-- The fields, sorted by their names. -/
theorem sortF_c (blk cap : Nat) (d : Array Fd) (w : World) (hH : HoldsK encF 5 w blk 0 d) (hblk : blk < w.heap.size) (hsz : d.size ≤ 16) :
    Calls Tryz.prog 45 #[.slice (some ⟨blk, 0, none⟩) d.size cap, .func (.func 46) #[] #[]] w fun e w' => e = .returned (.tuple #[]) ∧
      ∃ d' : Array Fd, d'.toList.Perm d.toList ∧ (∀ i j, i < j → j < d'.size → ltB (d'[j]!).1.data.toList (d'[i]!).1.data.toList = false) ∧ HoldsK encF 5 w' blk 0 d' ∧ w.grownBy w' (some blk) ∧ d'.size = d.size := by
  have eg : ∀ args w, (callFunc 46 args).run Tryz.prog w = .ok (.enter 46 args) w := enters_of Tryz.func46 (by kernel_rfl) rfl
  have hcon := AnyQ.slices_SortFunc Tryz.laysSort 5 Tryz.isAgg68 Tryz.sizeOf68 encF (fun x => rfl) (fun x v hv => by
    simp [encF, Cells.list] at hv
    rcases hv with rfl | rfl | rfl | rfl | rfl <;> rfl) cfF swoF 46 #[] blk 0 cap d w eg (fun _ _ _ _ x y => closureF x y _) hH hblk (by omega)
  change Calls Tryz.prog 45 _ _ _ at hcon
  refine hcon.mono fun e w' ⟨he, d', n, os, ⟨hp1, _, hp3⟩, hs, hw⟩ => ⟨he, d', ?_, ?_, ?_, ?_, hp1⟩
  · have h1 : d'.extract 0 d.size = d' := by rw [← hp1]; simp
    have h2 : d.extract 0 d.size = d := by simp
    rw [h1, h2] at hp3
    exact hp3
  · intro i j hij hj
    have := hs i j (Nat.zero_le _) hij (by omega)
    rwa [ltF] at this
  · rw [hw]
    exact holdsK_sortWorldK_c encF 5 w blk 0 d d' n os hH hblk hp1
  · rw [hw]
    exact sort_block
end Go.Proofs.YtmpcjcjacpjilabGreatDoor

/- Records: fields that were sorted, and the record that the chapter says; without a program in sight. -/
namespace Go.Proofs.YtmpcjcjacpjilabGreatDoor

theorem sorted_strict {ps : List (List UInt8 × Ty)} (hs : ∀ i j (_ : i < j) (hj : j < ps.length), ltB ps[j].1 (ps[i]'(by omega)).1 = false) (hd : ∀ i (h : i + 1 < ps.length), (ps[i]'(by omega)).1 ≠ ps[i + 1].1) : RiseP ps := by
  unfold RiseP
  rw [List.pairwise_iff_getElem]
  intro i j hi hj hij
  cases h : ltB ps[i].1 ps[j].1
  · exfalso
    have e := ltB_total _ _ h (hs i j hij hj)
    by_cases h1 : j = i + 1
    · subst h1
      exact hd i hj e
    · have a := hs i (i + 1) (by omega) (by omega)
      have b := hs (i + 1) j (by omega) hj
      rw [← e] at b
      exact hd i (by omega) (ltB_total _ _ b a)
  · rfl

theorem rise_fst {l : List (List UInt8 × Ty)} (h : RiseP l) : (l.map (·.1)).Nodup := rise_nodup h

/-- Fields whose names rise are the record. -/
theorem record_sorted {ns : List (List UInt8)} {es : List Ty} {ps : List (List UInt8 × Ty)} (hl : ns.length = es.length) (h16 : ns.length ≤ 16) (hn : ∀ s ∈ ns, nameV s = true) (hp : ps.Perm (ns.zip es)) (hr : RiseP ps) : recordV ns es = some (recT ps) := by
  have hnd : ns.Nodup := by
    have h1 := (hp.map (·.1))
    have h2 : (ns.zip es).map (·.1) = ns := by
      rw [List.map_fst_zip]
      omega
    rw [h2] at h1
    exact h1.nodup_iff.1 (rise_fst hr)
  unfold recordV
  rw [if_neg (by omega)]
  cases hg : recGo ns es [] with
  | none =>
    rcases recGo_none hl hg with ⟨s, hs, h0⟩ | h0
    · rw [hn s hs] at h0
      cases h0
    · exact absurd (by simpa using hnd) h0
  | some l =>
    obtain ⟨hrl, hm, _, _⟩ := recGo_some hl List.Pairwise.nil hg
    have : l = ps := rising_ext (R := fun a b : List UInt8 × Ty => ltB a.1 b.1 = true) (fun a h => by rw [ltB_irr] at h; cases h) (fun a b h k => ltB_asym h k) l ps hrl hr fun x => by
      rw [hm x, hp.mem_iff]
      simp
    rw [this]
    rfl

/-- A name that stands twice: no record. -/
theorem record_twice {ns : List (List UInt8)} {es : List Ty} {ps : List (List UInt8 × Ty)} (hl : ns.length = es.length) (hp : ps.Perm (ns.zip es)) {i : Nat} (hi : i + 1 < ps.length) (he : (ps[i]'(by omega)).1 = ps[i + 1].1) : recordV ns es = none := by
  unfold recordV
  split
  · rfl
  · cases hg : recGo ns es [] with
    | none => rfl
    | some l =>
      exfalso
      obtain ⟨hrl, hm, _, _⟩ := recGo_some hl List.Pairwise.nil hg
      have h1 := recGo_permP hl hg
      have h2 : ps.Perm l := hp.trans (by simpa using h1.symm)
      have h3 := (h2.map (·.1)).nodup_iff.2 (rise_fst hrl)
      have h4 := List.pairwise_iff_getElem.1 h3 i (i + 1) (by simp; omega) (by simp; omega) (by omega)
      simp only [List.getElem_map] at h4
      exact h4 he

theorem record_name {ns : List (List UInt8)} {es : List Ty} {s : List UInt8} (hs : s ∈ ns) (h0 : nameV s = false) : recordV ns es = none := by
  unfold recordV
  split
  · rfl
  · rename_i hc
    cases hg : recGo ns es [] with
    | none => rfl
    | some l =>
      obtain ⟨_, _, hn, _⟩ := recGo_some (by omega) List.Pairwise.nil hg
      rw [hn s hs] at h0
      cases h0
end Go.Proofs.YtmpcjcjacpjilabGreatDoor

/- What the first loop of types.normRecord keeps. -/
namespace Go.Proofs.YtmpcjcjacpjilabGreatDoor
open Go.RowKit Go.Shelf Go.Lib Go.Sort

structure RInv (w wr : World) (n : Nat) (box : Obj) (ns : List (List UInt8)) (ks : List Ty) (fs : List Fd) : Prop where
  bl : Below w.heap.size w wr
  bx : wr.heap[w.heap.size]? = some box
  rs : wr.heap[w.heap.size + 1]? = some zO
  rm : ∃ cs : Array Value, wr.heap[w.heap.size + 2]? = some (.cells cs 69) ∧ cs.size = 80 ∧ ∀ (i : Nat) (h : i < fs.length) (c : Nat), c < 5 → cs[i * 5 + c]? = (encF fs[i])[c]?
  ty : ∀ (i : Nat) (h : i < fs.length) (h' : i < ns.length) (h'' : i < ks.length), fs[i].1.data.toList = ns[i] ∧ nameV ns[i] = true ∧ ∃ E, fs[i].2.2 = [E] ∧ normT n ks[i] = some E ∧ TyF wr (w.heap.size + 3) n fs[i].2.1.val E

section
variable {w wr wr' : World} {n : Nat} {box : Obj} {ns : List (List UInt8)} {ks : List Ty} {fs : List Fd}

theorem RInv.sz (h : RInv w wr n box ns ks fs) : w.heap.size + 3 ≤ wr.heap.size := by
  obtain ⟨cs, hf, _⟩ := h.rm
  have := lt_of_block hf
  omega

theorem RInv.grow (h : RInv w wr n box ns ks fs) (hb : Below wr.heap.size wr wr') : RInv w wr' n box ns ks fs where
  bl := below_next h.bl hb
  bx := (hb.block _ (lt_of_block h.bx)).trans h.bx
  rs := (hb.block _ (lt_of_block h.rs)).trans h.rs
  rm := by
    obtain ⟨cs, h1, h2, h3⟩ := h.rm
    exact ⟨cs, (hb.block _ (lt_of_block h1)).trans h1, h2, h3⟩
  ty i g g' g'' := by
    obtain ⟨h1, h2, E, h3, h4, h5⟩ := h.ty i g g' g''
    exact ⟨h1, h2, E, h3, h4, tyF_below h5 hb⟩

/-- Five cells at a place. -/
def putR (wr : World) (R j : Nat) (s : ByteArray) (c : Cells) : World :=
  ((((wr.setCell ⟨R, j * 5, none⟩ (.string s)).setCell ⟨R, j * 5 + 1, none⟩ (.int .i64 c.1)).setCell ⟨R, j * 5 + 2, none⟩ (.string c.2.1)).setCell ⟨R, j * 5 + 3, none⟩ (.slice c.2.2.1 c.2.2.2.1 c.2.2.2.2.1)).setCell ⟨R, j * 5 + 4, none⟩ (.slice c.2.2.2.2.2.1 c.2.2.2.2.2.2.1 c.2.2.2.2.2.2.2)

theorem putR_other (wr : World) (R j : Nat) (s : ByteArray) (c : Cells) (i : Nat) (h1 : i ≠ R) : (putR wr R j s c).heap[i]? = wr.heap[i]? := by
  unfold putR
  rw [Below.heap_setCell _ _ _ _ h1, Below.heap_setCell _ _ _ _ h1, Below.heap_setCell _ _ _ _ h1, Below.heap_setCell _ _ _ _ h1, Below.heap_setCell _ _ _ _ h1]

theorem putR_size (wr : World) (R j : Nat) (s : ByteArray) (c : Cells) : (putR wr R j s c).heap.size = wr.heap.size := by
  unfold putR
  simp [World.setCell]

theorem RInv.put (h : RInv w wr n box ns ks fs) {s : ByteArray} {c : Cells} {E : Ty} (hj : fs.length < 16) (h1 : fs.length < ns.length) (h2 : fs.length < ks.length) (hs : s.data.toList = ns[fs.length]) (hn : nameV ns[fs.length] = true) (hE : normT n ks[fs.length] = some E) (hF : TyF wr (w.heap.size + 3) n c.val E) :
    RInv w (putR wr (w.heap.size + 2) fs.length s c) n box ns ks (fs ++ [(s, c, [E])]) := by
  have hsz := h.sz
  have hkeep : ∀ b, w.heap.size + 3 ≤ b → b < wr.heap.size → (putR wr (w.heap.size + 2) fs.length s c).heap[b]? = wr.heap[b]? := fun b hb _ => putR_other _ _ _ _ _ _ (by omega)
  refine ⟨?_, ?_, ?_, ?_, ?_⟩
  · unfold putR
    exact ((((h.bl.setCell (by simp) _).setCell (by simp) _).setCell (by simp) _).setCell (by simp) _).setCell (by simp) _
  · rw [putR_other _ _ _ _ _ _ (by omega)]
    exact h.bx
  · rw [putR_other _ _ _ _ _ _ (by omega)]
    exact h.rs
  · obtain ⟨cs, g1, g2, g3⟩ := h.rm
    refine ⟨_, cells_setCell (cells_setCell (cells_setCell (cells_setCell (cells_setCell g1)))), by simpa using g2, fun i hi e he => ?_⟩
    by_cases hij : i < fs.length
    · rw [List.getElem_append_left hij, ← g3 i hij e he]
      simp only [Array.getElem?_setIfInBounds]
      rw [if_neg (by omega), if_neg (by omega), if_neg (by omega), if_neg (by omega), if_neg (by omega)]
    · have : i = fs.length := by simp at hi; omega
      subst this
      rw [List.getElem_append_right (Nat.le_refl _)]
      have : e = 0 ∨ e = 1 ∨ e = 2 ∨ e = 3 ∨ e = 4 := by omega
      rcases this with rfl | rfl | rfl | rfl | rfl <;> simp [Array.getElem?_setIfInBounds, encF, Cells.list] <;> omega
  · intro i g g' g''
    by_cases hij : i < fs.length
    · obtain ⟨k1, k2, E', k3, k4, k5⟩ := h.ty i hij g' g''
      rw [List.getElem_append_left hij]
      exact ⟨k1, k2, E', k3, k4, tyF_keep k5 (by rw [putR_size]; exact Nat.le_refl _) hkeep⟩
    · have : i = fs.length := by simp at g; omega
      subst this
      rw [List.getElem_append_right (Nat.le_refl _)]
      simp only [Nat.sub_self, List.getElem_cons_zero]
      exact ⟨hs, hn, E, rfl, hE, tyF_keep hF (by rw [putR_size]; exact Nat.le_refl _) hkeep⟩
end

theorem rec_kid {n j : Nat} {nm : List UInt8} {ns : List (List UInt8)} {ks : List Ty} (hj : j < ks.length) (h : normT n ks[j] = none) : normT (n + 1) (mkT 5 nm ns ks) = none := by
  rw [normT_rec]
  cases hm : ks.mapM (normT n) with
  | none => rfl
  | some fs =>
    have h1 := (mapM_mem hm).2
    have := mapM_zip hm (fs[j], ks[j]) (List.mem_iff_getElem.2 ⟨j, by simp; omega, by simp⟩)
    rw [h] at this
    cases this

theorem rec_name {n : Nat} {nm : List UInt8} {ns : List (List UInt8)} {ks : List Ty} {s : List UInt8} (hs : s ∈ ns) (h : nameV s = false) : normT (n + 1) (mkT 5 nm ns ks) = none := by
  rw [normT_rec]
  cases ks.mapM (normT n) with
  | none => rfl
  | some fs => exact record_name hs h

theorem rec_len {n : Nat} {nm : List UInt8} {ns : List (List UInt8)} {ks : List Ty} (h : ns.length ≠ ks.length ∨ 16 < ks.length) : normT (n + 1) (mkT 5 nm ns ks) = none := by
  rw [normT_rec]
  cases hm : ks.mapM (normT n) with
  | none => rfl
  | some fs =>
    have := (mapM_mem hm).2
    show recordV ns fs = none
    unfold recordV
    rw [if_pos (by omega)]

/-- The trees of fields. -/
def pairF (f : Fd) : List UInt8 × Ty := (f.1.data.toList, f.2.2.headD (mkT 0 [] [] []))

theorem rec_fields {n : Nat} {ns : List (List UInt8)} {ks : List Ty} {fs : List Fd} (hl : ns.length = ks.length) (hf : fs.length = ks.length) (h : ∀ (i : Nat) (h : i < fs.length) (h' : i < ns.length) (h'' : i < ks.length), fs[i].1.data.toList = ns[i] ∧ nameV ns[i] = true ∧ ∃ E, fs[i].2.2 = [E] ∧ normT n ks[i] = some E) :
    ∃ es, ks.mapM (normT n) = some es ∧ es.length = ks.length ∧ fs.map pairF = ns.zip es ∧ ∀ s ∈ ns, nameV s = true := by
  refine ⟨fs.map fun f => (pairF f).2, ?_, by simpa using hf, ?_, ?_⟩
  · have : ∀ (ks : List Ty) (gs : List Fd) (_ : gs.length = ks.length) (_ : ∀ (i : Nat) (h1 : i < gs.length) (h2 : i < ks.length), ∃ E, gs[i].2.2 = [E] ∧ normT n ks[i] = some E), ks.mapM (normT n) = some (gs.map fun f => (pairF f).2) := by
      intro ks
      induction ks with
      | nil =>
        intro gs hg _
        have : gs = [] := List.length_eq_zero_iff.1 (by simpa using hg)
        subst this
        rfl
      | cons k ks ih =>
        intro gs hg hh
        match gs, hg, hh with
        | [], hg, _ => simp at hg
        | g :: gs, hg, hh =>
          obtain ⟨E, e1, e2⟩ := hh 0 (by simp) (by simp)
          have e3 := ih gs (by simpa using hg) fun i h1 h2 => by
            have := hh (i + 1) (by simpa using h1) (by simpa using h2)
            simpa using this
          simp only [List.getElem_cons_zero] at e1 e2
          rw [List.mapM_cons, e2, e3]
          simp [pairF, e1]
    exact this ks fs hf fun i h1 h2 => by
      obtain ⟨_, _, E, e1, e2⟩ := h i h1 (by omega) h2
      exact ⟨E, e1, e2⟩
  · refine List.ext_getElem (by simp; omega) fun i g1 g2 => ?_
    have hi : i < fs.length := by simpa using g1
    rw [List.getElem_map, List.getElem_zip, List.getElem_map]
    have := (h i hi (by omega) (by omega)).1
    simp only [pairF, this]
  · intro s hs
    obtain ⟨i, hi, rfl⟩ := List.mem_iff_getElem.1 hs
    exact (h i (by omega) hi (by omega)).2.1

theorem holds_fields {w : World} {R : Nat} {cs : Array Value} {t : TypeId} {fs : List Fd} (hR : w.heap[R]? = some (.cells cs t)) (h : ∀ (i : Nat) (h : i < fs.length) (c : Nat), c < 5 → cs[i * 5 + c]? = (encF fs[i])[c]?) : HoldsK encF 5 w R 0 fs.toArray := by
  intro j hj
  have hj' : j < fs.length * 5 := by simpa using hj
  have hq : j / 5 < fs.length := by omega
  have hr : j % 5 < 5 := by omega
  have he : (encF fs[j / 5]).length = 5 := rfl
  refine ⟨?_, by simp [World.frozen?, hR]⟩
  rw [get_flatK _ _ _ _ (by simpa using hj'), Nat.zero_add, cell_of_row _ _ _ _ _ _ hR]
  have h1 := h (j / 5) hq (j % 5) hr
  rw [show j / 5 * 5 + j % 5 = j by omega] at h1
  rw [h1, List.getElem?_eq_getElem (by omega)]
  have e1 : fs.toArray[j / 5]! = fs[j / 5] := by simp [hq]
  rw [e1]
  simp [he, hr]
end Go.Proofs.YtmpcjcjacpjilabGreatDoor
