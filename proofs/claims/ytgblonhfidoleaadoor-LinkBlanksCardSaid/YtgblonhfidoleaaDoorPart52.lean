/- Part. -/
import Derived.Test.YtgblonhfidoleaaDoorPart50
import Derived.Test.YtgblonhfidoleaaDoorPart51
set_option maxRecDepth 100000
set_option maxHeartbeats 4000000
/- LinkBlanks: the walk. -/
namespace Go.Proofs.YtgblonhfidoleaaDoor
open Go.Proofs.Tryd
open Go.RowKit Go.Maps
/-- A text of a row is put anew. -/
theorem src_put {B g k : Nat} {w : World} {l : List Src} (h : SrcAt B w (some ⟨g, 0, none⟩) l) (hk : k < l.length) (s : ByteArray) : SrcAt B (w.setCell ⟨g, k * 2 + 1, none⟩ (.string s)) (some ⟨g, 0, none⟩) (l.set k (l[k].1, s)) := by
  rcases h with h | ⟨b, o, e, hb, hc⟩
  · rw [h] at hk; cases hk
  simp only [Option.some.injEq, Addr.mk.injEq] at e
  obtain ⟨rfl, rfl, _⟩ := e
  refine .inr ⟨g, 0, rfl, hb, fun i hi => ?_⟩
  have hi' : i < l.length := by simpa using hi
  obtain ⟨c0, c1⟩ := hc i hi'
  obtain ⟨_, d1⟩ := hc k hk
  rw [Nat.zero_add] at c0 c1 d1 ⊢
  by_cases hik : i = k
  · subst hik
    rw [List.getElem_set_self]
    exact ⟨(World.cell?_setCell_other _ _ _ _ (by simp)).trans c0, World.cell?_setCell_same _ _ _ d1⟩
  · rw [List.getElem_set_ne (fun e => hik e.symm)]
    exact ⟨(World.cell?_setCell_other _ _ _ _ (by simp <;> omega)).trans c0, (World.cell?_setCell_other _ _ _ _ (by simp <;> omega)).trans c1⟩
theorem linkBlanks_walk (a : Option Addr) (cap : Nat) (l : List Src) (k : Int) (w : World) (hw : Lx.Words w) (hs : SrcAt w.heap.size w a l /\ (∀ p ∈ l, p.1.size <= 140737488351232 /\ p.2.size <= 140737488351232) /\ (l.length : Int) <= 9223372036854775807) (_ : (Lit.int .i64 k).wf = true) :
    Calls prog 6 #[.slice a l.length cap, .int .i64 k] w fun e w' => e = .returned (.bool true) /\ Below w.heap.size w w' := by
  have HW := hideP hw
  have HS := hideP hs.1
  have HZ := hideP hs.2.1
  have hl := hs.2.2
  have HA := hideP (awake7_c w hw)
  clear hw hs
  go_enter func6, ntmps6
  go_wp2_with fail
  refine HA.out.mono ?_
  rintro e w1 ⟨rfl, hb1⟩
  have HB1 := hideP hb1
  have HS1 := hideP (HS.out.below hb1)
  clear hb1 HA
  go_wp2_with fail
  refine (few_c _ a cap l w1 HS1.out hl HZ.out).mono ?_
  rintro e w1' ⟨rfl, b, rfl, hb20⟩
  cases b with
  | false =>
    clear hb20
    go_wp2_with fail
    go_ret
    exact ⟨rfl, HB1.out⟩
  | true =>
    have h20 := hb20 rfl
    clear hb20
    by_cases hk0 : k < 0
    · go_wp2_with fail
      go_ret
      exact ⟨rfl, HB1.out⟩
    by_cases hkl : (l.length : Int) <= k
    · go_wp2_with fail
      go_ret
      exact ⟨rfl, HB1.out⟩
    obtain ⟨n, rfl⟩ : ∃ n : Nat, k = (n : Int) := ⟨k.toNat, by omega⟩
    have hn : n < l.length := by omega
    have hn' : (n : Int) < (l.length : Int) := by omega
    have hne : 0 < l.length := by omega
    obtain ⟨b, o, ha, hb, hnw⟩ := src_news HS1.out hne
    subst ha
    have HNw := hideP hnw
    have HSb : Hid (b < w1'.heap.size) := Nat.lt_of_lt_of_le hb HB1.out.size
    have t1 : w1'.cell? ⟨b, o + n * 2 + 1, none⟩ = some (.string l[n].2) := by
      have h1 := HNw.out (n * 2 + 1) (.string l[n].2) (by rw [flat_src l n hn 1 (by omega)]; rfl)
      rw [Addr.add_lit] at h1
      exact h1
    obtain ⟨T, hT⟩ : ∃ T, T = l[n].2 := ⟨_, rfl⟩
    have hTz : (T.size : Int) <= 9223372036854775807 := by rw [hT]; have := (HZ.out l[n] (List.getElem_mem hn)).2; omega
    rw [<- hT] at t1
    have HT := hideP hT
    clear hT hnw hb
    by_cases h60 : (60000 : Int) < (T.size : Int)
    · go_wp2_with fail
      go_ret
      exact ⟨rfl, HB1.out⟩
    obtain ⟨i0, hi, hz0, hz1, hz2⟩ := info_parts info_src
    go_wp2_with (at_builtin; refine wpList_append_own_at _ rfl (.const (.slice none 0 0)) (.tmp 41) 22 rfl w1'.heap.size 39 i0 _ 2 32 underlying22 hi hz0 hz1 hz2 rfl (by decide) _ 0 [] rfl (World.ownsRow_nil _ _ _ _) ⟨b, o, none⟩ l.length cap (l.flatMap srcC) rfl (srcC_len l) HNw.out (fun u hu => by obtain ⟨p, _, hp⟩ := List.mem_flatMap.1 hu; simp [srcC] at hp; rcases hp with rfl | rfl <;> rfl) (by unfold maxLen; omega) (by omega) (Nat.le_refl _) ?_)
    intro v' w4 hown' hgrow _ hloc
    obtain ⟨a1, c1, rfl⟩ := row_shape hown'
    have HB4 : Hid (Below w1'.heap.size w1' w4) := below_grow2 hgrow (Nat.le_refl _) (fun q e => by cases e)
    have HS4 := hideP (src_of_row hown' rfl hne)
    obtain ⟨g, hga, hbg, hgl, hgc⟩ := row_some hown' hne
    subst hga
    have t2 : w4.cell? ⟨g, n * 2 + 1, none⟩ = some (.string T) := by
      rw [hgc (n * 2 + 1) (by omega), flat_src l n hn 1 (by omega), HT.out]
      rfl
    have HB5 : Hid (∀ u, Below w1'.heap.size w1' (w4.setCell ⟨g, n * 2 + 1, none⟩ u)) := HB4.out.setCell (p := ⟨g, n * 2 + 1, none⟩) hbg
    have tf := hown'.frozenAt (n * 2 + 1)
    have HS5 : Hid (SrcAt w4.heap.size (w4.setCell ⟨g, n * 2 + 1, none⟩ (.string (T ++ blS))) (some ⟨g, 0, none⟩) (l.set n (l[n].1, T ++ blS))) := src_put HS4.out hn _
    clear hown' hgrow hloc hgc HNw t1
    go_wp2_with fail
    obtain ⟨W5, hW5⟩ : ∃ W5, W5 = w4.setCell ⟨g, n * 2 + 1, none⟩ (.string (T ++ blS)) := ⟨_, rfl⟩
    have HB6 : Hid (Below w1'.heap.size w1' W5) := by rw [hW5]; exact HB5.out _
    have HS6 : Hid (SrcAt W5.heap.size W5 (some ⟨g, 0, none⟩) (l.set n (l[n].1, T ++ blS))) := by rw [hW5, World.size_setCell]; exact HS5.out
    rw [<- hW5]
    have HBw : Hid (Below w.heap.size w W5) := below_next HB1.out HB6.out
    have HLS : Hid (LkS (linkV (srcs l)) (linkV (srcs (l.set n (l[n].1, T ++ blS))))) := by
      rw [HT.out, srcs_set]
      refine link_blanks (x := (l[n].1.data.toList, l[n].2.data.toList)) ?_ ?_
      · rw [List.getElem?_map, List.getElem?_eq_getElem hn]
        rfl
      · rw [HT.out] at h60
        show l[n].2.data.toList.length <= 60000
        rw [Array.length_toList]
        have : l[n].2.size = l[n].2.data.size := rfl
        omega
    have HK : Hid (∀ W, Below W5.heap.size W5 W -> Calls prog 9 #[.slice (some ⟨g, 0, none⟩) l.length c1] W (LinkP W (linkV (srcs (l.set n (l[n].1, T ++ blS)))))) := fun W hW => by
      have h := link_c (some ⟨g, 0, none⟩) c1 (l.set n (l[n].1, T ++ blS)) W (HW.out.below (below_next HBw.out hW)) ((HS6.out.below hW).mono hW.size) (by rw [List.length_set]; omega) (by
        intro p hp
        rcases List.mem_or_eq_of_mem_set hp with hp | rfl
        · exact HZ.out p hp
        · refine ⟨(HZ.out _ (List.getElem_mem hn)).1, ?_⟩
          have : (T ++ blS).size = T.size + 12 := by rw [ByteArray.size_append]; rfl
          show (T ++ blS).size <= _
          omega)
      rw [List.length_set] at h
      exact h
    clear HB5 HS5 HS4 HB4 t2 tf hbg hgl hW5 hTz
    refine (link_c (some ⟨b, o, none⟩) cap l W5 (HW.out.below HBw.out) ((HS.out.below HBw.out).mono HBw.out.size) (by omega) HZ.out).mono ?_
    intro e w6 hpost
    obtain ⟨hb6, hm⟩ := hpost
    cases hR : linkV (srcs l) with
    | inr ds =>
      have hls := HLS.out
      rw [hR] at hm hls
      obtain ⟨vD, rfl, hrow⟩ := hm
      obtain ⟨N, hN⟩ : ∃ N, ds.length = N + 1 := ⟨ds.length - 1, by have := List.length_pos_iff.2 (link_nonempty hR); omega⟩
      rw [hN] at hrow
      obtain ⟨aD, cD, rfl⟩ := row_shape hrow
      have hdl : N + 1 <= 9223372036854775807 := by
        rcases hrow.2 with ⟨_, e⟩ | ⟨g, c, cur, e, _, _, h1, h2, _⟩
        · omega
        · unfold maxLen at h2
          omega
      have hdz : (((N + 1 : Nat) : Int) <= 9223372036854775807) := by omega
      have hn0 : (0 : Int) < ((N + 1 : Nat) : Int) := by omega
      have HN := hideP hN
      have HLs := hideP hls
      have HB7 : Hid (∀ q, Below W5.heap.size W5 (w6.alloc q)) := fun q => below_next hb6 (bl_alloc w6 q)
      clear hb6 hrow hR hls HLS hN
      go_wp2_with fail
      refine (HK.out _ (HB7.out _)).mono ?_
      intro e w8 hpost
      obtain ⟨hb8, hm⟩ := hpost
      cases hR2 : linkV (srcs (l.set n (l[n].1, T ++ blS))) with
      | inl y => have h := HLs.out; rw [hR2] at h; exact h.elim
      | inr ds' =>
        have h := HLs.out
        rw [hR2] at h hm
        have hlen : ds'.length = ds.length := h
        obtain ⟨vD', rfl, hrow⟩ := hm
        rw [hlen, HN.out] at hrow
        obtain ⟨aD', cD', rfl⟩ := row_shape hrow
        have HB9 : Hid (∀ q, Below w.heap.size w (w8.alloc q)) := fun q => below_next (below_next (below_next HBw.out (HB7.out _)) hb8) (bl_alloc w8 q)
        clear hb8 hrow hR2 h hlen
        go_wp2_with fail
        go_ret
        exact ⟨rfl, HB9.out _⟩
    | inl x =>
      have hls := HLS.out
      rw [hR] at hm hls
      obtain ⟨r, aS, cS, vs, rfl, hL⟩ := hm
      obtain ⟨ob, hob⟩ : ∃ ob, ob = obj6 (.slice r.aN x.names.length r.cN) (.slice r.aM x.mods.length r.cM) (.slice aS x.scopes.length cS) (.string mainS) (.int .i64 x.main.1) (.int .i64 x.main.2) := ⟨_, rfl⟩
      have HOb := hideP hob
      have HLs := hideP hls
      have HB7 : Hid (Below W5.heap.size W5 (w6.alloc ob)) := below_next hb6 (bl_alloc w6 ob)
      have hxs : x.scopes.length <= 16 := by have := hL.ml; have := (link_ok hR).sl; omega
      have hxz : ((x.scopes.length : Int) <= 9223372036854775807) := by omega
      clear hb6 hR hls HLS hL hob
      go_wp2_with fail
      obtain ⟨W7, hW7⟩ : ∃ W7, W7 = w6.alloc ob := ⟨_, rfl⟩
      obtain ⟨pb, hpb⟩ : ∃ pb, pb = w6.heap.size := ⟨_, rfl⟩
      have HO7 : Hid (W7.heap[pb]? = some ob) := by rw [hW7, hpb]; exact heap_alloc_last _ _
      rw [<- hW7] at HB7
      have hq1 := HOb.out
      unfold obj6 at hq1
      rw [<- hq1, <- hW7, <- hpb]
      clear hq1 hW7 hpb
      refine (HK.out _ HB7.out).mono ?_
      intro e w8 hpost
      obtain ⟨hb8, hm⟩ := hpost
      cases hR2 : linkV (srcs (l.set n (l[n].1, T ++ blS))) with
      | inr ds' => have h := HLs.out; rw [hR2] at h; exact h.elim
      | inl y =>
        have h := HLs.out
        rw [hR2] at h hm
        have hyx : y = x := h
        subst hyx
        obtain ⟨r2, aS2, cS2, vs2, rfl, hL2⟩ := hm
        obtain ⟨oq, hoq⟩ : ∃ oq, oq = obj6 (.slice r2.aN y.names.length r2.cN) (.slice r2.aM y.mods.length r2.cM) (.slice aS2 y.scopes.length cS2) (.string mainS) (.int .i64 y.main.1) (.int .i64 y.main.2) := ⟨_, rfl⟩
        have HOq := hideP hoq
        have HB9 : Hid (Below w.heap.size w (w8.alloc oq)) := below_next (below_next (below_next HBw.out HB7.out) hb8) (bl_alloc w8 oq)
        have HO8 : Hid (w8.heap[pb]? = some ob) := (hb8.block pb (lt_of_block HO7.out)).trans HO7.out
        have hO := HO8.out
        rw [HOb.out] at hO
        obtain ⟨⟨a0, a1', a2', a3, a4, a5⟩, _, hpl⟩ := box6l hO
        clear hb8 hR2 h hL2 hoq hO
        go_wp2_with fail
        go_ret
        exact ⟨rfl, by have h := HB9.out; rw [HOq.out] at h; exact h⟩
end Go.Proofs.YtgblonhfidoleaaDoor
