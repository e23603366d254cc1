/- Part. -/
import Derived.Test.YtgblonhfidoleaaDoorPart49
import Derived.Test.YtgblonhfidoleaaDoorPart50
set_option maxRecDepth 100000
set_option maxHeartbeats 4000000
/- LinkOrder: the walk. -/
namespace Go.Proofs.YtgblonhfidoleaaDoor
open Go.Proofs.Tryd
open Go.RowKit Go.Maps
theorem linkOrder_walk (a : Option Addr) (cap : Nat) (l : List Src) (w : World) (hw : Lx.Words w) (hs : SrcAt w.heap.size w a l /\ (∀ p ∈ l, p.1.size <= 140737488351232 /\ p.2.size <= 140737488351232) /\ (l.length : Int) <= 9223372036854775807) :
    Calls prog 4 #[.slice a l.length cap] w fun e w' => e = .returned (.bool true) /\ Below w.heap.size w w' := by
  have HW := hideP hw
  have HS := hideP hs.1
  have HZ := hideP hs.2.1
  have hl := hs.2.2
  have HA := hideP (awake7_c w hw)
  clear hw hs
  go_enter func4, ntmps4
  go_wp2_with fail
  refine HA.out.mono ?_
  rintro e w1 ⟨rfl, hb1⟩
  have HB1 := hideP hb1
  have HS1 := hideP (HS.out.below hb1)
  clear hb1 HA
  go_wp2_with fail
  refine (few_c _ a cap l w1 HS1.out hl HZ.out).mono ?_
  rintro e w1' ⟨rfl, b, rfl, hb20⟩
  cases b with
  | false =>
    clear hb20
    go_wp2_with fail
    go_ret
    exact ⟨rfl, HB1.out⟩
  | true =>
    have h20 := hb20 rfl
    clear hb20
    by_cases h15 : (15 : Int) < (l.length : Int)
    · go_wp2_with fail
      go_ret
      exact ⟨rfl, HB1.out⟩
    · go_wp2_with fail
      refine (link_c a cap l _ (HW.out.below HB1.out) (HS1.out.mono HB1.out.size) (by omega) HZ.out).mono ?_
      intro e w2 hpost
      obtain ⟨hb2, hm⟩ := hpost
      cases hR : linkV (srcs l) with
      | inr ds =>
        rw [hR] at hm
        obtain ⟨vD, rfl, hrow⟩ := hm
        have HB2 : Hid (∀ o, Below w.heap.size w (w2.alloc o)) := fun o => below_next (below_next HB1.out hb2) (bl_alloc w2 o)
        obtain ⟨aD, cD, rfl⟩ := row_shape hrow
        have hdl : ds.length <= 9223372036854775807 := by
          rcases hrow.2 with ⟨_, e⟩ | ⟨g, c, cur, e, _, _, h1, h2, _⟩
          · omega
          · unfold maxLen at h2
            omega
        have hdz : ((ds.length : Int) <= 9223372036854775807) := by omega
        have hn0 : (0 : Int) < (ds.length : Int) := by have := List.length_pos_iff.2 (link_nonempty hR); omega
        clear hR hb2 hrow
        go_wp2_with fail
        go_ret
        exact ⟨rfl, HB2.out _⟩
      | inl x =>
        rw [hR] at hm
        obtain ⟨r, aS, cS, vs, rfl, hL⟩ := hm
        have HR := hideP hR
        have HOk := hideP (link_ok hR)
        have HL := hideP hL
        obtain ⟨pb, hpb⟩ : ∃ pb, pb = w2.heap.size := ⟨_, rfl⟩
        obtain ⟨ob, hob⟩ : ∃ ob, ob = obj6 (.slice r.aN x.names.length r.cN) (.slice r.aM x.mods.length r.cM) (.slice aS x.scopes.length cS) (.string mainS) (.int .i64 x.main.1) (.int .i64 x.main.2) := ⟨_, rfl⟩
        have HB2 := hideP (below_next HB1.out hb2)
        have HB3 : Hid (Below w2.heap.size w2 (w2.alloc ob)) := bl_alloc w2 _
        have HO3 : Hid ((w2.alloc ob).heap[pb]? = some ob) := by rw [hpb]; exact heap_alloc_last _ _
        have HOb := hideP hob
        have HPb := hideP hpb
        have hne : 0 < l.length := by
          obtain ⟨h, _⟩ := HOk.out.main
          have h2 := (link_len hR).1
          simp only [List.length_map] at h2
          omega
        obtain ⟨b, o, ha, hb, hnw⟩ := src_news HS1.out hne
        subst ha
        have HNw := hideP hnw
        have HSb : Hid (b < w1'.heap.size) := Nat.lt_of_lt_of_le hb HB1.out.size
        obtain ⟨i0, hi, hz0, hz1, hz2⟩ := info_parts info_src
        have HN2 : Hid (∀ j u, (l.flatMap srcC)[j]? = some u -> (w2.alloc ob).cell? ((⟨b, o, none⟩ : Addr).add j) = some u) := fun j u hj => by
          have h1 := HNw.out j u hj
          rw [Addr.add_lit] at h1 ⊢
          exact (HB3.out.cell (p := ⟨b, o + j, none⟩) (Nat.lt_of_lt_of_le HSb.out hb2.size)).trans ((hb2.cell (p := ⟨b, o + j, none⟩) HSb.out).trans h1)
        clear hb2 hL hR hob hpb hnw hb
        go_wp2_with (at_builtin; refine wpList_append_own_at _ rfl (.const (.slice none 0 0)) (.tmp 36) 22 rfl (w2.heap.size + 1) 39 i0 _ 2 32 underlying22 hi hz0 hz1 hz2 rfl (by decide) _ 0 [] rfl (World.ownsRow_nil _ _ _ _) ⟨b, o, none⟩ l.length cap (l.flatMap srcC) rfl (srcC_len l) (by rw [HOb.out] at HN2; exact HN2.out) (fun u hu => by obtain ⟨p, _, hp⟩ := List.mem_flatMap.1 hu; simp [srcC] at hp; rcases hp with rfl | rfl <;> rfl) (by unfold maxLen; omega) (by omega) (by rw [World.size_alloc]; exact Nat.le_refl _) ?_)
        intro v' w4 hown' hgrow _ hloc
        obtain ⟨a1, c1, rfl⟩ := row_shape hown'
        have hg' := hgrow
        have hw' := HOb.out
        unfold obj6 at hw'
        rw [<- hw'] at hg'
        have HB4 : Hid (Below (w2.heap.size + 1) (w2.alloc ob) w4) := below_grow2 hg' (by rw [World.size_alloc]; exact Nat.le_refl _) (fun q e => by cases e)
        have HO1 := hideP hown'
        clear hown' hgrow hloc hg' hw' HN2
        go_wp2_with (at_builtin; refine wpList_append_own_at _ rfl (.tmp 37) (.tmp 39) 22 rfl (w2.heap.size + 1) 39 i0 _ 2 32 underlying22 hi hz0 hz1 hz2 rfl (by decide) _ _ _ rfl (HO1.out.alloc _) ⟨_, 0, none⟩ 1 1 (srcC zzS) rfl rfl (cells_newK _ _ _) (by simp [srcC, Value.oneCell']) (by unfold maxLen; omega) (by omega) (by have := HB4.out.size; rw [World.size_alloc] at this; rw [World.size_alloc]; omega) ?_)
        intro v' w5 hown' hgrow _ hloc
        obtain ⟨a2, c2, rfl⟩ := row_shape hown'
        have hs4 : w2.heap.size + 1 <= w4.heap.size := by have := HB4.out.size; rw [World.size_alloc] at this; exact this
        have HB5 : Hid (Below (w2.heap.size + 1) (w2.alloc ob) w5) :=
          HB4.out.trans (((bl_alloc w4 _).mono hs4).trans (below_grow2 hgrow (by rw [World.size_alloc]; omega) (fun q e => (HO1.out.lt q e).1)))
        have HB6 : Hid (Below w2.heap.size w2 w5) := HB3.out.trans (HB5.out.mono (Nat.le_succ _))
        have HO5 : Hid (w5.heap[pb]? = some ob) := (HB5.out.block pb (by rw [HPb.out]; exact Nat.lt_succ_self _)).trans HO3.out
        have hfm : l.flatMap srcC ++ srcC zzS = (l ++ [zzS]).flatMap srcC := by simp
        rw [hfm] at hown'
        have HS5 := hideP (src_of_row hown' (by simp) (by simp))
        have HK : Hid (Calls prog 9 #[.slice a2 (l.length + 1) c2] w5 (LinkP w5 (linkV (srcs l ++ [(zzB, zzT)])))) := by
          have h := link_c a2 c2 (l ++ [zzS]) w5 ((HW.out.below HB2.out).below HB6.out) HS5.out (by simp; omega) (by
            intro p hp
            rcases List.mem_append.1 hp with hp | hp
            · exact HZ.out p hp
            · rw [List.mem_singleton] at hp
              subst hp
              exact ⟨by decide, by decide⟩)
          rw [srcs_more, List.length_append, List.length_singleton] at h
          exact h
        clear hown' hgrow hloc HB4 HO1 hfm hs4
        go_wp2_with fail
        refine HK.out.mono ?_
        intro e w6 hpost
        obtain ⟨hb6, hm⟩ := hpost
        have HZe : Hid (∀ p ∈ l, p.1.data.toList = zzB ↔ p.1 = zzS.1) := fun p _ => by
          constructor
          · intro h
            have h2 : p.1.data = #[122, 122, 95, 109, 111, 114, 101] := by rw [<- Array.toList_inj]; exact h
            cases hp : p.1 with
            | mk d => rw [hp] at h2; simp only at h2; rw [h2]
          · intro h; rw [h]; rfl
        by_cases hz : ∃ p ∈ srcs l, p.1 = zzB
        · obtain ⟨ds, hds, hdn⟩ := link_twice HR.out (by simp; omega) hz
          rw [hds] at hm
          obtain ⟨vD, rfl, hrow⟩ := hm
          obtain ⟨aD, cD, rfl⟩ := row_shape hrow
          have hdl : ds.length <= 9223372036854775807 := by
            rcases hrow.2 with ⟨_, e⟩ | ⟨g, c, cur, e, _, _, h1, h2, _⟩
            · omega
            · unfold maxLen at h2
              omega
          have hdz : ((ds.length : Int) <= 9223372036854775807) := by omega
          have hn0 : (0 : Int) < (ds.length : Int) := by have := List.length_pos_iff.2 hdn; omega
          have HBo : Hid (∀ o, Below w.heap.size w (w6.alloc o)) := fun o => below_next (below_next (below_next HB2.out HB6.out) hb6) (bl_alloc w6 o)
          have HHz := hideP hz
          clear hb6 hrow hds hdn hz HK
          go_wp2_with fail
          obtain ⟨q0, hq0⟩ : ∃ q0 : Obj, q0 = obj6 (.slice none 0 0) (.slice none 0 0) (.slice none 0 0) (.string ⟨#[]⟩) (.int .i64 0) (.int .i64 0) := ⟨_, rfl⟩
          obtain ⟨W7, hW7⟩ : ∃ W7, W7 = w6.alloc q0 := ⟨_, rfl⟩
          have HB7 : Hid (Below w.heap.size w W7) := by rw [hW7]; exact HBo.out _
          have hq1 := hq0
          unfold obj6 at hq1
          rw [<- hq1, <- hW7]
          clear hq0 hq1 hW7
          have HS7 := hideP (HS.out.below HB7.out)
          go_loopw [10] (fun i wr => ∃ k : Nat, k <= l.length /\ i = .int .i64 k /\ Hid (∀ n (h : n < l.length), n < k -> l[n].1 ≠ zzS.1) /\ Hid (wr = W7)) (fun i _ => l.length - (intOf i).toNat)
          case atStart => exact ⟨0, by omega, rfl, fun n _ h => absurd h (by omega), rfl⟩
          case round =>
            obtain ⟨k, hk, rfl, HNo, HWr⟩ := hrel
            have hwr := HWr.out
            subst hwr
            clear HWr
            by_cases hkl : k < l.length
            · have hkl' : (k : Int) < (l.length : Int) := by omega
              rcases HS7.out with he | ⟨b', o', hbo, hb', hc'⟩
              · rw [he] at hne; cases hne
              simp only [Option.some.injEq, Addr.mk.injEq] at hbo
              obtain ⟨rfl, rfl, _⟩ := hbo
              have t0 := (hc' k hkl).1
              obtain ⟨S, hS⟩ : ∃ S, S = l[k].1 := ⟨_, rfl⟩
              rw [<- hS] at t0
              clear hc'
              by_cases heq : S = zzS.1
              · rw [heq] at t0
                clear heq hS
                go_wp2_with fail
                rw [show decide (0 < ds.length) = true by simp; omega]
                go_ret
                exact ⟨rfl, HB7.out⟩
              · have HQ : Hid (S ≠ zzS.1) := heq
                have HSl := hideP hS
                clear hS
                go_wp2_with fail
                case roundEnd =>
                  refine ⟨⟨k + 1, by omega, by go_num, fun n h hn => ?_, True.intro⟩, by simp [intOf]; omega⟩
                  by_cases hnk : n = k
                  · subst hnk
                    rw [<- HSl.out]
                    exact HQ.out
                  · exact HNo.out n h (by omega)
                all_goals
                  rename_i hbad
                  exfalso
                  refine HQ.out ?_
                  have h1 : S.toList = [122, 122, 95, 109, 111, 114, 101] := by simpa using hbad
                  rw [Go.ByteArray.toList_eq] at h1
                  cases S with
                  | mk d => exact congrArg ByteArray.mk (Array.toList_inj.1 h1)
            · have hkl' : ¬ (k : Int) < (l.length : Int) := by omega
              exfalso
              obtain ⟨p, hp, e⟩ := HHz.out
              obtain ⟨p', hp', rfl⟩ := List.mem_map.1 hp
              obtain ⟨n, hn, rfl⟩ := List.getElem_of_mem hp'
              exact HNo.out n hn (by omega) ((HZe.out _ hp').1 e)
        · have hmo := link_more HR.out (by simp; omega) (fun p hp e => hz ⟨p, hp, e⟩)
          obtain ⟨y, hy⟩ : ∃ y : Lk, y = ⟨x.names ++ [zzB], x.mods ++ [zzM], x.scopes ++ [[⟨[102], (srcs l).length, 0⟩]], x.main⟩ := ⟨_, rfl⟩
          rw [hmo, <- hy] at hm
          obtain ⟨r2, aS2, cS2, vs2, rfl, hL2⟩ := hm
          have HY := hideP hy
          have hym : y.main = x.main := by rw [hy]
          have hys : y.scopes.length = x.scopes.length + 1 := by rw [hy]; simp
          have HL2 := hideP hL2
          have HB7' : Hid (∀ o, Below w2.heap.size w2 (w6.alloc o)) := fun o => below_next (below_next HB6.out hb6) (bl_alloc w6 o)
          have HO6 : Hid (w6.heap[pb]? = some ob) := (hb6.block pb (lt_of_block HO5.out)).trans HO5.out
          have HHz := hideP hz
          have HYm := hideP hym
          have HYs := hideP hys
          obtain ⟨oq, hoq⟩ : ∃ oq, oq = obj6 (.slice r2.aN y.names.length r2.cN) (.slice r2.aM y.mods.length r2.cM) (.slice aS2 y.scopes.length cS2) (.string mainS) (.int .i64 y.main.1) (.int .i64 y.main.2) := ⟨_, rfl⟩
          have HOq := hideP hoq
          clear hb6 hz HK hmo hy hym hys hL2 hoq
          go_wp2_with fail
          obtain ⟨W7, hW7⟩ : ∃ W7, W7 = w6.alloc oq := ⟨_, rfl⟩
          have HB7w : Hid (Below w2.heap.size w2 W7) := by rw [hW7]; exact HB7'.out _
          have HB7 : Hid (Below w.heap.size w W7) := below_next HB2.out HB7w.out
          have HO7 : Hid (W7.heap[pb]? = some ob) := by rw [hW7]; exact (Below.heap_alloc _ _ _ (lt_of_block HO6.out)).trans HO6.out
          obtain ⟨qb, hqb⟩ : ∃ qb, qb = w6.heap.size := ⟨_, rfl⟩
          have HQ7 : Hid (W7.heap[qb]? = some oq) := by rw [hW7, hqb]; exact heap_alloc_last _ _
          have HR7 : Hid (Below w6.heap.size w6 W7) := by rw [hW7]; exact bl_alloc w6 _
          have hq1 := HOq.out
          unfold obj6 at hq1
          rw [<- hq1, <- hW7, <- hqb]
          clear hq1 hW7 hqb
          have HS7 := hideP (HS.out.below HB7.out)
          go_loopw [10] (fun i wr => ∃ k : Nat, k <= l.length /\ i = .int .i64 k /\ Hid (∀ n (h : n < l.length), n < k -> l[n].1 ≠ zzS.1) /\ Hid (wr = W7)) (fun i _ => l.length - (intOf i).toNat)
          case atStart => exact ⟨0, by omega, rfl, fun n _ h => absurd h (by omega), rfl⟩
          case round =>
            obtain ⟨k, hk, rfl, HNo, HWr⟩ := hrel
            have hwr := HWr.out
            subst hwr
            clear HWr
            by_cases hkl : k < l.length
            · have hkl' : (k : Int) < (l.length : Int) := by omega
              rcases HS7.out with he | ⟨b', o', hbo, hb', hc'⟩
              · rw [he] at hne; cases hne
              simp only [Option.some.injEq, Addr.mk.injEq] at hbo
              obtain ⟨rfl, rfl, _⟩ := hbo
              have t0 := (hc' k hkl).1
              obtain ⟨S, hS⟩ : ∃ S, S = l[k].1 := ⟨_, rfl⟩
              rw [<- hS] at t0
              clear hc'
              by_cases heq : S = zzS.1
              · exfalso
                refine HHz.out ⟨_, List.mem_map.2 ⟨l[k], List.getElem_mem hkl, rfl⟩, ?_⟩
                exact (HZe.out _ (List.getElem_mem hkl)).2 (hS.symm.trans heq)
              · have HQ : Hid (S ≠ zzS.1) := heq
                have HSl := hideP hS
                clear hS
                go_wp2_with fail
                case roundEnd =>
                  refine ⟨⟨k + 1, by omega, by go_num, fun n h hn => ?_, True.intro⟩, by simp [intOf]; omega⟩
                  by_cases hnk : n = k
                  · subst hnk
                    rw [<- HSl.out]
                    exact HQ.out
                  · exact HNo.out n h (by omega)
                all_goals
                  rename_i hbad
                  exfalso
                  refine HQ.out ?_
                  have h1 : S.toList = [122, 122, 95, 109, 111, 114, 101] := by simpa using hbad
                  rw [Go.ByteArray.toList_eq] at h1
                  cases S with
                  | mk d => exact congrArg ByteArray.mk (Array.toList_inj.1 h1)
            · have hkl' : ¬ (k : Int) < (l.length : Int) := by omega
              clear HNo
              have hO := HO7.out
              rw [HOb.out] at hO
              obtain ⟨⟨a0, a1', a2', a3, a4, a5⟩, _, hpl⟩ := box6l hO
              have hQ := HQ7.out
              rw [HOq.out, HYm.out, HYs.out] at hQ
              obtain ⟨⟨b0, b1, b2, b3, b4, b5⟩, _, hql⟩ := box6l hQ
              clear hO hQ
              have hxs : x.scopes.length <= 16 := by have := HL.out.ml; have := HOk.out.sl; omega
              have hxz : ((x.scopes.length : Int) <= 9223372036854775807) := by omega
              have hxz1 : ((x.scopes.length + 1 : Nat) : Int) <= 9223372036854775807 := by omega
              rw [<- HPb.out]
              go_wp2_with fail
              clear a0 a1' a2' a3 a4 a5 b0 b1 b2 b3 b4 b5
              obtain ⟨V, hV⟩ : ∃ V, V = wr := ⟨_, rfl⟩
              subst hV
              go_loopw [11] (fun i w8 => ∃ k q : Nat, k <= x.scopes.length /\ i = .int .i64 k /\ Hid (w8 = V.drewN q)) (fun i _ => x.scopes.length - (intOf i).toNat)
              case atStart => exact ⟨0, 0, by omega, rfl, rfl⟩
              case round =>
                obtain ⟨k2, q, hk2, rfl, HW8⟩ := hrel
                have h8 := HW8.out
                subst h8
                clear HW8
                have hO := HO7.out
                rw [HOb.out] at hO
                obtain ⟨⟨_, _, a2', _, _, _⟩, _, hpl⟩ := box6l hO
                have hQ := HQ7.out
                rw [HOq.out, HYm.out, HYs.out] at hQ
                obtain ⟨⟨_, _, b2, _, _, _⟩, _, hql⟩ := box6l hQ
                clear hO hQ
                by_cases hkl2 : k2 < x.scopes.length
                · have hkl2' : (k2 : Int) < (x.scopes.length : Int) := by omega
                  obtain ⟨N, hN⟩ : ∃ N, N = x.scopes.length + 1 := ⟨_, rfl⟩
                  rw [<- hN] at b2
                  have hkl3' : (k2 : Int) < (N : Int) := by omega
                  clear hN
                  have hk3 : k2 < y.scopes.length := by rw [HYs.out]; omega
                  obtain ⟨gS, ai, ci, haS, hgS, hcell, hks⟩ := sc_row HL.out hkl2
                  obtain ⟨gS', ai', ci', haS', hgS', hcell', hks'⟩ := sc_row HL2.out hk3
                  have hyx : y.scopes[k2] = x.scopes[k2] := by
                    have h1 : y.scopes[k2]? = x.scopes[k2]? := by rw [HY.out]; exact List.getElem?_append_left hkl2
                    rw [List.getElem?_eq_getElem hk3, List.getElem?_eq_getElem hkl2] at h1
                    exact Option.some.inj h1
                  rw [hyx] at hcell' hks'
                  have hel : x.scopes[k2].length <= 9223372036854775807 := by
                    have hvl : vs.length = x.scopes.length := by have := HL.out.rS.1; omega
                    rcases (HL.out.rE k2 (by omega) hkl2).2 with ⟨_, e⟩ | ⟨g, c, cur, e, _, _, h1, h2, _⟩
                    · omega
                    · unfold maxLen at h2
                      omega
                  obtain ⟨es, hes⟩ : ∃ es, es = x.scopes[k2] := ⟨_, rfl⟩
                  rw [<- hes] at hcell hks hcell' hks' hel
                  have s1 : V.cell? ⟨gS, k2, none⟩ = some (.slice ai es.length ci) := (HB7w.out.cell (p := ⟨gS, k2, none⟩) hgS).trans hcell
                  have s2 : V.cell? ⟨gS', k2, none⟩ = some (.slice ai' es.length ci') := (HR7.out.cell (p := ⟨gS', k2, none⟩) hgS').trans hcell'
                  have HE1 : Hid (EnsAt V ai es) := fun k hk => by
                    obtain ⟨g, h1, h2, h3⟩ := hks k hk
                    exact ⟨g, h1, Nat.lt_of_lt_of_le h2 HB7w.out.size, fun j hj => (HB7w.out.cell (p := ⟨g, k * 3 + j, none⟩) h2).trans (h3 j hj)⟩
                  have HE2 : Hid (EnsAt V ai' es) := fun k hk => by
                    obtain ⟨g, h1, h2, h3⟩ := hks' k hk
                    exact ⟨g, h1, Nat.lt_of_lt_of_le h2 HR7.out.size, fun j hj => (HR7.out.cell (p := ⟨g, k * 3 + j, none⟩) h2).trans (h3 j hj)⟩
                  have HE : Hid (∀ n, Calls prog 10 #[.slice ai es.length ci, .slice ai' es.length ci'] (V.drewN n) fun e w' => e = .returned (.bool true) /\ ∃ q, w' = (V.drewN n).drewN q) := fun n => entries_c ai ai' ci ci' es (V.drewN n) HE1.out HE2.out (by omega)
                  subst haS haS'
                  clear hcell hks hcell' hks' hes hyx hk3
                  go_wp2_with fail
                  go_quiet ((go_at_call 10; refine (HE.out _).mono ?_; rintro _ _ ⟨h1, m, hm⟩; exact ⟨h1, _, by rw [hm, World.drewN_drewN, Nat.add_assoc]⟩))
                  go_wp2_with fail
                  exact ⟨⟨k2 + 1, _, by omega, by go_num, rfl⟩, by simp [intOf]; omega⟩
                · have hkl2' : ¬ (k2 : Int) < (x.scopes.length : Int) := by omega
                  go_wp2_with fail
                  go_ret
                  exact ⟨rfl, below_drewN HB7.out q⟩
end Go.Proofs.YtgblonhfidoleaaDoor
