/- The program's tree: what stands behind Add's last steps; New. -/
import Derived.Test.YtldcfglkcifklaaShC
namespace Go.Proofs.Ytldcfglkcifklaa
open Go.RowKit

abbrev shpC (l A : Nat) (ao : Option Addr) (m c b : Nat) : List Value := [.int .i64 l, .int .i64 A, .slice ao m c, .pointer (some ⟨b, 0, none⟩)]
theorem getD_snoc {T : List (List ByteArray)} {l : List ByteArray} {i : Nat} (h : i < T.length) : (T ++ [l]).getD i [] = T.getD i [] := by
  rw [List.getD_eq_getElem?_getD, List.getD_eq_getElem?_getD, List.getElem?_append_left h]
theorem getD_last {T : List (List ByteArray)} {l : List ByteArray} : (T ++ [l]).getD T.length [] = l := by simp [List.getD_eq_getElem?_getD]
theorem ShapeAt.snoc {G : Nat → Prop} {w : World} {xs ys : List Value} {NL : List ByteArray} {T : List (List ByteArray)} {i : Nat} {l : List ByteArray} (h : ShapeAt G w xs NL T i) (hi : i < T.length) (hx : xs.length = T.length * 4) : ShapeAt G w (xs ++ ys) NL (T ++ [l]) i := by
  obtain ⟨A, la, pl, La, h1, h2, h3, h4, h5, h6, h7, h8, h9⟩ := h
  have hA : A < T.length := by omega
  exact ⟨A, la, pl, La, by rw [getD_snoc hi, List.getElem?_append_left (by omega)]; exact h1, by rw [List.getElem?_append_left (by omega)]; exact h2, by rw [List.getElem?_append_left (by omega)]; exact h3, by rw [List.getElem?_append_left (by omega)]; exact h4, h5, h6, by rw [getD_snoc hi, getD_snoc hA]; exact h7, h8, by rw [getD_snoc hi]; exact h9⟩
theorem add_end {B t k nb mb s n A c b cs c3 : Nat} {F : Nat → Prop} {ro : Nat → Nat} {w w2 w3 w5 : World} {vl : Value} {xs : List Value} {NL La : List ByteArray} {M : Num} {T : List (List ByteArray)} {ao as' a3 : Option Addr} (H : KT B F ro w t k nb mb vl (.slice as' T.length cs) xs NL M T) (hok : KeptOk NL M T) (hg : GoodT T) (hs : s < T.length) (hn : n < NL.length) (hr : rowV T (T[s] ++ [NL[n]]) = none) (hNL : NL.length ≤ T.length) (hT : T.length ≤ 1000000)
    (hc2 : Ch (fun _ => False) w w2) (hA : A ≤ s) (hN : T[s] ++ [NL[n]] = T.getD A [] ++ La) (hLa : La.length ≤ 16) (hst : StrV (fun b => w.heap.size ≤ b ∧ b < w2.heap.size) w2 (.slice ao La.length c) La) (hpt : PT (fun b => (F b ∧ ro b = 6) ∨ (w.heap.size ≤ b ∧ b < w2.heap.size)) w2 (.pointer (some ⟨b, 0, none⟩)) (placeOf NL (T[s] ++ [NL[n]])))
    (hO3 : w3.ownsRow B 60 4 (.slice a3 (T.length + 1) c3) (T.length + 1) (xs ++ shpC (T[s] ++ [NL[n]]).length A ao La.length c b)) (hg3 : (w2.alloc (.cells (shpC (T[s] ++ [NL[n]]).length A ao La.length c b).toArray 60)).grownBy w3 (Value.slice as' T.length cs).ownBlock)
    (hL3 : (Value.slice a3 (T.length + 1) c3).ownBlock = (Value.slice as' T.length cs).ownBlock ∨ (Value.slice a3 (T.length + 1) c3).ownBlock = some (w2.alloc (.cells (shpC (T[s] ++ [NL[n]]).length A ao La.length c b).toArray 60)).heap.size)
    (hX3 : w3.heap[k]? = some (.cells #[.map (some nb), vl, .slice as' T.length cs, .map (some mb)] 53))
    (hM5 : NumG 63 w5 mb ((stepB s n, T.length) :: M)) (hg5 : (w3.setCell ⟨k, 2, none⟩ (.slice a3 (T.length + 1) c3)).grownBy w5 (some mb)) :
    ∃ F', TreeT B F' w5 t (T ++ [T[s] ++ [NL[n]]]) ∧ (∀ b, F' b → F b ∨ w.heap.size ≤ b) ∧ Ch F w w5 := by
  have hs2 := hc2.size
  have hs3 : w2.heap.size + 1 ≤ w3.heap.size := by have := hg3.size; rw [World.size_alloc] at this; exact this
  have hs5 : w3.heap.size ≤ w5.heap.size := by have := hg5.size; rw [size_set] at this; exact this
  have hown := own_new (v := .slice as' T.length cs) hO3 hL3
  rw [World.size_alloc] at hown
  have hlow := H.low
  have hr0 : ∀ q, (Value.slice as' T.length cs).ownBlock = some q → F q ∧ ro q = 4 := H.rs
  obtain ⟨S, hS⟩ : ∃ S : Nat → Prop, S = fun b => (Value.slice as' T.length cs).ownBlock = some b ∨ b = k ∨ b = mb := ⟨_, rfl⟩
  have hSF : ∀ b, S b → F b := fun b h => by
    rw [hS] at h
    rcases h with h | rfl | rfl
    · exact (hr0 b h).1
    · exact H.rk.1
    · exact H.rm.1
  have h3 : Ch S w2 w3 := ((Ch.refl S w2).alloc _).grown hg3 fun q hq _ => by rw [hS]; exact .inl hq
  have h4 : Ch S w2 (w3.setCell ⟨k, 2, none⟩ (.slice a3 (T.length + 1) c3)) := h3.set (fun _ => by rw [hS]; exact .inr (.inl rfl)) _ _
  have h5 : Ch S w2 w5 := h4.grown hg5 fun q hq _ => by injection hq with hq; rw [hS]; exact .inr (.inr hq.symm)
  have hc5 : Ch S w w5 := (hc2.mono fun _ _ h => h.elim).trans h5 fun _ _ h => h
  have hk5 : Ch (fun b => b = mb) (w3.setCell ⟨k, 2, none⟩ (.slice a3 (T.length + 1) c3)) w5 := (Ch.refl _ _).grown hg5 fun q hq _ => by injection hq with hq; exact hq.symm
  have hoff : ∀ b, F b → ro b ≠ 1 → ro b ≠ 4 → ro b ≠ 5 → ¬ S b := fun b _ h1 h2 h3 h => by
    rw [hS] at h
    rcases h with h | rfl | rfl
    · exact h2 (hr0 b h).2
    · exact h1 H.rk.2
    · exact h3 H.rm.2
  have hSlt : ∀ b, S b → b < w.heap.size := fun b h => (hlow b (hSF b h)).2
  obtain ⟨r2, hr2⟩ : ∃ r2 : Nat → Nat, ∀ b, r2 b = if b < w.heap.size then ro b else if (Value.slice a3 (T.length + 1) c3).ownBlock = some b then 4 else 6 := ⟨_, fun _ => rfl⟩
  have hold : ∀ b, F b → r2 b = ro b := fun b hb => by rw [hr2, if_pos (hlow b hb).2]
  have hkm : k ≠ mb := fun e => by have h1 := H.rk.2; have h2 := H.rm.2; rw [e] at h1; omega
  have hrow3 : (w3.setCell ⟨k, 2, none⟩ (.slice a3 (T.length + 1) c3)).ownsRow B 60 4 (.slice a3 (T.length + 1) c3) (T.length + 1) (xs ++ shpC (T[s] ++ [NL[n]]).length A ao La.length c b) := ((Ch.refl (fun b => b = k) w3).set (fun _ => rfl) _ _).row hO3 fun q hq e => by
    rcases hown q hq with h | h
    · have h1 := (hr0 q h).2
      have h2 := H.rk.2
      rw [e] at h1
      omega
    · have := (hlow k H.rk.1).2
      omega
  have hNT : NL.length < (T ++ [T[s] ++ [NL[n]]]).length := by simp; omega
  have hxl : xs.length = T.length * 4 := H.sh.1
  refine ⟨fun b => F b ∨ (w.heap.size ≤ b ∧ b < w5.heap.size), ⟨r2, k, nb, mb, vl, .slice a3 (T.length + 1) c3, xs ++ shpC (T[s] ++ [NL[n]]).length A ao La.length c b, NL, _, ?_, hok.shape step_inj hg.nd hs hn hr (by omega) (by omega), hNT⟩, fun b hb => hb.imp_right fun h => h.1, hc5.mono fun b _ h => hSF b h⟩
  have hcell := cells_setCell (o := 2) (u := .slice a3 (T.length + 1) c3) hX3
  refine ⟨hc5.obj H.tb (hoff _ H.rt.1 (by rw [H.rt.2]; decide) (by rw [H.rt.2]; decide) (by rw [H.rt.2]; decide)), ?_, H.nm.ch hc5 (hoff _ H.rn.1 (by rw [H.rn.2]; decide) (by rw [H.rn.2]; decide) (by rw [H.rn.2]; decide)), hc5.row H.ls fun q hq => ?_, ?_, hM5, fun i hi => ?_, ⟨.inl H.rt.1, (hold _ H.rt.1).trans H.rt.2⟩, ⟨.inl H.rk.1, (hold _ H.rk.1).trans H.rk.2⟩, ⟨.inl H.rn.1, (hold _ H.rn.1).trans H.rn.2⟩, fun q hq => ⟨.inl (H.rl q hq).1, (hold _ (H.rl q hq).1).trans (H.rl q hq).2⟩, fun q hq => ?_, ⟨.inl H.rm.1, (hold _ H.rm.1).trans H.rm.2⟩, fun b hb => ?_⟩
  · refine hk5.obj ?_ fun e => hkm e
    simpa using hcell
  · have := H.rl q hq
    exact hoff q this.1 (by rw [this.2]; decide) (by rw [this.2]; decide) (by rw [this.2]; decide)
  · have := hk5.row hrow3 fun q hq e => by
      rcases hown q hq with h | h
      · have h1 := (hr0 q h).2
        have h2 := H.rm.2
        rw [e] at h1
        omega
      · have := (hlow mb H.rm.1).2
        omega
    simpa using this
  · have hi2 : i < T.length + 1 := by simpa using hi
    by_cases e : i = T.length
    · subst e
      have hst5 : StrV (fun b => (F b ∨ (w.heap.size ≤ b ∧ b < w5.heap.size)) ∧ r2 b = 6) w5 (.slice ao La.length c) La := (hst.ch h5 fun b hb _ h => by have := hSlt b h; omega).mono fun q _ hb => by
        refine ⟨.inr ⟨hb.1, by omega⟩, ?_⟩
        rw [hr2, if_neg (by omega), if_neg fun e => ?_]
        rcases hown q e with h | h
        · have := (hlow q (hr0 q h).1).2
          omega
        · omega
      have hpt5 : PT (fun b => (F b ∨ (w.heap.size ≤ b ∧ b < w5.heap.size)) ∧ r2 b = 6) w5 (.pointer (some ⟨b, 0, none⟩)) (placeOf NL (T[s] ++ [NL[n]])) := (hpt.ch h5 fun q hb h => by
        rcases hb with hb | hb
        · exact hoff q hb.1 (by rw [hb.2]; decide) (by rw [hb.2]; decide) (by rw [hb.2]; decide) h
        · have := hSlt q h
          omega).mono fun q _ hb => by
        rcases hb with hb | hb
        · exact ⟨.inl hb.1, (hold q hb.1).trans hb.2⟩
        · refine ⟨.inr ⟨hb.1, by omega⟩, ?_⟩
          rw [hr2, if_neg (by omega), if_neg fun e => ?_]
          rcases hown q e with h | h
          · have := (hlow q (hr0 q h).1).2
            omega
          · omega
      have hat : ∀ j, (xs ++ shpC (T[s] ++ [NL[n]]).length A ao La.length c b)[T.length * 4 + j]? = (shpC (T[s] ++ [NL[n]]).length A ao La.length c b)[j]? := fun j => by
        rw [List.getElem?_append_right (by omega), hxl, Nat.add_sub_cancel_left]
      refine ⟨A, .slice ao La.length c, .pointer (some ⟨b, 0, none⟩), La, ?_, hat 1, hat 2, hat 3, .inl (by omega), hLa, ?_, hst5, ?_⟩
      · rw [getD_last]
        exact hat 0
      · rw [getD_last, getD_snoc (by omega)]
        exact hN
      · rw [getD_last]
        exact hpt5
    · have hi3 : i < T.length := by omega
      exact ((H.rows i hi3).ch hc5 fun b hb => hoff b hb.1 (by rw [hb.2]; decide) (by rw [hb.2]; decide) (by rw [hb.2]; decide)).mono (fun b _ hb => ⟨.inl hb.1, (hold b hb.1).trans hb.2⟩) |>.snoc hi3 hxl
  · rcases hown q hq with h | h
    · exact ⟨.inl (hr0 q h).1, (hold q (hr0 q h).1).trans (hr0 q h).2⟩
    · refine ⟨.inr ⟨by omega, by omega⟩, ?_⟩
      rw [hr2, if_neg (by omega), if_pos hq]
  · rcases hb with hb | hb
    · have := hlow b hb
      exact ⟨this.1, by omega⟩
    · have := hlow t H.rt.1
      exact ⟨by omega, hb.2⟩
theorem info_shape : (Try.prog.info? 60).map (fun i => (i.zero, i.size, i.bytes)) = some (some (.agg #[.int .i64 0, .int .i64 0, .slice none 0 0, .pointer none]), 4, 48) := by kernel_rfl
theorem new_end {w w1 : World} (hO : w1.ownsRow w.heap.size 60 4 (.slice (some ⟨w.heap.size + 1, 0, none⟩) 1 1) 1 [.int .i64 0, .int .i64 0, .slice none 0 0, .pointer none]) (hg : (w.alloc (.map #[] 0)).grownBy w1 none) :
    ∃ t F, Ending.returned (.pointer (some ⟨w1.heap.size + 2, 0, none⟩)) = .returned (.pointer (some ⟨t, 0, none⟩)) ∧ TreeT w.heap.size F (((w1.alloc (.map #[] 0)).alloc (.cells #[.map (some w.heap.size), .slice none 0 0, .slice (some ⟨w.heap.size + 1, 0, none⟩) 1 1, .map (some w1.heap.size)] 53)).alloc (.cells #[.pointer (some ⟨w1.heap.size + 1, 0, none⟩)] 55)) t [[]] ∧
      Ch noB w (((w1.alloc (.map #[] 0)).alloc (.cells #[.map (some w.heap.size), .slice none 0 0, .slice (some ⟨w.heap.size + 1, 0, none⟩) 1 1, .map (some w1.heap.size)] 53)).alloc (.cells #[.pointer (some ⟨w1.heap.size + 1, 0, none⟩)] 55)) := by
  have hc1 : Ch noB (w.alloc (.map #[] 0)) w1 := (Ch.refl _ _).grown hg fun q hq => by cases hq
  have hs1 := hc1.size
  rw [World.size_alloc] at hs1
  have hrl := (hO.lt (w.heap.size + 1) rfl).2
  obtain ⟨w2, hw2⟩ : ∃ w2, w2 = w1.alloc (.map #[] 0) := ⟨_, rfl⟩
  obtain ⟨w3, hw3⟩ : ∃ w3, w3 = w2.alloc (.cells #[.map (some w.heap.size), .slice none 0 0, .slice (some ⟨w.heap.size + 1, 0, none⟩) 1 1, .map (some w1.heap.size)] 53) := ⟨_, rfl⟩
  obtain ⟨w4, hw4⟩ : ∃ w4, w4 = w3.alloc (.cells #[.pointer (some ⟨w1.heap.size + 1, 0, none⟩)] 55) := ⟨_, rfl⟩
  rw [← hw2, ← hw3, ← hw4]
  have s2 : w2.heap.size = w1.heap.size + 1 := by rw [hw2, World.size_alloc]
  have s3 : w3.heap.size = w1.heap.size + 2 := by rw [hw3, World.size_alloc, s2]
  have s4 : w4.heap.size = w1.heap.size + 3 := by rw [hw4, World.size_alloc, s3]
  have c12 : Ch noB w1 w2 := by rw [hw2]; exact (Ch.refl _ _).alloc _
  have c23 : Ch noB w2 w3 := by rw [hw3]; exact (Ch.refl _ _).alloc _
  have c34 : Ch noB w3 w4 := by rw [hw4]; exact (Ch.refl _ _).alloc _
  have c24 := c23.trans c34 fun _ _ h => h
  have c14 := c12.trans c24 fun _ _ h => h
  have c04 := hc1.trans c14 fun _ _ h => h
  have hb4 := heap_alloc_last w3 (.cells #[.pointer (some ⟨w1.heap.size + 1, 0, none⟩)] 55)
  have hb3 := heap_alloc_last w2 (.cells #[.map (some w.heap.size), .slice none 0 0, .slice (some ⟨w.heap.size + 1, 0, none⟩) 1 1, .map (some w1.heap.size)] 53)
  rw [← hw4, s3] at hb4
  rw [← hw3, s2] at hb3
  have hm2 : NumG 63 w2 w1.heap.size [] := by rw [hw2]; exact numG_made _
  obtain ⟨ro, hro⟩ : ∃ ro : Nat → Nat, ∀ b, ro b = if b = w.heap.size then 2 else if b = w.heap.size + 1 then 4 else if b = w1.heap.size then 5 else if b = w1.heap.size + 1 then 1 else 0 := ⟨_, fun _ => rfl⟩
  refine ⟨w1.heap.size + 2, fun b => w.heap.size ≤ b ∧ b < w1.heap.size + 3, rfl, ⟨ro, w1.heap.size + 1, w.heap.size, w1.heap.size, .slice none 0 0, .slice (some ⟨w.heap.size + 1, 0, none⟩) 1 1, [.int .i64 0, .int .i64 0, .slice none 0 0, .pointer none], [], [], ?_, kept_start, by decide⟩, ((Ch.refl noB w).alloc _).trans c04 fun _ _ h => h⟩
  refine ⟨hb4, c34.obj hb3 fun h => h, (namesM_made w).ch c04 fun h => h, World.ownsRow_nil _ _ _ _, c14.row hO fun _ _ h => h, hm2.ch c24 fun h => h, fun i hi => ?_, ⟨by omega, ?_⟩, ⟨by omega, ?_⟩, ⟨by omega, ?_⟩, fun q hq => (by cases hq), fun q hq => ?_, ⟨by omega, ?_⟩, fun b hb => by rw [s4]; exact hb⟩
  · obtain rfl : i = 0 := by simpa using hi
    exact ⟨0, .slice none 0 0, .pointer none, [], rfl, rfl, rfl, rfl, .inr ⟨rfl, rfl⟩, by decide, rfl, strV_nil _ _, pT_nil fun n _ => by
      cases n with
      | zero => rfl
      | succ n => rfl⟩
  · rw [hro, if_neg (by omega), if_neg (by omega), if_neg (by omega), if_neg (by omega)]
  · rw [hro, if_neg (by omega), if_neg (by omega), if_neg (by omega), if_pos rfl]
  · rw [hro, if_pos rfl]
  · injection hq with hq
    simp only at hq
    subst hq
    exact ⟨by omega, by rw [hro, if_neg (by omega), if_pos rfl]⟩
  · rw [hro, if_neg (by omega), if_neg (by omega), if_pos rfl]
set_option maxRecDepth 100000 in
set_option maxHeartbeats 4000000 in
theorem snew_c (w : World) : Calls Try.prog 8 #[] w fun e w' => ∃ t F, e = .returned (.pointer (some ⟨t, 0, none⟩)) ∧ TreeT w.heap.size F w' t [[]] ∧ Ch noB w w' := by
  have hmm := @run_makeMap Try.prog
  obtain ⟨i0, hi, hz0, hz1, hz2⟩ := info_parts info_shape
  have hmc : (madeCells (Value.agg #[.int .i64 0, .int .i64 0, .slice none 0 0, .pointer none]).cells (1 * 4)).toList = [.int .i64 0, .int .i64 0, .slice none 0 0, .pointer none] := by first | kernel_rfl | (unfold madeCells; rw [Array.toList_map, Array.toList_range]; rfl) | (simp [madeCells, Value.cells]; rfl)
  go_enter Try.func8, Try.ntmps8
  go_wp2_with (at_make; refine wpList_make_full _ rfl (.const (.int .i64 1)) (.const (.int .i64 1)) 50 rfl w.heap.size 60 i0 (.agg #[.int .i64 0, .int .i64 0, .slice none 0 0, .pointer none]) 4 Try.underlying50 hi hz0 hz1 .i64 .i64 _ _ 1 rfl rfl rfl rfl (by rw [hz2]; omega) (by unfold maxLen; omega) (by rw [World.size_alloc]; omega) ?_; intro w1 hown1 hgr1; rw [hmc, World.size_alloc] at hown1; have HO1 := hideP hown1; have HG1 := hideP hgr1; clear hown1 hgr1)
  go_ret
  exact new_end HO1.out HG1.out
end Go.Proofs.Ytldcfglkcifklaa
