/- What the program's tree keeps, in memory; names.number. -/
import Derived.Test.YtldcfglkcifklaaShP
import Derived.Test.YtldcfglkcifklaaLib3
namespace Go.Proofs.Ytldcfglkcifklaa
open Go.RowKit

/-- The shape i in its row: T[i] is the names of the shape ahead, and the last ones. -/
def ShapeAt (G : Nat → Prop) (w : World) (xs : List Value) (NL : List ByteArray) (T : List (List ByteArray)) (i : Nat) : Prop := ∃ (A : Nat) (la pl : Value) (La : List ByteArray),
  xs[i * 4]? = some (.int .i64 (T.getD i []).length) ∧ xs[i * 4 + 1]? = some (.int .i64 A) ∧ xs[i * 4 + 2]? = some la ∧ xs[i * 4 + 3]? = some pl ∧
  (A < i ∨ i = 0 ∧ A = 0) ∧ La.length ≤ 16 ∧ T.getD i [] = T.getD A [] ++ La ∧ StrV G w la La ∧ PT G w pl (placeOf NL (T.getD i []))
/-- What is kept: ro tells the block's part. -/
structure KT (B : Nat) (F : Nat → Prop) (ro : Nat → Nat) (w : World) (t k nb mb : Nat) (vl vs : Value) (xs : List Value) (NL : List ByteArray) (M : Num) (T : List (List ByteArray)) : Prop where
  tb : w.heap[t]? = some (.cells #[.pointer (some ⟨k, 0, none⟩)] 55)
  kb : w.heap[k]? = some (.cells #[.map (some nb), vl, vs, .map (some mb)] 53)
  nm : NamesM w nb NL
  ls : w.ownsRow B 9 1 vl NL.length (NL.map Value.string)
  sh : w.ownsRow B 60 4 vs T.length xs
  md : NumG 63 w mb M
  rows : ∀ i, i < T.length → ShapeAt (fun b => F b ∧ ro b = 6) w xs NL T i
  rt : F t ∧ ro t = 0
  rk : F k ∧ ro k = 1
  rn : F nb ∧ ro nb = 2
  rl : ∀ q, vl.ownBlock = some q → F q ∧ ro q = 3
  rs : ∀ q, vs.ownBlock = some q → F q ∧ ro q = 4
  rm : F mb ∧ ro mb = 5
  low : ∀ b, F b → B ≤ b ∧ b < w.heap.size
section
variable {B t k nb mb i : Nat} {F F' G G' S : Nat → Prop} {ro : Nat → Nat} {w w' : World} {vl vs : Value} {xs : List Value} {NL : List ByteArray} {M : Num} {T : List (List ByteArray)}
theorem ShapeAt.ch (h : ShapeAt G w xs NL T i) (hc : Ch S w w') (hs : ∀ b, G b → ¬ S b) : ShapeAt G w' xs NL T i := by
  obtain ⟨A, la, pl, La, h1, h2, h3, h4, h5, h6, h7, h8, h9⟩ := h
  exact ⟨A, la, pl, La, h1, h2, h3, h4, h5, h6, h7, h8.ch hc fun b hb _ => hs b hb, h9.ch hc hs⟩
theorem ShapeAt.mono (h : ShapeAt G w xs NL T i) (hG : ∀ b, b < w.heap.size → G b → G' b) : ShapeAt G' w xs NL T i := by
  obtain ⟨A, la, pl, La, h1, h2, h3, h4, h5, h6, h7, h8, h9⟩ := h
  exact ⟨A, la, pl, La, h1, h2, h3, h4, h5, h6, h7, h8.mono hG, h9.mono hG⟩
theorem ShapeAt.name (h : ShapeAt G w xs NL T i) {x : ByteArray} (hx : x ∉ T.getD i []) : ShapeAt G w xs (NL ++ [x]) T i := by
  obtain ⟨A, la, pl, La, h1, h2, h3, h4, h5, h6, h7, h8, h9⟩ := h
  exact ⟨A, la, pl, La, h1, h2, h3, h4, h5, h6, h7, h8, h9.ext fun n _ => (placeOf_name hx n).symm⟩
theorem KT.ch (h : KT B F ro w t k nb mb vl vs xs NL M T) (hc : Ch S w w') (hs : ∀ b, F b → ¬ S b) : KT B F ro w' t k nb mb vl vs xs NL M T :=
  ⟨hc.obj h.tb (hs _ h.rt.1), hc.obj h.kb (hs _ h.rk.1), h.nm.ch hc (hs _ h.rn.1), hc.row h.ls fun q hq => hs q (h.rl q hq).1, hc.row h.sh fun q hq => hs q (h.rs q hq).1, h.md.ch hc (hs _ h.rm.1),
    fun i hi => (h.rows i hi).ch hc fun b hb => hs b hb.1, h.rt, h.rk, h.rn, h.rl, h.rs, h.rm, fun b hb => ⟨(h.low b hb).1, Nat.lt_of_lt_of_le (h.low b hb).2 hc.size⟩⟩
end
theorem box4 {W : World} {b : Nat} {x0 x1 x2 x3 : Value} {t : TypeId} (h : W.heap[b]? = some (.cells #[x0, x1, x2, x3] t)) : (W.cell? ⟨b, 0, none⟩ = some x0 ∧ W.cell? ⟨b, 1, none⟩ = some x1 ∧ W.cell? ⟨b, 2, none⟩ = some x2 ∧ W.cell? ⟨b, 3, none⟩ = some x3) ∧ (W.frozen? ⟨b, 0, none⟩ = false ∧ W.frozen? ⟨b, 1, none⟩ = false ∧ W.frozen? ⟨b, 2, none⟩ = false ∧ W.frozen? ⟨b, 3, none⟩ = false) ∧ b < W.heap.size := by
  refine ⟨⟨?_, ?_, ?_, ?_⟩, ⟨?_, ?_, ?_, ?_⟩, lt_of_block h⟩
  all_goals first | (rw [cell_of_row _ _ _ _ _ _ h]; rfl) | simp [World.frozen?, h]
set_option maxHeartbeats 4000000 in
theorem sclone_c (s : ByteArray) (w : World) (hs : s.size ≤ 281474976710656) : Calls Try.prog 24 #[.string s] w fun e w' => e = .returned (.string s) ∧ Below w.heap.size w w' := by
  have HC := hideP (Try.stringslite_Clone s w hs)
  go_enter Try.func24, Try.ntmps24
  go_wp2_with fail
  refine HC.out.mono ?_
  rintro e w' ⟨rfl, hb⟩
  have HB := hideP hb
  clear hb
  go_wp2_with fail
  go_ret
  exact ⟨rfl, HB.out⟩
/-- What number leaves. -/
def NumberP (B : Nat) (F : Nat → Prop) (w : World) (t k nb mb : Nat) (vs : Value) (xs : List Value) (NL : List ByteArray) (M : Num) (T : List (List ByteArray)) (x : ByteArray) (e : Ending) (w' : World) : Prop := ∃ (n : Nat) (F' : Nat → Prop) (ro' : Nat → Nat) (vl' : Value) (NL' : List ByteArray),
  e = .returned (.int .i64 n) ∧ KT B F' ro' w' t k nb mb vl' vs xs NL' M T ∧ (∀ b, F' b → F b ∨ w.heap.size ≤ b) ∧ Ch F w w' ∧ ((NL' = NL ∧ slotV NL x = some n) ∨ (x ∉ NL ∧ NL' = NL ++ [x] ∧ n = NL.length))
/-- A row that grew lies where it lay, or is new. -/
theorem own_new {B n' k' et' : Nat} {v v' : Value} {xs : List Value} {w2 w3 : World} (hO : w3.ownsRow B et' k' v' n' xs) (hL : v'.ownBlock = v.ownBlock ∨ v'.ownBlock = some w2.heap.size) : ∀ q, v'.ownBlock = some q → v.ownBlock = some q ∨ (w2.heap.size ≤ q ∧ q < w3.heap.size) := fun q hq => by
  rcases hL with e | e
  · exact .inl (e ▸ hq)
  · rw [e] at hq
    injection hq with hq
    exact .inr ⟨by omega, (hO.lt q (by rw [e, hq])).2⟩
theorem getD_at {T : List (List ByteArray)} {i : Nat} (h : i < T.length) : T.getD i [] = T[i] := by
  rw [List.getD_eq_getElem?_getD, List.getElem?_eq_getElem h, Option.getD_some]
theorem number_end {B t k nb mb c3 cl : Nat} {F : Nat → Prop} {ro : Nat → Nat} {w w2 w3 : World} {al a3 : Option Addr} {vs : Value} {xs : List Value} {NL : List ByteArray} {M : Num} {T : List (List ByteArray)} {x : ByteArray} (H : KT B F ro w t k nb mb (.slice al NL.length cl) vs xs NL M T) (HT : ∀ l ∈ T, ∀ y ∈ l, y ∈ NL) (HS : x ∉ NL)
    (HC2 : Ch (fun b => b = nb) w w2) (HP2 : NamesM w2 nb (NL ++ [x])) (HO3 : w3.ownsRow B 9 1 (.slice a3 (NL.length + 1) c3) (NL.length + 1) (NL.map Value.string ++ [.string x]))
    (HG3 : (w2.alloc (.cells #[.string x] 9)).grownBy w3 (Value.slice al NL.length cl).ownBlock) (HL3 : (Value.slice a3 (NL.length + 1) c3).ownBlock = (Value.slice al NL.length cl).ownBlock ∨ (Value.slice a3 (NL.length + 1) c3).ownBlock = some (w2.alloc (.cells #[.string x] 9)).heap.size)
    (HX3 : w3.heap[k]? = some (.cells #[.map (some nb), .slice al NL.length cl, vs, .map (some mb)] 53)) :
    NumberP B F w t k nb mb vs xs NL M T x (.returned (.int .i64 NL.length)) (w3.setCell ⟨k, 1, none⟩ (.slice a3 (NL.length + 1) c3)) := by
  have hs2 := HC2.size
  have hs3 : w2.heap.size + 1 ≤ w3.heap.size := by have := HG3.size; rw [World.size_alloc] at this; exact this
  have hown := own_new (v := .slice al NL.length cl) HO3 HL3
  rw [World.size_alloc] at hown
  have hlow := H.low
  have hkr := H.rk
  -- what turned
  have hc3 : Ch (fun b => b = nb ∨ (Value.slice al NL.length cl).ownBlock = some b) w w3 := ((HC2.mono fun _ _ h => .inl h).alloc _).grown HG3 fun q hq _ => .inr hq
  have hc4 : Ch (fun b => b = nb ∨ (Value.slice al NL.length cl).ownBlock = some b ∨ b = k) w (w3.setCell ⟨k, 1, none⟩ (.slice a3 (NL.length + 1) c3)) := (hc3.mono fun _ _ h => h.elim .inl fun h => .inr (.inl h)).set (fun _ => .inr (.inr rfl)) _ _
  have hset : Ch (fun b => b = k) w3 (w3.setCell ⟨k, 1, none⟩ (.slice a3 (NL.length + 1) c3)) := (Ch.refl (fun b => b = k) w3).set (fun _ => rfl) _ _
  have hback : Ch (fun b => (Value.slice al NL.length cl).ownBlock = some b ∨ b = k) w2 (w3.setCell ⟨k, 1, none⟩ (.slice a3 (NL.length + 1) c3)) := (((Ch.refl _ w2).alloc _).grown HG3 fun q hq _ => .inl hq).set (fun _ => .inr rfl) _ _
  have hoff : ∀ b, F b → ro b ≠ 1 → ro b ≠ 2 → ro b ≠ 3 → ¬ (b = nb ∨ (Value.slice al NL.length cl).ownBlock = some b ∨ b = k) := fun b _ h1 h2 h3 h => by
    rcases h with rfl | h | rfl
    · exact h2 H.rn.2
    · exact h3 (H.rl b h).2
    · exact h1 hkr.2
  have hold : ∀ b, F b → (if b < w.heap.size then ro b else 3) = ro b := fun b hb => if_pos (hlow b hb).2
  refine ⟨NL.length, fun b => F b ∨ (w.heap.size ≤ b ∧ b < w3.heap.size), fun b => if b < w.heap.size then ro b else 3, .slice a3 (NL.length + 1) c3, NL ++ [x], rfl, ?_, fun b hb => hb.imp_right fun h => h.1, hc4.mono fun b _ h => ?_, .inr ⟨HS, rfl, rfl⟩⟩
  · have hcell := cells_setCell (o := 1) (u := .slice a3 (NL.length + 1) c3) HX3
    refine ⟨hc4.obj H.tb (hoff _ H.rt.1 (by rw [H.rt.2]; decide) (by rw [H.rt.2]; decide) (by rw [H.rt.2]; decide)), by simpa using hcell, HP2.ch hback fun h => ?_, ?_, hc4.row H.sh fun q hq => ?_, H.md.ch hc4 (hoff _ H.rm.1 (by rw [H.rm.2]; decide) (by rw [H.rm.2]; decide) (by rw [H.rm.2]; decide)), fun i hi => ?_, ⟨.inl H.rt.1, (hold _ H.rt.1).trans H.rt.2⟩, ⟨.inl H.rk.1, (hold _ H.rk.1).trans H.rk.2⟩, ⟨.inl H.rn.1, (hold _ H.rn.1).trans H.rn.2⟩, fun q hq => ?_, fun q hq => ⟨.inl (H.rs q hq).1, (hold _ (H.rs q hq).1).trans (H.rs q hq).2⟩, ⟨.inl H.rm.1, (hold _ H.rm.1).trans H.rm.2⟩, fun b hb => ?_⟩
    · have h2 := H.rn.2
      rcases h with h | h
      · have := (H.rl _ h).2; omega
      · rw [h] at h2; omega
    · have := hset.row HO3 fun q hq e => by
        rcases hown q hq with h | h
        · have h1 := (H.rl q h).2
          rw [e] at h1
          omega
        · have := (hlow k hkr.1).2
          omega
      simpa using this
    · have := (H.rs q hq)
      exact hoff q this.1 (by rw [this.2]; decide) (by rw [this.2]; decide) (by rw [this.2]; decide)
    · have hx : x ∉ T.getD i [] := fun h => by
        rw [getD_at hi] at h
        exact HS (HT _ (List.getElem_mem hi) x h)
      refine ((H.rows i hi).name hx |>.ch hc4 fun b hb => hoff b hb.1 (by rw [hb.2]; decide) (by rw [hb.2]; decide) (by rw [hb.2]; decide)).mono fun b _ hb => ⟨.inl hb.1, (hold b hb.1).trans hb.2⟩
    · rcases hown q hq with h | h
      · have := H.rl q h
        exact ⟨.inl this.1, (hold q this.1).trans this.2⟩
      · exact ⟨.inr ⟨by omega, h.2⟩, if_neg (by omega)⟩
    · rw [size_set]
      rcases hb with hb | hb
      · have := hlow b hb
        exact ⟨this.1, by omega⟩
      · have := hlow t H.rt.1
        exact ⟨by omega, hb.2⟩
  · rcases h with rfl | h | rfl
    · exact H.rn.1
    · exact (H.rl b h).1
    · exact hkr.1
set_option maxRecDepth 100000 in
set_option maxHeartbeats 4000000 in
theorem number_c (B : Nat) (F : Nat → Prop) (ro : Nat → Nat) (w : World) (t k nb mb : Nat) (vl vs : Value) (xs : List Value) (NL : List ByteArray) (M : Num) (T : List (List ByteArray)) (x : ByteArray) (h : KT B F ro w t k nb mb vl vs xs NL M T) (hx : x.size ≤ 140737488351232) (hN : NL.length ≤ 1000000) (hT : ∀ l ∈ T, ∀ y ∈ l, y ∈ NL) :
    Calls Try.prog 20 #[.pointer (some ⟨k, 0, none⟩), .string x] w (NumberP B F w t k nb mb vs xs NL M T x) := by
  have H := hideP h
  have HT := hideP hT
  obtain ⟨⟨c0, c1, c2, c3⟩, _, hkl⟩ := box4 h.kb
  have hlook := h.nm.look (S := x) (by unfold maxLen; omega)
  clear h hT
  cases hs : slotV NL x with
  | some n =>
    rw [hs] at hlook
    have HS := hideP hs
    have HL := hideP hlook
    clear hs hlook
    go_enter Try.func20, Try.ntmps20
    go_wp2_with (at_lookup; refine wpList_lookK rfl (.tmp 11) (.tmp 12) _ rfl nb _ _ rfl rfl HL.out ?_)
    go_ret
    exact ⟨n, F, ro, vl, NL, rfl, H.out, fun _ h => .inl h, Ch.refl _ _, .inl ⟨rfl, HS.out⟩⟩
  | none =>
    rw [hs] at hlook
    have hni : x ∉ NL := slotV_no.1 (by rw [hs]; rfl)
    have HS := hideP hni
    have HL := hideP hlook
    obtain ⟨i0, hi, hz0, hz1, hz2⟩ := info_parts info_str
    obtain ⟨al, cl, rfl⟩ := row_shape H.out.ls
    have HC : Hid (∀ n, Calls Try.prog 24 #[.string x] (w.drewN n) fun e w' => e = .returned (.string x) ∧ Below w.heap.size w w') := fun n => (sclone_c x (w.drewN n) (by omega)).mono fun e w' h => ⟨h.1, h.2.os, h.2.tape, h.2.output, h.2.size, h.2.block⟩
    have HX : Hid (∀ w', Below w.heap.size w w' → w'.cell? ⟨k, 1, none⟩ = some (.slice al NL.length cl)) := by
      have h := hideP c1
      have hk := hideP hkl
      exact fun w' hb => (hb.cell (p := ⟨k, 1, none⟩) hk.out).trans h.out
    have s0 : w.drew.cell? ⟨k, 1, none⟩ = some (.slice al NL.length cl) := c1
    clear hs hlook hni
    go_enter Try.func20, Try.ntmps20
    go_wp2_with (at_lookup; refine wpList_lookK rfl (.tmp 11) (.tmp 12) _ rfl nb _ _ rfl rfl HL.out ?_)
    go_region_held (fun W => W.cell? ⟨k, 1, none⟩ = some (.slice al NL.length cl)) (with_reducible assumption) (first
      | (go_at_call 24; refine (HC.out _).mono ?_; rintro e w1 ⟨rfl, hb1⟩; have s1 := HX.out w1 hb1; have B1 := hideP hb1; clear hb1))
    clear s0 HC HX
    have HB1 : Hid (Ch (fun _ => False) w w1) := Ch.of B1.out
    obtain ⟨w2, hp1, hp2, hp3⟩ := (H.out.nm.ch HB1.out fun h => h).put (S := x) (by unfold maxLen; omega) (by omega) HS.out
    have HP2 := hideP hp2
    have HG2 := hideP hp3
    have HC2 : Hid (Ch (fun b => b = nb) w w2) := (HB1.out.mono (S' := fun b => b = nb) fun _ _ h => h.elim).grown hp3 fun q hq _ => by injection hq with hq; exact hq.symm
    have HP1 := hideP hp1
    have hk1 := (HB1.out.obj H.out.kb fun h => h)
    obtain ⟨⟨y0, y1, _, _⟩, _, _⟩ := box4 hk1
    have hnk : k ≠ nb := fun e => by have h1 := H.out.rk.2; have h2 := H.out.rn.2; rw [e] at h1; omega
    have hk2 := HC2.out.obj H.out.kb fun e => hnk e
    have HK2 := hideP hk2
    obtain ⟨⟨z0, z1, _, _⟩, _, hk2l⟩ := box4 hk2
    have HR2 : Hid (w2.ownsRow B 9 1 (.slice al NL.length cl) NL.length (NL.map Value.string)) := HC2.out.row H.out.ls fun q hq e => by have h1 := (H.out.rl q hq).2; have h2 := H.out.rn.2; rw [e] at h1; omega
    have HBw : Hid (B ≤ w2.heap.size) := by have := H.out.low _ H.out.rt.1; have := HC2.out.size; show B ≤ w2.heap.size; omega
    clear hp1 hp2 hp3 hk1 hk2 hnk c0 c1 c2 c3 s1
    go_wp2_with (first
      | (at_mapUpdate; refine wpList_putK rfl (.tmp 28) (.tmp 29) (.tmp 30) _ rfl nb _ _ rfl rfl rfl w2 HP1.out ?_)
      | (at_builtin; refine wpList_append_own_at _ rfl (.tmp 35) (.tmp 37) 28 rfl B 9 i0 _ 1 16 Try.underlying28 hi hz0 hz1 hz2 rfl (by decide) _ NL.length _ rfl (HR2.out.alloc _) ⟨_, 0, none⟩ 1 1 [.string x] rfl rfl (cells_newK _ _ _) (by simp [Value.oneCell']) (by unfold maxLen; omega) (by omega) (by have := HBw.out; rw [World.size_alloc]; omega) ?_; intro v3 w3 hown3 hgr3 _ hloc3; obtain ⟨a3, c3, rfl⟩ := row_shape hown3; have HO3 := hideP hown3; have HG3 := hideP hgr3; have HL3 := hideP hloc3; have HX3 : Hid (w3.heap[k]? = some (.cells #[.map (some nb), .slice al NL.length cl, vs, .map (some mb)] 53)) := (hgr3.block k (by rw [World.size_alloc]; omega) (fun e => by have h1 := (H.out.rl k e.symm).2; have h2 := H.out.rk.2; omega)).trans ((Below.heap_alloc _ _ _ hk2l).trans HK2.out); obtain ⟨⟨_, d1, _, _⟩, ⟨_, f1, _, _⟩, hk3l⟩ := box4 HX3.out; clear hown3 hgr3 hloc3))
    go_ret
    exact number_end H.out HT.out HS.out HC2.out HP2.out HO3.out HG3.out HL3.out HX3.out
end Go.Proofs.Ytldcfglkcifklaa
