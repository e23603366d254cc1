/- Part. -/
import Derived.Test.YtlhmofphpfdjlaaGreatDoorPart46
set_option maxRecDepth 100000
set_option maxHeartbeats 4000000
/- gradusref04.Bare: of a module of one function, of which nothing but the body is told. -/
namespace Go.Proofs.YtlhmofphpfdjlaaGreatDoor
open Go.Proofs.Tryz
open Go.RowKit
/-- The cells of such a function. -/
abbrev decL (x : NV) : List Value := [.string ⟨#[]⟩, .bool false, .slice none 0 0, .string ⟨#[]⟩, .slice none 0 0, .int .i64 x.k, .string x.tx, .int .i64 x.N, .int .i64 x.li, .int .i64 x.co, .slice x.ta x.tl x.tc, .slice x.na x.nl x.nc, .slice x.ka x.kl x.kc, .int .i64 0, .int .i64 0]
theorem info_dc : (prog.info? 40).map (fun i => (i.zero, i.size, i.bytes)) = some (some (.agg (decL zNV).toArray), 15, 224) := by kernel_rfl
theorem clean_kept {w w' : World} {b : Nat} (h : CleanB w b) (hk : w'.heap[b]? = w.heap[b]?) : CleanB w' b := by
  obtain ⟨cs, t, hh⟩ := h
  exact ⟨cs, t, hk.trans hh⟩
theorem row_some7 {w : World} {b e k n c : Nat} {a : Option Addr} {xs : List Value} (h : w.ownsRow b e k (.slice a n c) n xs) (hn : 0 < n) : ∃ g, a = some ⟨g, 0, none⟩ /\ b <= g /\ CleanB w g /\ ∀ j, j < n * k -> w.cell? ⟨g, j, none⟩ = xs[j]? := by
  have h' := h
  rcases h.2 with ⟨_, e⟩ | ⟨g, cap, cur, e, hg, hh, _⟩
  · omega
  · injection e with e1 e2 e3
    subst e1
    exact ⟨g, rfl, hg, ⟨_, _, hh⟩, fun j hj => h'.cellAt j hj⟩
/-- The body of such a function is put anew. -/
abbrev putB (w : World) (b : Nat) (x : NV) : World := (((((((w.setCell ⟨b, 5, none⟩ (.int .i64 x.k)).setCell ⟨b, 6, none⟩ (.string x.tx)).setCell ⟨b, 7, none⟩ (.int .i64 x.N)).setCell ⟨b, 8, none⟩ (.int .i64 x.li)).setCell ⟨b, 9, none⟩ (.int .i64 x.co)).setCell ⟨b, 10, none⟩ (.slice x.ta x.tl x.tc)).setCell ⟨b, 11, none⟩ (.slice x.na x.nl x.nc)).setCell ⟨b, 12, none⟩ (.slice x.ka x.kl x.kc)
theorem putB_heap {w : World} {b : Nat} {x y : NV} {T : TypeId} (h : w.heap[b]? = some (.cells (decL x).toArray T)) : (putB w b y).heap[b]? = some (.cells (decL y).toArray T) := by
  have h0 := cells_setCell (o := 5) (u := .int .i64 y.k) h
  have h1 := cells_setCell (o := 6) (u := .string y.tx) h0
  have h2 := cells_setCell (o := 7) (u := .int .i64 y.N) h1
  have h3 := cells_setCell (o := 8) (u := .int .i64 y.li) h2
  have h4 := cells_setCell (o := 9) (u := .int .i64 y.co) h3
  have h5 := cells_setCell (o := 10) (u := .slice y.ta y.tl y.tc) h4
  have h6 := cells_setCell (o := 11) (u := .slice y.na y.nl y.nc) h5
  have h7 := cells_setCell (o := 12) (u := .slice y.ka y.kl y.kc) h6
  simp only [List.setIfInBounds_toArray, List.set_cons_succ, List.set_cons_zero] at h7
  exact h7
theorem putB_other {w : World} {b c : Nat} {x : NV} (h : c ≠ b) : (putB w b x).heap[c]? = w.heap[c]? := by
  unfold putB
  rw [Below.heap_setCell _ _ _ _ h, Below.heap_setCell _ _ _ _ h, Below.heap_setCell _ _ _ _ h, Below.heap_setCell _ _ _ _ h, Below.heap_setCell _ _ _ _ h, Below.heap_setCell _ _ _ _ h, Below.heap_setCell _ _ _ _ h, Below.heap_setCell _ _ _ _ h]
theorem putB_size {w : World} {b : Nat} {x : NV} : (putB w b x).heap.size = w.heap.size := by
  unfold putB
  rw [World.size_setCell, World.size_setCell, World.size_setCell, World.size_setCell, World.size_setCell, World.size_setCell, World.size_setCell, World.size_setCell]
theorem putB_below {B : Nat} {w : World} {b : Nat} {x : NV} (h : B <= b) : Below B w (putB w b x) :=
  ((((((((Below.refl B w).setCell (p := ⟨b, 5, none⟩) h _).setCell (p := ⟨b, 6, none⟩) h _).setCell (p := ⟨b, 7, none⟩) h _).setCell (p := ⟨b, 8, none⟩) h _).setCell (p := ⟨b, 9, none⟩) h _).setCell (p := ⟨b, 10, none⟩) h _).setCell (p := ⟨b, 11, none⟩) h _).setCell (p := ⟨b, 12, none⟩) h _
theorem bareM_c (w0 : World) (lo n : Nat) (x : NV) (D : Ty) (db : Nat) (w : World) (h : NodeF w0 lo n x D) (hb : Below w0.heap.size w0 w) (hd : w.heap[db]? = some (.cells (decL x).toArray 40)) :
    Calls prog 6 #[.agg #[.slice none 0 0, .slice (some ⟨db, 0, none⟩) 1 1]] w fun e w' => Below w.heap.size w w' /\
      ∃ g c y, e = .returned (.agg #[.slice none 0 0, .slice (some ⟨g, 0, none⟩) 1 c]) /\ CleanB w' g /\ (∀ j, j < 15 -> w'.cell? ⟨g, j, none⟩ = (decL y)[j]?) /\ BareF w0 lo w.heap.size w' n y (bareT n D) := by
  have HN := hideP h
  have HB := hideP hb
  have HD := hideP hd
  obtain ⟨i0, hi, hz0, hz1, hz2⟩ := info_parts info_dc
  have hdl := lt_of_block hd
  clear h hb hd
  go_enter func6, ntmps6
  go_wp2_with fail
  obtain ⟨W0, hW0⟩ : ∃ W0, W0 = ((w.alloc (.cells #[.slice none 0 0, .slice (some ⟨db, 0, none⟩) 1 1] 36)).alloc (.cells #[.slice none 0 0, .slice none 0 0] 36)).alloc (.cells #[.slice none 0 0, .slice none 0 0] 36) := ⟨_, rfl⟩
  rw [<- hW0]
  obtain ⟨pb, hpb⟩ : ∃ pb, pb = w.heap.size := ⟨_, rfl⟩
  have hs0 : W0.heap.size = pb + 3 := by rw [hW0, hpb, World.size_alloc, World.size_alloc, World.size_alloc]
  have HM0 : Hid (W0.heap[pb]? = some (.cells #[.slice none 0 0, .slice (some ⟨db, 0, none⟩) 1 1] 36)) := by
    rw [hW0, hpb]
    exact (Below.heap_alloc _ _ _ (by rw [World.size_alloc, World.size_alloc]; omega)).trans ((Below.heap_alloc _ _ _ (by rw [World.size_alloc]; omega)).trans (heap_alloc_last w _))
  have HR0 : Hid (W0.heap[pb + 1]? = some (.cells #[.slice none 0 0, .slice none 0 0] 36)) := by
    rw [hW0, hpb, show w.heap.size + 1 = (w.alloc (.cells #[.slice none 0 0, .slice (some ⟨db, 0, none⟩) 1 1] 36)).heap.size by rw [World.size_alloc]]
    exact (Below.heap_alloc _ _ _ (by simp)).trans (heap_alloc_last _ _)
  have HO0 : Hid (W0.heap[pb + 1 + 1]? = some (.cells #[.slice none 0 0, .slice none 0 0] 36)) := by
    rw [hW0, hpb, show w.heap.size + 1 + 1 = ((w.alloc (.cells #[.slice none 0 0, .slice (some ⟨db, 0, none⟩) 1 1] 36)).alloc (.cells #[.slice none 0 0, .slice none 0 0] 36)).heap.size by rw [World.size_alloc, World.size_alloc]]
    exact heap_alloc_last _ _
  have HBW : Hid (Below w.heap.size w W0) := by
    rw [hW0]
    exact (((Below.refl _ w).alloc (Nat.le_refl _) _).alloc (by rw [World.size_alloc]; omega) _).alloc (by rw [World.size_alloc, World.size_alloc]; omega) _
  rw [<- hpb]
  have HPb := hideP hpb
  have hdb : db < pb := by omega
  clear hW0 hpb hdl
  have HB0 : Hid (Below w0.heap.size w0 W0) := below_next HB.out HBW.out
  have HD0 : Hid (W0.heap[db]? = some (.cells (decL x).toArray 40)) := (HBW.out.block db (by rw [<- HPb.out]; exact hdb)).trans HD.out
  go_loopw [4] (fun i wr => i = .int .i64 0 /\ Hid (wr = W0)) (fun _ _ => 0)
  case atStart => exact ⟨rfl, rfl⟩
  case round =>
    obtain ⟨rfl, HWr⟩ := hrel
    have hwr := HWr.out
    subst hwr
    clear HWr
    have m0 : wr.cell? ⟨pb, 0, none⟩ = some (.slice none 0 0) := by have h := HM0.out; simp [World.cell?, h]
    have m1 : wr.cell? ⟨pb, 1, none⟩ = some (.slice (some ⟨db, 0, none⟩) 1 1) := by have h := HM0.out; simp [World.cell?, h]
    go_wp2_with fail
    have HCz : Hid (∀ W : World, W.heap[db]? = some (.cells (decL x).toArray 40) -> ∀ j, j < 15 -> W.cell? ⟨db, j, none⟩ = (decL x)[j]?) := fun W h j _ => by
      simp only [World.cell?, h]
      exact List.getElem?_toArray
    clear m0 m1
    go_loopw [6] (fun i wq => (i = .int .i64 0 /\ Hid (wq = wr)) ∨ (i = .int .i64 1 /\ ∃ g c y, Hid (Below w.heap.size w wq /\ wq.heap[pb]? = some (.cells #[.slice none 0 0, .slice (some ⟨db, 0, none⟩) 1 1] 36) /\ wq.heap[pb + 1]? = some (.cells #[.slice none 0 0, .slice none 0 0] 36) /\ wq.heap[pb + 1 + 1]? = some (.cells #[.slice none 0 0, .slice (some ⟨g, 0, none⟩) 1 c] 36) /\ CleanB wq g /\ pb + 3 <= g /\ (∀ j, j < 15 -> wq.cell? ⟨g, j, none⟩ = (decL y)[j]?) /\ BareF w0 lo (pb + 3) wq n y (bareT n D)))) (fun i _ => 1 - (intOf i).toNat)
    case atStart => exact .inl ⟨rfl, rfl⟩
    case round =>
      rcases hrel with ⟨rfl, HWr⟩ | ⟨rfl, g, c, y, HF⟩
      · have hwr := HWr.out
        subst hwr
        clear HWr
        have m1 : wr.cell? ⟨pb, 1, none⟩ = some (.slice (some ⟨db, 0, none⟩) 1 1) := by have h := HM0.out; simp [World.cell?, h]
        have hcz := HCz.out wr HD0.out
        have d0 := hcz 0 (by omega)
        have d1 := hcz 1 (by omega)
        have d2 := hcz 2 (by omega)
        have d3 := hcz 3 (by omega)
        have d4 := hcz 4 (by omega)
        have d5 := hcz 5 (by omega)
        have d6 := hcz 6 (by omega)
        have d7 := hcz 7 (by omega)
        have d8 := hcz 8 (by omega)
        have d9 := hcz 9 (by omega)
        have d10 := hcz 10 (by omega)
        have d11 := hcz 11 (by omega)
        have d12 := hcz 12 (by omega)
        have d13 := hcz 13 (by omega)
        have d14 := hcz 14 (by omega)
        simp only [List.getElem?_cons_zero, List.getElem?_cons_succ] at d0 d1 d2 d3 d4 d5 d6 d7 d8 d9 d10 d11 d12 d13 d14
        clear hcz
        go_wp2_with fail
        obtain ⟨W1, hW1⟩ : ∃ W1, W1 = wr.alloc (.cells #[.string ⟨#[]⟩, .bool false, .slice none 0 0, .string ⟨#[]⟩, .slice none 0 0, .int .i64 x.k, .string x.tx, .int .i64 x.N, .int .i64 x.li, .int .i64 x.co, .slice x.ta x.tl x.tc, .slice x.na x.nl x.nc, .slice x.ka x.kl x.kc, .int .i64 0, .int .i64 0] 40) := ⟨_, rfl⟩
        rw [<- hW1]
        have HB1 : Hid (Below wr.heap.size wr W1) := by rw [hW1]; exact bl_alloc3 _ _
        have HE1 : Hid (W1.heap[pb + 3]? = some (.cells (decL x).toArray 40)) := by rw [hW1, <- hs0]; exact heap_alloc_last _ _
        have hs1 : W1.heap.size = pb + 4 := by rw [hW1, World.size_alloc, hs0]
        clear hW1 d0 d1 d2 d3 d4 d5 d6 d7 d8 d9 d10 d11 d12 d13 d14 m1
        refine (bare_c w0 lo n x D W1 HN.out (below_next HB0.out HB1.out)).mono ?_
        rintro e w5 ⟨hb5, y, rfl, hy⟩
        rw [hs1] at hb5 hy
        have HY := hideP hy
        have HB5 := hideP hb5
        have hs5 : pb + 4 <= w5.heap.size := by have := hb5.size; omega
        have hE : w5.heap[pb + 3]? = some (.cells (decL x).toArray 40) := (hb5.block (pb + 3) (by omega)).trans HE1.out
        have hcz : ∀ j, w5.cell? ⟨pb + 3, j, none⟩ = (decL x)[j]? := fun j => by
          simp only [World.cell?, hE]
          exact List.getElem?_toArray
        have hfz : ∀ j, w5.frozen? ⟨pb + 3, j, none⟩ = false := fun j => by simp [World.frozen?, hE]
        have d0 := hcz 0
        have d1 := hcz 1
        have d2 := hcz 2
        have d3 := hcz 3
        have d4 := hcz 4
        have d5 := hcz 5
        have d6 := hcz 6
        have d7 := hcz 7
        have d8 := hcz 8
        have d9 := hcz 9
        have d10 := hcz 10
        have d11 := hcz 11
        have d12 := hcz 12
        have d13 := hcz 13
        have d14 := hcz 14
        simp only [List.getElem?_cons_zero, List.getElem?_cons_succ] at d0 d1 d2 d3 d4 d5 d6 d7 d8 d9 d10 d11 d12 d13 d14
        have f5 := hfz 5
        have f6 := hfz 6
        have f7 := hfz 7
        have f8 := hfz 8
        have f9 := hfz 9
        have f10 := hfz 10
        have f11 := hfz 11
        have f12 := hfz 12
        have HBr5 : Hid (Below wr.heap.size wr w5) := HB1.out.trans (hb5.mono (by omega))
        have hO := (HBr5.out.block (pb + 1 + 1) (by omega)).trans HO0.out
        have o0 : w5.cell? ⟨pb + 1 + 1, 0, none⟩ = some (.slice none 0 0) := by simp [World.cell?, hO]
        have o1 : w5.cell? ⟨pb + 1 + 1, 1, none⟩ = some (.slice none 0 0) := by simp [World.cell?, hO]
        have of1 : w5.frozen? ⟨pb + 1 + 1, 1, none⟩ = false := by simp [World.frozen?, hO]
        have HO5 := hideP hO
        have HE5 := hideP hE
        clear hcz hfz hb5 hy hO hE
        rename_i K1 hK1 K0 hK0
        have HK1 := hideP hK1
        clear hK1 o0 o1 of1
        go_wp2_with fail
        obtain ⟨W6, hW6⟩ : ∃ W, W = (((((((w5.setCell ⟨pb + 3, 5, none⟩ (.int .i64 y.k)).setCell ⟨pb + 3, 6, none⟩ (.string y.tx)).setCell ⟨pb + 3, 7, none⟩ (.int .i64 y.N)).setCell ⟨pb + 3, 8, none⟩ (.int .i64 y.li)).setCell ⟨pb + 3, 9, none⟩ (.int .i64 y.co)).setCell ⟨pb + 3, 10, none⟩ (.slice y.ta y.tl y.tc)).setCell ⟨pb + 3, 11, none⟩ (.slice y.na y.nl y.nc)).setCell ⟨pb + 3, 12, none⟩ (.slice y.ka y.kl y.kc) := ⟨_, rfl⟩
        rw [<- hW6]
        have hWz : W6 = putB w5 (pb + 3) y := hW6
        have hE : W6.heap[pb + 3]? = some (.cells (decL y).toArray 40) := by rw [hWz]; exact putB_heap HE5.out
        have HN6 : Hid (∀ c, c ≠ pb + 3 -> W6.heap[c]? = w5.heap[c]?) := fun c hc => by rw [hWz]; exact putB_other hc
        have HS6 : Hid (W6.heap.size = w5.heap.size) := by
          show W6.heap.size = w5.heap.size
          rw [hWz]; exact putB_size
        have hs6 : pb + 4 <= W6.heap.size := by have := HS6.out; omega
        have HB6 : Hid (Below (pb + 3) w5 W6) := by rw [hWz]; exact putB_below (Nat.le_refl _)
        clear hW6 hWz d0 d1 d2 d3 d4 d5 d6 d7 d8 d9 d10 d11 d12 d13 d14 f5 f6 f7 f8 f9 f10 f11 f12
        have hcz : ∀ j, W6.cell? ⟨pb + 3, j, none⟩ = (decL y)[j]? := fun j => by
          simp only [World.cell?, hE]
          exact List.getElem?_toArray
        have d0 := hcz 0
        have d1 := hcz 1
        have d2 := hcz 2
        have d3 := hcz 3
        have d4 := hcz 4
        have d5 := hcz 5
        have d6 := hcz 6
        have d7 := hcz 7
        have d8 := hcz 8
        have d9 := hcz 9
        have d10 := hcz 10
        have d11 := hcz 11
        have d12 := hcz 12
        have d13 := hcz 13
        have d14 := hcz 14
        simp only [List.getElem?_cons_zero, List.getElem?_cons_succ] at d0 d1 d2 d3 d4 d5 d6 d7 d8 d9 d10 d11 d12 d13 d14
        have hO := (HN6.out (pb + 1 + 1) (by omega)).trans HO5.out
        have o1 : W6.cell? ⟨pb + 1 + 1, 1, none⟩ = some (.slice none 0 0) := by simp [World.cell?, hO]
        have HO6 := hideP hO
        clear hcz hO hE
        refine HK1.out _ _ ?_
        go_wp2_with (at_builtin; refine wpList_append_own_at _ rfl (.tmp 48) (.tmp 50) 34 rfl (pb + 4) 40 i0 _ 15 224 underlying34 hi hz0 hz1 hz2 rfl (by decide) _ 0 [] rfl (World.ownsRow_nil _ _ _ _) ⟨_, 0, none⟩ 1 1 [.string ⟨#[]⟩, .bool false, .slice none 0 0, .string ⟨#[]⟩, .slice none 0 0, .int .i64 y.k, .string y.tx, .int .i64 y.N, .int .i64 y.li, .int .i64 y.co, .slice y.ta y.tl y.tc, .slice y.na y.nl y.nc, .slice y.ka y.kl y.kc, .int .i64 0, .int .i64 0] rfl rfl (cells_newK _ _ _) (by simp [Value.oneCell']) (by unfold maxLen; omega) (by omega) (by rw [World.size_alloc]; omega) ?_)
        intro v' w7 hown' hgrow _ hloc
        obtain ⟨a7, c7, rfl⟩ := row_shape hown'
        obtain ⟨g, hg1, hg2, hg3, hg4⟩ := row_some7 hown' (by decide)
        subst hg1
        have HG : Hid (∀ c, c < W6.heap.size -> w7.heap[c]? = W6.heap[c]?) := fun c hc => by
          rw [hgrow.block c (by rw [World.size_alloc]; omega) (fun e => by cases e)]
          exact Below.heap_alloc _ _ _ hc
        have HB7 : Hid (Below (pb + 3) W6 w7) := ((bl_alloc3 W6 _).mono (by omega)).trans (below_grow3 hgrow (by rw [World.size_alloc]; omega) fun q e => by cases e)
        have hO := (HG.out (pb + 1 + 1) (by omega)).trans HO6.out
        have p1 : w7.cell? ⟨pb + 1 + 1, 1, none⟩ = some (.slice none 0 0) := by simp [World.cell?, hO]
        have pf : w7.frozen? ⟨pb + 1 + 1, 1, none⟩ = false := by simp [World.frozen?, hO]
        have HO7 := hideP hO
        have HC7 := hideP hg4
        clear hown' hgrow hloc hO hg4 d0 d1 d2 d3 d4 d5 d6 d7 d8 d9 d10 d11 d12 d13 d14 o1
        go_wp2_with fail
        obtain ⟨W8, hW8⟩ : ∃ W, W = w7.setCell ⟨pb + 1 + 1, 1, none⟩ (.slice (some ⟨g, 0, none⟩) 1 c7) := ⟨_, rfl⟩
        rw [<- hW8]
        refine ⟨.inr ⟨rfl, g, c7, y, ?_⟩, by decide⟩
        have HP : Hid (∀ c, c ≠ pb + 1 + 1 -> W8.heap[c]? = w7.heap[c]?) := fun c hc => by rw [hW8]; exact Below.heap_setCell _ _ _ _ hc
        have h87 : W8.heap.size = w7.heap.size := by rw [hW8, World.size_setCell]
        have h76 : W6.heap.size <= w7.heap.size := HB7.out.size
        have hg5 := clean_lt hg3
        refine ⟨?_, ?_, ?_, ?_, clean_kept hg3 (HP.out g (by omega)), by omega, fun j hj => ?_, ?_⟩
        · have b1 := HBW.out
          rw [<- HPb.out] at b1 ⊢
          refine ((((b1.trans (HBr5.out.mono (by omega))).trans (HB6.out.mono (by omega))).trans (HB7.out.mono (by omega)))).trans ?_
          rw [hW8]
          exact (Below.refl _ _).setCell (p := ⟨pb + 1 + 1, 1, none⟩) (by show pb <= pb + 1 + 1; omega) _
        · exact (HP.out pb (by omega)).trans ((HG.out pb (by omega)).trans ((HN6.out pb (by omega)).trans ((HBr5.out.block pb (by omega)).trans HM0.out)))
        · exact (HP.out (pb + 1) (by omega)).trans ((HG.out (pb + 1) (by omega)).trans ((HN6.out (pb + 1) (by omega)).trans ((HBr5.out.block (pb + 1) (by omega)).trans HR0.out)))
        · rw [hW8]
          have h := cells_setCell (o := 1) (u := .slice (some ⟨g, 0, none⟩) 1 c7) HO7.out
          simpa using h
        · have e : W8.cell? ⟨g, j, none⟩ = w7.cell? ⟨g, j, none⟩ := World.cell?_of_block (w := w7) (a := ⟨g, j, none⟩) (HP.out g (by omega))
          rw [e]
          exact HC7.out j (by omega)
        · refine bareF_lower (by omega) n y _ (bareF_keep (w := w5) (by have := HS6.out; omega) (fun b h1 h2 => ?_) n y _ HY.out)
          have := HS6.out
          exact (HP.out b (by omega)).trans ((HG.out b (by omega)).trans (HN6.out b (by omega)))
      · obtain ⟨hf1, hf2, hf3, hf4, hf5, hf6, hf7, hf8⟩ := HF.out
        have m1 : wr.cell? ⟨pb, 1, none⟩ = some (.slice (some ⟨db, 0, none⟩) 1 1) := by simp [World.cell?, hf2]
        have r0 : wr.cell? ⟨pb + 1, 0, none⟩ = some (.slice none 0 0) := by simp [World.cell?, hf3]
        have r1 : wr.cell? ⟨pb + 1, 1, none⟩ = some (.slice none 0 0) := by simp [World.cell?, hf3]
        have rf0 : wr.frozen? ⟨pb + 1, 0, none⟩ = false := by simp [World.frozen?, hf3]
        have rf1 : wr.frozen? ⟨pb + 1, 1, none⟩ = false := by simp [World.frozen?, hf3]
        have q0 : wr.cell? ⟨pb + 1 + 1, 0, none⟩ = some (.slice none 0 0) := by simp [World.cell?, hf4]
        have q1 : wr.cell? ⟨pb + 1 + 1, 1, none⟩ = some (.slice (some ⟨g, 0, none⟩) 1 c) := by simp [World.cell?, hf4]
        clear hf1 hf2 hf3 hf4 hf5 hf6 hf7 hf8
        go_wp2_with fail
        obtain ⟨W9, hW9⟩ : ∃ W, W = (wr.setCell ⟨pb + 1, 0, none⟩ (.slice none 0 0)).setCell ⟨pb + 1, 1, none⟩ (.slice (some ⟨g, 0, none⟩) 1 c) := ⟨_, rfl⟩
        rw [<- hW9]
        obtain ⟨hf1, hf2, hf3, hf4, hf5, hf6, hf7, hf8⟩ := HF.out
        have HP : Hid (∀ c, c ≠ pb + 1 -> W9.heap[c]? = wr.heap[c]?) := fun c hc => by rw [hW9, Below.heap_setCell _ _ _ _ hc, Below.heap_setCell _ _ _ _ hc]
        have h9 : W9.heap.size = wr.heap.size := by rw [hW9, World.size_setCell, World.size_setCell]
        have hR9 : W9.heap[pb + 1]? = some (.cells #[.slice none 0 0, .slice (some ⟨g, 0, none⟩) 1 c] 36) := by
          rw [hW9]
          have h := cells_setCell (o := 1) (u := .slice (some ⟨g, 0, none⟩) 1 c) (cells_setCell (o := 0) (u := .slice none 0 0) hf3)
          simpa using h
        have HB9 : Hid (Below w.heap.size w W9) := by
          rw [hW9, <- HPb.out]
          rw [<- HPb.out] at hf1
          exact (hf1.setCell (p := ⟨pb + 1, 0, none⟩) (Nat.le_succ _) _).setCell (p := ⟨pb + 1, 1, none⟩) (Nat.le_succ _) _
        refine bodyPost_ret (results_cell_row rfl _ _ (pb + 1) 36 _ (0, 0) _ rfl hR9 underlying36 rfl (by kernel_rfl)) rfl ⟨HB9.out, g, c, y, rfl, clean_kept hf5 (HP.out g (by omega)), fun j hj => ?_, ?_⟩
        · have e : W9.cell? ⟨g, j, none⟩ = wr.cell? ⟨g, j, none⟩ := World.cell?_of_block (w := wr) (a := ⟨g, j, none⟩) (HP.out g (by omega))
          rw [e]
          exact hf7 j hj
        · rw [<- HPb.out]
          exact bareF_lower (by omega) n y _ (bareF_keep (w := wr) (by omega) (fun b h1 _ => HP.out b (by omega)) n y _ hf8)
end Go.Proofs.YtlhmofphpfdjlaaGreatDoor
