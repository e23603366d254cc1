/- Part. -/
import Derived.Test.YtlhmofphpfdjlaaGreatDoorPart45
set_option maxRecDepth 100000
set_option maxHeartbeats 4000000
/- gradusref04.Bare: what it leaves, and how that lies in memory. -/
namespace Go.Proofs.YtlhmofphpfdjlaaGreatDoor
open Go.Proofs.Tryz
open Go.RowKit
open Br (ShE RE LR lr_map she_le)
/-- An expression without places. -/
def bareT : Nat -> Ty -> Ty
  | 0, D => D
  | m + 1, .agg [k, tx, N, _, _, ts, ns, .agg ks] => .agg [k, tx, N, .lit (.int .i64 ((0 : Nat) : Int)), .lit (.int .i64 ((0 : Nat) : Int)), ts, ns, .agg (ks.map (bareT m))]
  | _ + 1, D => D
theorem bare_mk (m : Nat) (k : Int) (tx : List UInt8) (N : Int) (l c : Nat) (ts : List Ty) (ns : List (List UInt8)) (ks : List Ty) : bareT (m + 1) (mkE k tx N l c ts ns ks) = mkE k tx N 0 0 ts ns (ks.map (bareT m)) := rfl
theorem sh_bare : ∀ (m : Nat) (x y : Ty), ShE m x y -> bareT m x = bareT m y
  | 0, _, _, h => h.elim
  | m + 1, x, y, h => by
    obtain ⟨k, tx, N, l, c, ts, ns, ks, ks', rfl, rfl, h3⟩ := h
    rw [bare_mk, bare_mk, lr_map (sh_bare m) _ _ h3]
/-- An expression that was made from one of the world w0: its types and names lie there, its own rows from block B on. -/
def BareF (w0 : World) (lo B : Nat) (w : World) : Nat -> NV -> Ty -> Prop
  | 0, _, _ => False
  | n + 1, x, D => ∃ (tys : List Ty) (ns : List (List UInt8)) (ks : List Ty), D = mkE x.k x.tx.data.toList x.N x.li x.co tys ns ks /\ (x.tl = tys.length /\ x.nl = ns.length /\ x.kl = ks.length) /\
    (tys.length <= 100000 /\ ns.length <= 100000 /\ ks.length <= 100000) /\ KidsF w0 lo n x.ta tys /\ NamesF w0 lo x.na ns /\ NVRow w B (BareF w0 lo B w n) x.ka ks
theorem bareF_keep {w0 w w' : World} {lo B : Nat} (hsz : w.heap.size <= w'.heap.size) (hk : ∀ b, B <= b -> b < w.heap.size -> w'.heap[b]? = w.heap[b]?) : ∀ (n : Nat) (x : NV) (D : Ty), BareF w0 lo B w n x D -> BareF w0 lo B w' n x D
  | 0, _, _, h => h.elim
  | n + 1, x, D, h => by
    obtain ⟨tys, ns, ks, e, h1, h2, h3, h4, h5⟩ := h
    refine ⟨tys, ns, ks, e, h1, h2, h3, h4, ?_⟩
    rcases h5 with h5 | ⟨b, o, e, hl, hcl, hc⟩
    · exact .inl h5
    · have hlt := clean_lt hcl
      have hb := hk b hl hlt
      refine .inr ⟨b, o, e, hl, ?_, fun i hi => ?_⟩
      · obtain ⟨cs, t, hh⟩ := hcl
        exact ⟨cs, t, hb.trans hh⟩
      · obtain ⟨y, hy, ht⟩ := hc i hi
        exact ⟨y, hy.keep hb, bareF_keep hsz hk n y _ ht⟩
theorem bareF_lower {w0 w : World} {lo B B' : Nat} (hB : B' <= B) : ∀ (n : Nat) (x : NV) (D : Ty), BareF w0 lo B w n x D -> BareF w0 lo B' w n x D
  | 0, _, _, h => h.elim
  | n + 1, x, D, h => by
    obtain ⟨tys, ns, ks, e, h1, h2, h3, h4, h5⟩ := h
    refine ⟨tys, ns, ks, e, h1, h2, h3, h4, ?_⟩
    rcases h5 with h5 | ⟨b, o, e, hl, hcl, hc⟩
    · exact .inl h5
    · refine .inr ⟨b, o, e, Nat.le_trans hB hl, hcl, fun i hi => ?_⟩
      obtain ⟨y, hy, ht⟩ := hc i hi
      exact ⟨y, hy, bareF_lower hB n y _ ht⟩
/-- It is an expression of its own world. -/
theorem bareF_node {w0 w : World} {lo B : Nat} (hb : Below w0.heap.size w0 w) (hlo : lo <= B) : ∀ (n : Nat) (x : NV) (D : Ty), BareF w0 lo B w n x D -> NodeF w lo n x D
  | 0, _, _, h => h.elim
  | n + 1, x, D, h => by
    obtain ⟨tys, ns, ks, e, h1, h2, h3, h4, h5⟩ := h
    refine ⟨tys, ns, ks, e, h1, h2, kidsF_keep h3 hb.size (fun b _ hlt => hb.block b hlt), namesF_keep h4 hb.size (fun b _ hlt => hb.block b hlt), ?_⟩
    rcases h5 with h5 | ⟨b, o, e, hl, hcl, hc⟩
    · exact .inl h5
    · refine .inr ⟨b, o, e, Nat.le_trans hlo hl, hcl, fun i hi => ?_⟩
      obtain ⟨y, hy, ht⟩ := hc i hi
      exact ⟨y, hy, bareF_node hb hlo n y _ ht⟩
/-- The cells of one. -/
def BrC (w0 : World) (lo n : Nat) (B : Nat) (w : World) (c : List Value) (D : Ty) : Prop := ∃ x : NV, (.agg c.toArray : Value) = x.val /\ BareF w0 lo B w n x D
theorem brC_k (w0 : World) (lo n : Nat) : RepK (BrC w0 lo n) where
  keep := fun ⟨x, e, h⟩ hs hk => ⟨x, e, bareF_keep hs hk n x _ h⟩
  lower := fun ⟨x, e, h⟩ hl => ⟨x, e, bareF_lower hl n x _ h⟩
theorem rows_bare {w0 : World} {lo n B et : Nat} {o : Option Nat} {wx : World} {v : Value} {cs : List (List Value)} {xs : List Ty} (h : RowsC (BrC w0 lo n) B et 8 o wx v cs xs) : ∃ (a : Option Addr) (cap : Nat), v = .slice a xs.length cap /\ NVRow wx B (BareF w0 lo B wx n) a xs := by
  obtain ⟨a, cap, e, hcap, hr⟩ := h.form (brC_k w0 lo n)
  refine ⟨a, cap, e, ?_⟩
  rcases h.ow.2 with ⟨e2, h0⟩ | ⟨g, cap2, cur, e2, hg, hh, _⟩
  · exact .inl (List.length_eq_zero_iff.1 h0)
  · rw [e] at e2
    injection e2 with e3 e4 e5
    refine .inr ⟨g, 0, e3, hg, ⟨_, _, hh⟩, fun i hi => ?_⟩
    have hi' : i < cs.length := by rw [h.len]; exact hi
    obtain ⟨x, ex, hT⟩ := (h.made i hi' hi).now (brC_k w0 lo n)
    have hcell : ∀ j, j < 8 -> wx.cell? ⟨g, 0 + i * 8 + j, none⟩ = cs[i][j]? := by
      intro j hj
      have ho := h.ow
      rw [e, e3] at ho
      rw [show 0 + i * 8 + j = i * 8 + j by omega, ho.cellAt (i * 8 + j) (by omega)]
      exact cells_flatK cs h.each i hi' j hj
    have hcs : cs[i] = [.int .i64 x.k, .string x.tx, .int .i64 x.N, .int .i64 x.li, .int .i64 x.co, .slice x.ta x.tl x.tc, .slice x.na x.nl x.nc, .slice x.ka x.kl x.kc] := by
      injection ex with ex'
      simpa using congrArg Array.toList ex'
    rw [hcs] at hcell
    exact ⟨x, ⟨hcell 0 (by omega), hcell 1 (by omega), hcell 2 (by omega), hcell 3 (by omega), hcell 4 (by omega), hcell 5 (by omega), hcell 6 (by omega), hcell 7 (by omega)⟩, hT⟩
end Go.Proofs.YtlhmofphpfdjlaaGreatDoor
/- gradusref04.bare: an expression without places. -/
namespace Go.Proofs.YtlhmofphpfdjlaaGreatDoor
open Go.Proofs.Tryz
open Go.RowKit
theorem results_cell_nd {fn : Func} {p : Tmp} {Q : Ending -> World -> Prop} {a : Act} {W : World} {rb : Nat} {x : NV} (h : fn.results = #[.cell p 27]) (hp : a.tmps.getD p undef = .pointer (some ⟨rb, 0, none⟩)) (hg : W.heap[rb]? = some x.obj) (hd : a.defers = []) (hQ : Q (.returned x.val) W) : bodyPost prog fn Q .ret a W :=
  bodyPost_ret (results_cell_row h _ _ rb 27 _ (0, 0) _ hp hg underlying27 rfl (by kernel_rfl)) hd hQ
theorem box_nv {W : World} {b : Nat} {x : NV} (h : W.heap[b]? = some x.obj) : NVCells W b 0 x /\ (∀ o, W.frozen? ⟨b, o, none⟩ = false) /\ b < W.heap.size := by
  refine ⟨⟨?_, ?_, ?_, ?_, ?_, ?_, ?_, ?_⟩, fun o => by simp [World.frozen?, h], lt_of_block h⟩ <;> simp [World.cell?, h]
theorem below_grow3 {B : Nat} {w w1 : World} {row : Option Nat} (h : w.grownBy w1 row) (hB : B <= w.heap.size) (hr : ∀ q, row = some q -> B <= q) : Below B w w1 :=
  ⟨h.os, h.tape, h.output, h.size, fun k hk => h.block k (by omega) (fun e => by have := hr k e.symm; omega)⟩
theorem bl_alloc3 (w : World) (o : Obj) : Below w.heap.size w (w.alloc o) := (Below.refl _ w).alloc (Nat.le_refl _) o
theorem bare_c (w0 : World) (lo : Nat) : ∀ (n : Nat) (x : NV) (D : Ty) (w : World), NodeF w0 lo n x D -> Below w0.heap.size w0 w ->
    Calls prog 13 #[x.val] w fun e w' => Below w.heap.size w w' /\ ∃ y : NV, e = .returned y.val /\ BareF w0 lo w.heap.size w' n y (bareT n D)
  | 0, _, _, _, h, _ => h.elim
  | n + 1, x, D, w, h, hb => by
    obtain ⟨tys, ns, ks, rfl, ⟨h1, h2, h3⟩, h4, h5, h6, h7⟩ := h
    have IH : Hid (∀ (x : NV) (D : Ty) (w : World), NodeF w0 lo n x D -> Below w0.heap.size w0 w -> Calls prog 13 #[x.val] w fun e w' => Below w.heap.size w w' /\ ∃ y : NV, e = .returned y.val /\ BareF w0 lo w.heap.size w' n y (bareT n D)) := bare_c w0 lo n
    rw [bare_mk]
    have HH := hideP (And.intro h4 (And.intro h5 h6))
    have HK := hideP h7
    have HB := hideP hb
    have hkl := h4.2.2
    obtain ⟨i0, hi, hz0, hz1, hz2⟩ := info_parts info_nd
    clear h4 h5 h6 h7 hb
    obtain ⟨k, tx, N, li, co, ta, tl, tc, na, nl, nc, ka, kl, kc⟩ := x
    dsimp only at h1 h2 h3 HH HK ⊢
    subst h1 h2 h3
    go_enter func13, ntmps13
    go_wp2_with fail
    obtain ⟨W0, hW0⟩ : ∃ W0, W0 = (w.alloc (.cells #[.int .i64 k, .string tx, .int .i64 N, .int .i64 0, .int .i64 0, .slice ta tys.length tc, .slice na ns.length nc, .slice ka ks.length kc] 27)).alloc (.cells #[.int .i64 0, .string ⟨#[]⟩, .int .i64 0, .int .i64 0, .int .i64 0, .slice none 0 0, .slice none 0 0, .slice none 0 0] 27) := ⟨_, rfl⟩
    rw [<- hW0]
    obtain ⟨pb, hpb⟩ : ∃ pb, pb = w.heap.size := ⟨_, rfl⟩
    have hs0 : W0.heap.size = pb + 2 := by rw [hW0, hpb, World.size_alloc, World.size_alloc]
    have HX0 : Hid (W0.heap[pb]? = some (NV.obj ⟨k, tx, N, 0, 0, ta, tys.length, tc, na, ns.length, nc, ka, ks.length, kc⟩)) := by
      rw [hW0, hpb]
      exact (Below.heap_alloc _ _ _ (by rw [World.size_alloc]; omega)).trans (heap_alloc_last w _)
    have HR0 : Hid (W0.heap[pb + 1]? = some zNV.obj) := by
      rw [hW0, hpb, show w.heap.size + 1 = (w.alloc (.cells #[.int .i64 k, .string tx, .int .i64 N, .int .i64 0, .int .i64 0, .slice ta tys.length tc, .slice na ns.length nc, .slice ka ks.length kc] 27)).heap.size by rw [World.size_alloc]]
      exact heap_alloc_last _ _
    have HBW : Hid (Below w.heap.size w W0) := by
      rw [hW0]
      exact ((Below.refl _ w).alloc (Nat.le_refl _) _).alloc (by rw [World.size_alloc]; omega) _
    rw [<- hpb]
    have HPb := hideP hpb
    clear hW0 hpb
    have HB0 : Hid (Below w0.heap.size w0 W0) := below_next HB.out HBW.out
    go_loopw [3, 4] (fun v i wr => ∃ (j : Nat) (cs : List (List Value)), j <= ks.length /\ i = .int .i64 j /\ Hid (Below W0.heap.size W0 wr) /\ Hid (RowsC (BrC w0 lo n) (pb + 2) 27 8 none wr v cs ((ks.take j).map (bareT n)))) (fun _ i _ => ks.length - (intOf i).toNat)
    case atStart => exact ⟨0, [], Nat.zero_le _, rfl, Below.refl _ _, by rw [List.take_zero]; exact rows_nil _ _ _ _ _⟩
    case round =>
      obtain ⟨j, cs, hj, rfl, HBr, HRr⟩ := hrel
      obtain ⟨av, cv, hav⟩ := row_shape HRr.out.ow
      subst hav
      have hlen : ((ks.take j).map (bareT n)).length = j := by rw [List.length_map, List.length_take]; omega
      rw [hlen] at HRr
      have HL := hideP hlen
      clear hlen
      rw [HL.out]
      have hX : wr.heap[pb]? = some _ := (HBr.out.block pb (by omega)).trans HX0.out
      obtain ⟨⟨_, _, _, _, _, _, _, x7⟩, _, hpl⟩ := box_nv hX
      rw [Nat.zero_add] at x7
      dsimp only at x7
      have hkz : ((ks.length : Int) <= 9223372036854775807) := by omega
      clear hX
      by_cases hjl : j < ks.length
      · have hjl' : (j : Int) < (ks.length : Int) := by omega
        obtain ⟨b, o, y, rfl, hbl, hc, ht⟩ := node_at HK.out hjl
        have HBz : Hid (Below w0.heap.size w0 wr) := below_next HB0.out HBr.out
        obtain ⟨c0, c1, c2, c3, c4, c5, c6, c7⟩ := hc.keep (HBz.out.block b hbl)
        have HC := hideP (IH.out y ks[j] wr ht HBz.out)
        clear hc ht
        go_wp2_with fail
        refine HC.out.mono ?_
        rintro e w5 ⟨hb5, z, rfl, hz⟩
        have hwr : pb + 2 <= wr.heap.size := by have := HBr.out.size; omega
        have hw5 : pb + 2 <= w5.heap.size := by have := hb5.size; omega
        have HS5 : Hid (Stay pb wr w5) := Stay.of (by omega) hb5
        have HR5 : Hid (RowsC (BrC w0 lo n) (pb + 2) 27 8 none w5 (.slice av j cv) cs ((ks.take j).map (bareT n))) := HRr.out.stay HS5.out (by omega)
        have HM5 : Hid (Made (BrC w0 lo n) (pb + 2) (fun q => (Value.slice av j cv).ownBlock = some q ∨ none = some q) w5 [.int .i64 z.k, .string z.tx, .int .i64 z.N, .int .i64 z.li, .int .i64 z.co, .slice z.ta z.tl z.tc, .slice z.na z.nl z.nc, .slice z.ka z.kl z.kc] (bareT n ks[j])) :=
          Made.new (lo := wr.heap.size) ⟨z, rfl, hz⟩ hwr fun q hq => HRr.out.all q hq
        have HO5 : Hid (w5.ownsRow (pb + 2) 27 8 (.slice av j cv) j cs.flatten) := by have h := HR5.out.ow; rw [HL.out] at h; exact h
        have HB5 : Hid (Below W0.heap.size W0 w5) := below_next HBr.out hb5
        clear hb5 hz c0 c1 c2 c3 c4 c5 c6 c7 x7 HC
        go_wp2_with (at_builtin; refine wpList_append_own_at _ rfl (.tmp 14) (.tmp 21) 25 rfl (pb + 2) 27 i0 _ 8 120 underlying25 hi hz0 hz1 hz2 rfl (by decide) _ _ _ rfl (HO5.out.alloc _) ⟨_, 0, none⟩ 1 1 [.int .i64 z.k, .string z.tx, .int .i64 z.N, .int .i64 z.li, .int .i64 z.co, .slice z.ta z.tl z.tc, .slice z.na z.nl z.nc, .slice z.ka z.kl z.kc] rfl rfl (cells_newK _ _ _) (by simp [Value.oneCell']) (by unfold maxLen; omega) (by omega) (by simp; omega) ?_)
        intro v' w6 hown' hgrow _ hloc
        have HA5 : Hid (∀ q, Stay pb w5 (w5.alloc q)) := fun q => (Stay.refl pb _).alloc (by omega) q
        have HR6 := hideP (HR5.out.put (by rw [HL.out]; exact hown') hgrow (hloc.imp_right fun e => ⟨_, e, by simp⟩) (HA5.out _) (by omega) rfl (HM5.out.stay (HA5.out _) (by omega)))
        have HB6 : Hid (Below W0.heap.size W0 w6) := HB5.out.trans (((bl_alloc3 w5 _).mono (by omega)).trans (below_grow3 hgrow (by rw [World.size_alloc]; omega) fun q e => by have := (HR5.out.own q e).1; omega))
        have HT : Hid ((ks.take (j + 1)).map (bareT n) = (ks.take j).map (bareT n) ++ [bareT n ks[j]]) := by
          rw [List.take_succ_eq_append_getElem hjl, List.map_append]
          rfl
        rw [<- HT.out] at HR6
        clear hown' hgrow hloc HA5 HR5 HM5 HO5 HB5 HS5
        go_wp2_with fail
        exact ⟨⟨j + 1, _, by omega, by go_num, HB6, HR6⟩, by simp [intOf]; omega⟩
      · have hjl' : ¬ (j : Int) < (ks.length : Int) := by omega
        have hjk : j = ks.length := by omega
        subst hjk
        have hX := (HBr.out.block pb (by omega)).trans HX0.out
        obtain ⟨⟨x0, x1, x2, x3, x4, x5, x6, _⟩, hxf, _⟩ := box_nv hX
        have hR := (HBr.out.block (pb + 1) (by omega)).trans HR0.out
        obtain ⟨⟨r0, r1, r2, r3, r4, r5, r6, r7⟩, hrf, hrl⟩ := box_nv hR
        rw [Nat.zero_add] at x1 x2 x3 x4 x5 x6 r1 r2 r3 r4 r5 r6 r7
        dsimp only at x0 x1 x2 x3 x4 x5 x6 r0 r1 r2 r3 r4 r5 r6 r7
        have f7 := hxf 7
        have g0 := hrf 0
        have g1 := hrf 1
        have g2 := hrf 2
        have g3 := hrf 3
        have g4 := hrf 4
        have g5 := hrf 5
        have g6 := hrf 6
        have g7 := hrf 7
        have HXw := hideP hX
        have HRw := hideP hR
        clear hX hR hxf hrf
        go_wp2_with fail
        obtain ⟨Wf, hWf⟩ : ∃ W, W = ((((((((wr.setCell ⟨pb, 7, none⟩ (.slice av ks.length cv)).setCell ⟨pb + 1, 0, none⟩ (.int .i64 k)).setCell ⟨pb + 1, 1, none⟩ (.string tx)).setCell ⟨pb + 1, 2, none⟩ (.int .i64 N)).setCell ⟨pb + 1, 3, none⟩ (.int .i64 0)).setCell ⟨pb + 1, 4, none⟩ (.int .i64 0)).setCell ⟨pb + 1, 5, none⟩ (.slice ta tys.length tc)).setCell ⟨pb + 1, 6, none⟩ (.slice na ns.length nc)).setCell ⟨pb + 1, 7, none⟩ (.slice av ks.length cv) := ⟨_, rfl⟩
        rw [<- hWf]
        obtain ⟨z, hz⟩ : ∃ z : NV, z = ⟨k, tx, N, 0, 0, ta, tys.length, tc, na, ns.length, nc, av, ks.length, cv⟩ := ⟨_, rfl⟩
        have hWz : Wf = put8 (wr.setCell ⟨pb, 7, none⟩ (.slice av ks.length cv)) (pb + 1) z := by rw [hWf, hz]; rfl
        have HF1 : Hid (Wf.heap[pb + 1]? = some z.obj) := by
          rw [hWz]
          exact put8_heap (y := zNV) ((Below.heap_setCell _ _ _ _ (by show pb + 1 ≠ pb; omega)).trans HRw.out)
        have HF2 : Hid (Wf.heap.size = wr.heap.size) := by
          show Wf.heap.size = wr.heap.size
          rw [hWz, put8_size, World.size_setCell]
        have HF0 : Hid (Below pb wr Wf) := by
          rw [hWz]
          exact ((((((((((Below.refl pb wr).setCell (p := ⟨pb, 7, none⟩) (Nat.le_refl _) _).setCell (p := ⟨pb + 1, 0, none⟩) (Nat.le_succ _) _).setCell (p := ⟨pb + 1, 1, none⟩) (Nat.le_succ _) _).setCell (p := ⟨pb + 1, 2, none⟩) (Nat.le_succ _) _).setCell (p := ⟨pb + 1, 3, none⟩) (Nat.le_succ _) _).setCell (p := ⟨pb + 1, 4, none⟩) (Nat.le_succ _) _).setCell (p := ⟨pb + 1, 5, none⟩) (Nat.le_succ _) _).setCell (p := ⟨pb + 1, 6, none⟩) (Nat.le_succ _) _).setCell (p := ⟨pb + 1, 7, none⟩) (Nat.le_succ _) _)
        have HF3 : Hid (∀ c, c ≠ pb -> c ≠ pb + 1 -> Wf.heap[c]? = wr.heap[c]?) := fun c h1 h2 => by
          rw [hWz]
          exact (put8_other h2).trans (Below.heap_setCell _ _ _ _ h1)
        clear hWf hWz x0 x1 x2 x3 x4 x5 x6 r0 r1 r2 r3 r4 r5 r6 r7 f7 g0 g1 g2 g3 g4 g5 g6 g7
        refine results_cell_nd (x := z) rfl rfl HF1.out rfl ⟨?_, z, rfl, ?_⟩
        · have h0 := HF0.out
          rw [HPb.out] at h0
          exact (below_next HBW.out HBr.out).trans h0
        · have hR7 := HRr.out
          rw [List.take_length] at hR7
          obtain ⟨a9, c9, e9, hrow⟩ := rows_bare hR7
          rw [List.length_map] at e9
          injection e9 with e91 _ e93
          subst e91 e93
          obtain ⟨hb4, hb5, hb6⟩ := HH.out
          subst hz
          refine ⟨tys, ns, ks.map (bareT n), rfl, ⟨rfl, rfl, by simp⟩, ⟨hb4.1, hb4.2.1, by rw [List.length_map]; exact hb4.2.2⟩, hb5, hb6, ?_⟩
          rw [<- HPb.out]
          have hk : ∀ c, pb + 2 <= c -> c < wr.heap.size -> Wf.heap[c]? = wr.heap[c]? := fun c h1 _ => HF3.out c (by omega) (by omega)
          rcases hrow with h5 | ⟨b, o, e, hl, hcl, hc⟩
          · exact .inl h5
          · refine .inr ⟨b, o, e, by omega, ?_, fun i hi => ?_⟩
            · obtain ⟨cs', t, hh⟩ := hcl
              exact ⟨cs', t, (hk b hl (lt_of_block hh)).trans hh⟩
            · obtain ⟨y, hy, ht⟩ := hc i hi
              exact ⟨y, hy.keep (hk b hl (clean_lt hcl)), bareF_lower (by omega) n y _ (bareF_keep (by have := HF2.out; omega) hk n y _ ht)⟩
end Go.Proofs.YtlhmofphpfdjlaaGreatDoor
