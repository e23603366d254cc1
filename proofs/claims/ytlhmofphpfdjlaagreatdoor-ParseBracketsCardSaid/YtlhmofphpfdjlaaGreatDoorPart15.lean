/- Part. -/
import Derived.Deep.DrawnRows
import Derived.Test.YtlhmofphpfdjlaaGreatDoorPart14
set_option maxRecDepth 100000
set_option maxHeartbeats 4000000
/- The parser of types: alt, arrow, within, fullType. -/
namespace Go.Proofs.YtlhmofphpfdjlaaGreatDoor
open Go.Proofs.Tryz
open Go.RowKit
attribute [local go_sem ↓] Go.wp_at_zero Go.wp_at_succ
section
variable {ts : List Tok} {K : Nat -> Pr Ty} {f a b : Nat} {l : List Ty} {D : Ty}
theorem alt_bad {e : Int × Nat × Nat} (h : manyA ts (primA ts K f) [124] f a = .inr e) : altA ts K f a = .inr e := by unfold altA; rw [h]; rfl
theorem alt_one (h : manyA ts (primA ts K f) [124] f a = .inl ([D], b)) : altA ts K f a = .inl (D, b) := by unfold altA; rw [h]; rfl
theorem alt_more (h : manyA ts (primA ts K f) [124] f a = .inl (l, b)) (hl : l.length ≠ 1) : altA ts K f a = .inl (mkT 7 [] [] l, b) := by
  unfold altA
  rw [h]
  match l, hl with
  | [], _ => rfl
  | [_], hl => exact absurd rfl hl
  | _ :: _ :: _, _ => rfl
end
theorem alt_c (pb tb cap d : Nat) (ts : List Tok) (K : Nat -> Pr Ty) (hg : Reads pb tb cap d ts TyE 17 K)
    (f a : Nat) (hf : f + 1 = ts.length) (w : World) (h : Ps w pb tb cap ts a d) (ok : ToksOk ts) :
    Calls prog 58 #[.pointer (some ⟨pb, 0, none⟩)] w (PPost pb tb cap ts d w TyE (altA ts K (f + 1) a)) := by
  have H := hideP h
  have OK := hideP ok
  have HRd : Hid (Reads pb tb cap d ts TyE 98 (primA ts K (f + 1))) := ⟨fun a w h => prim_c pb tb cap d ts K hg f a (by omega) (by have := ok.len; omega) w h ok, prim_enters pb, fun a x b hx => prim_up hg.up hx⟩
  have HL := hideP (listT_c pb tb cap d ts [124] _ _ HRd.out f a (by omega) (w.alloc zTyO) (h.alloc _) ok)
  clear h ok hg
  cases hm : manyA ts (primA ts K (f + 1)) [124] (f + 1) a with
  | inr x =>
    obtain ⟨er, li, co⟩ := x
    rw [alt_bad hm]
    rw [hm] at HL
    clear hm
    go_enter func58, ntmps58
    go_wp2_with fail
    refine HL.out.mono ?_
    rintro e w1 ⟨hst, rfl⟩
    have HST := hideP ((Stay.of H.out.ltp (bl_alloc _ _)).trans hst)
    clear hst
    go_wp2_with fail
    exact ⟨rfl, HST.out, rfl⟩
  | inl x =>
    obtain ⟨l, b⟩ := x
    have HLen := hideP (many_len _ hm)
    have HNe := hideP (many_some hm)
    rw [hm] at HL
    by_cases h1 : l.length = 1
    · obtain ⟨D, rfl⟩ : ∃ D, l = [D] := List.length_eq_one_iff.1 h1
      rw [alt_one hm]
      clear h1 hm
      go_enter func58, ntmps58
      go_wp2_with fail
      refine HL.out.mono ?_
      rintro e w1 ⟨hst, hps, v, rfl, cs, hv⟩
      obtain ⟨av, cv, m, rfl, _, hk⟩ := rows_kids hv
      obtain ⟨kb, ko, k1, nm1, na1, nl1, nc1, ka1, kl1, kc1, rfl, hkb, q0, q1, q2, q3, hT⟩ := kidF_at hk (i := 0) (by simp)
      have HR := hideP ((hst.keep _ H.out.ltp (by simp)).trans (heap_alloc_last w _))
      obtain ⟨⟨r0, r1, r2, r3⟩, ⟨f0, f1, f2, f3⟩, hr1⟩ := res_facts HR.out
      have HST := hideP ((Stay.of H.out.ltp (bl_alloc _ _)).trans hst)
      have HP := hideP hps
      have HT : Hid (TyE (w.heap.size + 1) w1 (.agg #[.int .i64 k1, .string nm1, .slice na1 nl1 nc1, .slice ka1 kl1 kc1]) D) := by
        refine ⟨m, ?_⟩
        simpa using hT
      simp only [Nat.zero_mul, Nat.add_zero] at q0 q1 q2 q3
      have hl1 : ([D] : List Ty).length = 1 := rfl
      clear hst hps hv hk hT
      go_wp2_with fail
      refine bodyPost_ret (results_cell_row rfl _ _ w.heap.size 44 _ (0, 0) _ rfl (set4 HR.out _ _ _ _) underlying44 rfl (by kernel_rfl)) rfl ⟨stay_set4 HST.out H.out.ltp (Nat.le_refl _) _ _ _ _, ps_set4 HP.out H.out.ltp _ _ _ _, _, rfl, ?_⟩
      exact (HT.out.set4 (Nat.lt_succ_self _) _ _ _ _).lower (Nat.le_succ _)
    · have hl1 : ((l.length : Int) == 1) = false := by simp; omega
      have HLen2 : Hid (l.length <= 8193) := by have := HLen.out; have := OK.out.len; show _ <= _; omega
      rw [alt_more hm h1]
      clear h1 hm
      go_enter func58, ntmps58
      go_wp2_with fail
      refine HL.out.mono ?_
      rintro e w1 ⟨hst, hps, v, rfl, cs, hv⟩
      obtain ⟨av, cv, m, rfl, hcv, hk⟩ := rows_kids hv
      have HR := hideP ((hst.keep _ H.out.ltp (by simp)).trans (heap_alloc_last w _))
      obtain ⟨⟨r0, r1, r2, r3⟩, ⟨f0, f1, f2, f3⟩, hr1⟩ := res_facts HR.out
      have HST := hideP ((Stay.of H.out.ltp (bl_alloc _ _)).trans hst)
      have HP := hideP hps
      have HT : Hid (TyE (w.heap.size + 1) w1 (.agg #[.int .i64 7, .string ⟨#[]⟩, .slice none 0 0, .slice av l.length cv]) (mkT 7 [] [] l)) :=
        ⟨m + 1, 7, ⟨#[]⟩, none, 0, av, cv, [], l, rfl, rfl, by decide, by decide, (fun _ h => nomatch h), ⟨Nat.le_refl _, Nat.zero_le _⟩, ⟨hcv, (by have := HLen2.out; unfold reachBytes; omega)⟩, .inl rfl, by simpa using hk⟩
      clear hst hps hv hk
      go_wp2_with fail
      refine bodyPost_ret (results_cell_row rfl _ _ w.heap.size 44 _ (0, 0) _ rfl (set4 HR.out _ _ _ _) underlying44 rfl (by kernel_rfl)) rfl ⟨stay_set4 HST.out H.out.ltp (Nat.le_refl _) _ _ _ _, ps_set4 HP.out H.out.ltp _ _ _ _, _, rfl, ?_⟩
      exact (HT.out.set4 (Nat.lt_succ_self _) _ _ _ _).lower (Nat.le_succ _)
theorem pr_inl {α β : Type} (x : α) (a : Nat) (f : α -> Nat -> Pr β) : Pr.go (.inl (x, a)) f = f x a := rfl
theorem pr_inr {α β : Type} (e : Int × Nat × Nat) (f : α -> Nat -> Pr β) : Pr.go (.inr e : Pr α) f = .inr e := rfl
/-- The cells of a type in a box. -/
abbrev BoxT (W : World) (b : Nat) (k : Int) (nm : ByteArray) (na : Option Addr) (nl nc : Nat) (ka : Option Addr) (kl kc : Nat) : Prop :=
  W.cell? ⟨b, 0, none⟩ = some (.int .i64 k) /\ W.cell? ⟨b, 1, none⟩ = some (.string nm) /\ W.cell? ⟨b, 2, none⟩ = some (.slice na nl nc) /\ W.cell? ⟨b, 3, none⟩ = some (.slice ka kl kc)
section
variable {W : World} {b c : Nat} {k : Int} {nm : ByteArray} {na : Option Addr} {nl nc : Nat} {ka : Option Addr} {kl kc : Nat}
theorem BoxT.alloc (h : BoxT W b k nm na nl nc ka kl kc) (hb : b < W.heap.size) (o : Obj) : BoxT (W.alloc o) b k nm na nl nc ka kl kc := by
  have hc : ∀ j, (W.alloc o).cell? ⟨b, j, none⟩ = W.cell? ⟨b, j, none⟩ := fun j => World.cell?_of_block (w := W) (a := ⟨b, j, none⟩) (Below.heap_alloc _ _ _ hb)
  exact ⟨(hc 0).trans h.1, (hc 1).trans h.2.1, (hc 2).trans h.2.2.1, (hc 3).trans h.2.2.2⟩
theorem BoxT.set4 (h : BoxT W b k nm na nl nc ka kl kc) (hb : b ≠ c) (x0 x1 x2 x3 : Value) : BoxT ((((W.setCell ⟨c, 0, none⟩ x0).setCell ⟨c, 1, none⟩ x1).setCell ⟨c, 2, none⟩ x2).setCell ⟨c, 3, none⟩ x3) b k nm na nl nc ka kl kc := by
  have hc : ∀ j, ((((W.setCell ⟨c, 0, none⟩ x0).setCell ⟨c, 1, none⟩ x1).setCell ⟨c, 2, none⟩ x2).setCell ⟨c, 3, none⟩ x3).cell? ⟨b, j, none⟩ = W.cell? ⟨b, j, none⟩ := fun j => World.cell?_of_block (w := W) (a := ⟨b, j, none⟩) (other_set4 hb _ _ _ _)
  exact ⟨(hc 0).trans h.1, (hc 1).trans h.2.1, (hc 2).trans h.2.2.1, (hc 3).trans h.2.2.2⟩
end
/-- A type's box as it was made. -/
def ZeroT (W : World) (b : Nat) : Prop := (W.cell? ⟨b, 0, none⟩ = some (.int .i64 0) /\ W.cell? ⟨b, 1, none⟩ = some (.string ⟨#[]⟩) /\ W.cell? ⟨b, 2, none⟩ = some (.slice none 0 0) /\ W.cell? ⟨b, 3, none⟩ = some (.slice none 0 0)) /\
  (W.frozen? ⟨b, 0, none⟩ = false /\ W.frozen? ⟨b, 1, none⟩ = false /\ W.frozen? ⟨b, 2, none⟩ = false /\ W.frozen? ⟨b, 3, none⟩ = false) /\ b < W.heap.size
theorem zeroT {W : World} {b : Nat} (h : W.heap[b]? = some zTyO) : ZeroT W b := res_facts h
/-- Two types in a row. -/
theorem tyE_fun {lo : Nat} {w : World} {c1 c2 : List Value} {D1 D2 : Ty} (h1 : TyE lo w (.agg c1.toArray) D1) (h2 : TyE lo w (.agg c2.toArray) D2) (hc1 : c1.length = 4) (hc2 : c2.length = 4) (hlo : lo <= w.heap.size) :
    TyE lo (w.alloc (.cells (c1 ++ c2).toArray 44)) (.agg #[.int .i64 6, .string ⟨#[]⟩, .slice none 0 0, .slice (some ⟨w.heap.size, 0, none⟩) 2 2]) (mkT 6 [] [] [D1, D2]) := by
  obtain ⟨m1, h1⟩ := h1
  obtain ⟨m2, h2⟩ := h2
  have hk : ∀ {v D m}, TyF w lo m v D -> TyF (w.alloc (.cells (c1 ++ c2).toArray 44)) lo m v D := fun h => tyF_keep h (by simp) fun i _ hl => Below.heap_alloc _ _ _ hl
  have g1 := hk (tyF_mono h1 (Nat.le_max_left m1 m2))
  have g2 := hk (tyF_mono h2 (Nat.le_max_right m1 m2))
  refine ⟨max m1 m2 + 1, 6, ⟨#[]⟩, none, 0, some ⟨w.heap.size, 0, none⟩, 2, [], [D1, D2], rfl, rfl, by decide, by decide, (fun _ h => nomatch h), ⟨Nat.le_refl _, Nat.zero_le _⟩, ⟨Nat.le_refl _, (by show 2 <= _; decide)⟩, .inl rfl, .inr ⟨w.heap.size, 0, rfl, hlo, ⟨_, _, heap_alloc_last _ _⟩, fun i hi => ?_⟩⟩
  match c1, hc1, c2, hc2 with
  | [x0, x1, x2, x3], _, [y0, y1, y2, y3], _ =>
    match i, hi with
    | 0, _ => exact ⟨x0, x1, x2, x3, by rw [cell_of_row _ _ _ _ _ _ (heap_alloc_last w _)]; rfl, by rw [cell_of_row _ _ _ _ _ _ (heap_alloc_last w _)]; rfl, by rw [cell_of_row _ _ _ _ _ _ (heap_alloc_last w _)]; rfl, by rw [cell_of_row _ _ _ _ _ _ (heap_alloc_last w _)]; rfl, g1⟩
    | 1, _ => exact ⟨y0, y1, y2, y3, by rw [cell_of_row _ _ _ _ _ _ (heap_alloc_last w _)]; rfl, by rw [cell_of_row _ _ _ _ _ _ (heap_alloc_last w _)]; rfl, by rw [cell_of_row _ _ _ _ _ _ (heap_alloc_last w _)]; rfl, by rw [cell_of_row _ _ _ _ _ _ (heap_alloc_last w _)]; rfl, g2⟩
theorem arrow_c (pb tb cap d n : Nat) (ts : List Tok) (ih : ∀ a w, Ps w pb tb cap ts a (d + 1) -> Calls prog 17 #[.pointer (some ⟨pb, 0, none⟩)] w (PPost pb tb cap ts (d + 1) w TyE (kindA ts ts.length n (d + 1) a)))
    (a : Nat) (w : World) (h : Ps w pb tb cap ts a (d + 1)) (ok : ToksOk ts) :
    Calls prog 32 #[.pointer (some ⟨pb, 0, none⟩)] w (PPost pb tb cap ts (d + 1) w TyE ((altA ts (kindA ts ts.length n (d + 1)) ts.length a).go fun t a => if seesA ts a [45, 62] then (kindA ts ts.length n (d + 1) (a + 1)).go fun r a => .inl (mkT 6 [] [] [t, r], a) else .inl (t, a))) := by
  have H := hideP h
  have OK := hideP ok
  have HI := hideP ih
  obtain ⟨f, hf⟩ : ∃ f, f + 1 = ts.length := ⟨ts.length - 1, by have := ok.pos; omega⟩
  have HA := hideP (alt_c pb tb cap (d + 1) ts (kindA ts ts.length n (d + 1)) ⟨ih, kind_enters pb, fun a x b hx => kind_up hx⟩ f a hf (w.alloc zTyO) (h.alloc _) ok)
  rw [hf] at HA
  obtain ⟨R, hR⟩ : ∃ R, R = ((altA ts (kindA ts ts.length n (d + 1)) ts.length a).go fun t a => if seesA ts a [45, 62] then (kindA ts ts.length n (d + 1) (a + 1)).go fun r a => .inl (mkT 6 [] [] [t, r], a) else .inl (t, a)) := ⟨_, rfl⟩
  rw [<- hR]
  have HRr := hideP hR
  clear h ok ih hR
  go_enter func32, ntmps32
  go_wp2_with fail
  refine HA.out.mono ?_
  rintro e w1 ⟨hst, hpost⟩
  have HST := hideP ((Stay.of H.out.ltp (bl_alloc _ _)).trans hst)
  have HR := hideP ((hst.keep _ H.out.ltp (by simp)).trans (heap_alloc_last w _))
  clear hst
  rcases hA : altA ts (kindA ts ts.length n (d + 1)) ts.length a with ⟨D, b⟩ | ⟨er, li, co⟩
  case inr =>
    rw [hA] at hpost
    have HE : Hid (R = .inr (er, li, co)) := by show _ = _; simp only [HRr.out, hA, pr_inr]
    subst hpost
    clear hA
    go_wp2_with fail
    exact ⟨rfl, HST.out, by rw [HE.out]⟩
  rw [hA] at hpost
  obtain ⟨hps, v, rfl, hv⟩ := hpost
  obtain ⟨k1, nm1, na1, nl1, nc1, ka1, kl1, kc1, rfl⟩ := hv.cells
  have HRA : Hid (R = if seesA ts b [45, 62] then (kindA ts ts.length n (d + 1) (b + 1)).go fun r a => .inl (mkT 6 [] [] [D, r], a) else .inl (D, b)) := by show _ = _; simp only [HRr.out, hA, pr_inl]
  have HP := hideP hps
  have HT := hideP hv
  clear hps hv hA HRr
  go_wp2_with fail
  refine (take_c pb tb cap b (d + 1) ts [45, 62] _ (HP.out.alloc _) OK.out).mono ?_
  rintro e w2 ⟨rfl, hst, hps⟩
  have HR2 := hideP ((hst.keep _ H.out.ltp (by have := lt_of_block HR.out; simp; omega)).trans ((Below.heap_alloc _ _ _ (lt_of_block HR.out)).trans HR.out))
  have HST2 := hideP ((HST.out.alloc H.out.ltp _).trans hst)
  have HT2 := hideP ((HT.out.alloc _).stay hst (by have := H.out.ltp; simp; omega))
  have HBx := hideP ((hst.keep w1.heap.size HP.out.ltp (by simp)).trans (heap_alloc_last w1 _))
  clear hst
  cases hs : seesA ts b [45, 62] with
  | false =>
    rw [hs, if_neg (by simp)] at hps
    have HP2 := hideP hps
    have HE : Hid (R = .inl (D, b)) := by rw [HRA.out, if_neg (by simp [hs])]; exact rfl
    obtain ⟨⟨r0, r1, r2, r3⟩, ⟨f0, f1, f2, f3⟩, hr1⟩ := res_facts HR2.out
    obtain ⟨⟨b0, b1, b2, b3⟩, _, hr2⟩ := res_facts HBx.out
    have hne : ¬ w1.heap.size = w.heap.size := by have := lt_of_block HR.out; omega
    clear hps hs
    go_wp2_with fail
    rw [HE.out]
    refine bodyPost_ret (results_cell_row rfl _ _ w.heap.size 44 _ (0, 0) _ rfl (set4 HR2.out _ _ _ _) underlying44 rfl (by kernel_rfl)) rfl ⟨stay_set4 HST2.out H.out.ltp (Nat.le_refl _) _ _ _ _, ps_set4 HP2.out H.out.ltp _ _ _ _, _, rfl, ?_⟩
    exact (HT2.out.set4 (by simp) _ _ _ _).lower (by simp)
  | true =>
    rw [hs, if_pos rfl] at hps
    have HP2 := hideP hps
    have HRB : Hid (R = (kindA ts ts.length n (d + 1) (b + 1)).go fun r a => .inl (mkT 6 [] [] [D, r], a)) := by rw [HRA.out, if_pos hs]; exact rfl
    have HAft : Hid (∀ wa w3, wa.heap = w2.heap -> Stay pb wa w3 -> BoxT w3 w1.heap.size k1 nm1 na1 nl1 nc1 ka1 kl1 kc1 /\ w3.heap[w.heap.size]? = some zTyO /\ TyE (w.heap.size + 1) w3 (.agg #[.int .i64 k1, .string nm1, .slice na1 nl1 nc1, .slice ka1 kl1 kc1]) D) := by
      intro wa w3 e hs
      have hl := lt_of_block HBx.out
      have hl2 := lt_of_block HR2.out
      refine ⟨(res_facts ((hs.keep w1.heap.size HP.out.ltp (by rw [e]; exact hl)).trans (by rw [e]; exact HBx.out))).1, (hs.keep w.heap.size H.out.ltp (by rw [e]; exact hl2)).trans (by rw [e]; exact HR2.out), ?_⟩
      have ht : TyE (w.heap.size + 1) wa (.agg #[.int .i64 k1, .string nm1, .slice na1 nl1 nc1, .slice ka1 kl1 kc1]) D := (by simpa using HT2.out : TyE (w.heap.size + 1) w2 _ D).keep (by rw [e]; exact Nat.le_refl _) fun i _ _ => by rw [e]
      exact ht.stay hs (by have := H.out.ltp; omega)
    have hS0 : BoxT w2.drew w1.heap.size k1 nm1 na1 nl1 nc1 ka1 kl1 kc1 := (res_facts HBx.out).1
    have HC : Hid (Calls prog 17 #[.pointer (some ⟨pb, 0, none⟩)] w2.drew fun e w3 => (∃ chain, e = .panicked chain /\ PPost pb tb cap ts (d + 1) w TyE R e w3) ∨
        ∃ D2 b2 k4 nm4 na4 nl4 nc4 ka4 kl4 kc4, e = .returned (.agg #[.int .i64 k4, .string nm4, .slice na4 nl4 nc4, .slice ka4 kl4 kc4]) /\ BoxT w3 w1.heap.size k1 nm1 na1 nl1 nc1 ka1 kl1 kc1 /\ ZeroT w3 w.heap.size /\ Hid (∀ o, BoxT (w3.alloc o) w1.heap.size k1 nm1 na1 nl1 nc1 ka1 kl1 kc1) /\ Hid (∀ o x0 x1 x2 x3, BoxT (((((w3.setCell ⟨w.heap.size, 0, none⟩ x0).setCell ⟨w.heap.size, 1, none⟩ x1).setCell ⟨w.heap.size, 2, none⟩ x2).setCell ⟨w.heap.size, 3, none⟩ x3).alloc o) w1.heap.size k1 nm1 na1 nl1 nc1 ka1 kl1 kc1) /\ Hid (R = .inl (mkT 6 [] [] [D, D2], b2) /\ Stay pb w w3 /\ Ps w3 pb tb cap ts b2 (d + 1) /\
          w3.heap[w.heap.size]? = some zTyO /\ TyE (w.heap.size + 1) w3 (.agg #[.int .i64 k1, .string nm1, .slice na1 nl1 nc1, .slice ka1 kl1 kc1]) D /\ TyE (w.heap.size + 1) w3 (.agg #[.int .i64 k4, .string nm4, .slice na4 nl4 nc4, .slice ka4 kl4 kc4]) D2)) := by
      refine (HI.out (b + 1) w2.drew HP2.out.drew).mono ?_
      rintro e w3 ⟨hst, hpost⟩
      have hst3 := HST2.out.drew.trans hst
      obtain ⟨g1, g2, g3⟩ := HAft.out w2.drew w3 (Eq.refl w2.heap) hst
      rcases hk : kindA ts ts.length n (d + 1) (b + 1) with ⟨D2, b2⟩ | ⟨er, li, co⟩
      · rw [hk] at hpost
        obtain ⟨hps, v, rfl, hv⟩ := hpost
        obtain ⟨k4, nm4, na4, nl4, nc4, ka4, kl4, kc4, rfl⟩ := hv.cells
        exact .inr ⟨D2, b2, _, _, _, _, _, _, _, _, rfl, g1, zeroT g2, (fun o => g1.alloc (Nat.lt_of_lt_of_le (lt_of_block HBx.out) hst.size) o), (fun o x0 x1 x2 x3 => (g1.set4 (by have := lt_of_block HR.out; omega) x0 x1 x2 x3).alloc (by rw [size_set4]; exact Nat.lt_of_lt_of_le (lt_of_block HBx.out) hst.size) o), by rw [HRB.out, hk]; rfl, hst3, hps, g2, g3, hv.lower (lt_of_block HR2.out)⟩
      · rw [hk] at hpost
        subst hpost
        exact .inl ⟨_, rfl, hst3, by rw [HRB.out, hk]; rfl⟩
    clear hps hs
    unfold BoxT at hS0
    have hne : ¬ w1.heap.size = w.heap.size := by have := lt_of_block HR.out; omega
    have hne' : ¬ w.heap.size = w1.heap.size := by have := lt_of_block HR.out; omega
    go_wp2_with fail
    go_region_held (fun W => W.cell? ⟨w1.heap.size, 0, none⟩ = some (.int .i64 k1) /\ W.cell? ⟨w1.heap.size, 1, none⟩ = some (.string nm1) /\ W.cell? ⟨w1.heap.size, 2, none⟩ = some (.slice na1 nl1 nc1) /\ W.cell? ⟨w1.heap.size, 3, none⟩ = some (.slice ka1 kl1 kc1)) (first | with_reducible assumption | with_reducible exact HS3.out _ | with_reducible exact HS4.out _ _ _ _ _) (first
      | (go_at_call 17; refine HC.out.mono ?_; rintro e w3 (⟨ch, rfl, hf⟩ | ⟨D2, b2, k4, nm4, na4, nl4, nc4, ka4, kl4, kc4, rfl, t5, t6, HS3, HS4, HX⟩); exact ⟨rfl, hf⟩; unfold BoxT at t5; obtain ⟨⟨r0, r1, r2, r3⟩, ⟨f0, f1, f2, f3⟩, hl4⟩ := t6))
    all_goals
      go_wp2_with fail
      obtain ⟨e1, e2, e3, e4, e5, e6⟩ := HX.out
      rw [e1]
      have hlt : w.heap.size < w3.heap.size := lt_of_block e4
      refine bodyPost_ret (results_cell_row rfl _ _ w.heap.size 44 _ (0, 0) _ rfl ((Below.heap_alloc _ _ _ (by rw [size_set4]; exact hlt)).trans (set4 e4 _ _ _ _)) underlying44 rfl (by kernel_rfl)) rfl ⟨(stay_set4 e2 H.out.ltp (Nat.le_refl _) _ _ _ _).alloc H.out.ltp _, (ps_set4 e3 H.out.ltp _ _ _ _).alloc _, _, rfl, ?_⟩
      have hf := tyE_fun (c1 := [.int .i64 k1, .string nm1, .slice na1 nl1 nc1, .slice ka1 kl1 kc1]) (c2 := [.int .i64 k4, .string nm4, .slice na4 nl4 nc4, .slice ka4 kl4 kc4]) (e5.set4 (b := w.heap.size) (Nat.lt_succ_self _) (.int .i64 6) (.string ⟨#[]⟩) (.slice none 0 0) (.slice (some ⟨w3.heap.size, 0, none⟩) 2 2)) (e6.set4 (Nat.lt_succ_self _) _ _ _ _) rfl rfl (by rw [size_set4]; exact hlt)
      rw [size_set4] at hf
      exact hf.lower (Nat.le_succ _)
theorem withinT_c (pb tb cap a d g : Nat) (ts : List Tok) (r : Pr Ty) (hd : d < 100) (hg : ∀ w, Ps w pb tb cap ts a (d + 1) -> Calls prog g #[.pointer (some ⟨pb, 0, none⟩)] w (PPost pb tb cap ts (d + 1) w TyE r)) (hen : Enters g pb)
    (w : World) (h : Ps w pb tb cap ts a d) :
    Calls prog 31 #[.pointer (some ⟨pb, 0, none⟩), .func (.func g) #[] #[]] w (PPost pb tb cap ts d w TyE r) := by
  have H := hideP h
  have HG := hideP hg
  have hp := h.ltp
  obtain ⟨c0, c1, c2⟩ := h.cells
  have z2 := h.fz 2
  have hd1 : ((d : Int) == 100) = false := by simp; omega
  clear h hg
  go_enter func31, ntmps31
  go_wp2_with fail
  rw [show ((d : Int) + 1) = ((d + 1 : Nat) : Int) by omega]
  refine (HG.out _ ((H.out.setDeep (d + 1)).alloc _)).mono ?_
  rintro e w1 ⟨hst, hpost⟩
  have HST : Hid (Stay pb w w1) := (((Stay.refl pb w).set 2 _).alloc hp _).trans hst
  have HR := hideP ((hst.keep w.heap.size hp (by simp [World.setCell])).trans (heap_set_alloc w _ _ _))
  have HLo : Hid (∀ x, PPost pb tb cap ts (d + 1) ((w.setCell ⟨pb, 2, none⟩ (.int .i64 ((d + 1 : Nat) : Int))).alloc zTyO) TyE (.inl x) e w1 -> Ps w1 pb tb cap ts x.2 (d + 1) /\ ∃ v, e = .returned v /\ TyE (w.heap.size + 1) w1 v x.1) := by
    rintro ⟨x, b⟩ ⟨_, h1, v, h2, h3⟩
    refine ⟨h1, v, h2, ?_⟩
    have : ((w.setCell ⟨pb, 2, none⟩ (.int .i64 ((d + 1 : Nat) : Int))).alloc zTyO).heap.size = w.heap.size + 1 := by simp [World.setCell]
    rw [this] at h3
    exact h3
  have HPo : Hid (PPost pb tb cap ts (d + 1) ((w.setCell ⟨pb, 2, none⟩ (.int .i64 ((d + 1 : Nat) : Int))).alloc zTyO) TyE r e w1) := ⟨hst, hpost⟩
  clear hst hpost
  rcases r with ⟨D, b⟩ | ⟨er, li, co⟩
  case inr =>
    obtain ⟨_, rfl⟩ := HPo.out
    go_wp2_with fail
    exact ⟨rfl, HST.out, rfl⟩
  obtain ⟨hps, v, rfl, hv⟩ := HLo.out _ HPo.out
  obtain ⟨k1, nm1, na1, nl1, nc1, ka1, kl1, kc1, rfl⟩ := hv.cells
  have HP := hideP hps
  have HT := hideP hv
  clear hps hv HPo HLo c0 c1 c2 z2
  obtain ⟨c0, c1, c2⟩ := HP.out.cells
  have z2 := HP.out.fz 2
  have hp1 := HP.out.ltp
  obtain ⟨⟨r0, r1, r2, r3⟩, ⟨f0, f1, f2, f3⟩, hr1⟩ := res_facts HR.out
  have hpw : ¬ pb = w.heap.size := by omega
  have hpw' : ¬ w.heap.size = pb := by omega
  have hne : ¬ w1.heap.size = w.heap.size := by omega
  have hne' : ¬ w1.heap.size = pb := by omega
  go_wp2_with fail
  refine bodyPost_ret (results_cell_row rfl _ _ w.heap.size 44 _ (0, 0) _ rfl ((Below.heap_alloc _ _ _ (by rw [size_set4, size_set]; exact hr1)).trans (set4 ((Below.heap_setCell _ _ _ _ hpw').trans HR.out) _ _ _ _)) underlying44 rfl (by kernel_rfl)) rfl ⟨(stay_set4 (HST.out.set 2 _) hp (Nat.le_refl _) _ _ _ _).alloc hp _, (ps_set4 (HP.out.setDeep d) hp _ _ _ _).alloc _, _, rfl, ?_⟩
  exact (((HT.out.set1 (by omega) _ _).set4 (Nat.lt_succ_self _) _ _ _ _).alloc _).lower (Nat.le_succ _)
theorem withinT_deep (pb tb cap a g : Nat) (ts : List Tok) (w : World) (h : Ps w pb tb cap ts a 100) :
    Calls prog 31 #[.pointer (some ⟨pb, 0, none⟩), .func (.func g) #[] #[]] w (PPost pb tb cap ts 100 w TyE (badA ts 6 a)) := by
  have H := hideP h
  have hp := h.ltp
  obtain ⟨c0, c1, c2⟩ := h.cells
  clear h
  go_enter func31, ntmps31
  go_wp2_with fail
  refine (wrong_c pb tb cap a 100 ts _ (H.out.alloc _) 6).mono ?_
  rintro e w2 ⟨rfl, hb2⟩
  have HB2 := hideP (below_next (bl_alloc _ _) hb2)
  clear hb2
  go_wp2_with fail
  exact ⟨rfl, Stay.of hp HB2.out, rfl⟩
theorem arrow_enters (pb : Nat) : Enters 32 pb := fun w => enters_of func32 (by kernel_rfl) (by kernel_rfl) _ w
/-- A type, by whatever way it is read within. -/
theorem full_of (pb tb cap d : Nat) (ts : List Tok) (r : Pr Ty) (w : World) (hw : ∀ w1, Below w.heap.size w w1 -> Calls prog 31 #[.pointer (some ⟨pb, 0, none⟩), .func (.func 32) #[] #[]] w1 (PPost pb tb cap ts d w1 TyE r)) (hp : pb < w.heap.size) :
    Calls prog 17 #[.pointer (some ⟨pb, 0, none⟩)] w (PPost pb tb cap ts d w TyE r) := by
  have HW := hideP hw
  clear hw
  go_enter func17, ntmps17
  go_wp2_with fail
  refine (HW.out _ (bl_alloc _ _)).mono ?_
  rintro e w1 ⟨hst, hpost⟩
  have HST := hideP ((Stay.of hp (bl_alloc _ _)).trans hst)
  have HR := hideP ((hst.keep _ hp (by simp)).trans (heap_alloc_last w _))
  clear hst
  rcases r with ⟨D, b⟩ | ⟨er, li, co⟩
  case inr =>
    subst hpost
    go_wp2_with fail
    exact ⟨rfl, HST.out, rfl⟩
  obtain ⟨hps, v, rfl, hv⟩ := hpost
  obtain ⟨k1, nm1, na1, nl1, nc1, ka1, kl1, kc1, rfl⟩ := hv.cells
  have HP := hideP hps
  have HT := hideP hv
  obtain ⟨⟨r0, r1, r2, r3⟩, ⟨f0, f1, f2, f3⟩, hr1⟩ := res_facts HR.out
  clear hps hv
  go_wp2_with fail
  refine bodyPost_ret (results_cell_row rfl _ _ w.heap.size 44 _ (0, 0) _ rfl (set4 HR.out _ _ _ _) underlying44 rfl (by kernel_rfl)) rfl ⟨stay_set4 HST.out hp (Nat.le_refl _) _ _ _ _, ps_set4 HP.out hp _ _ _ _, _, rfl, ?_⟩
  exact (HT.out.set4 (by simp) _ _ _ _).lower (by simp)
/-- fullType: the rule 'type'. -/
theorem kind_c (pb tb cap : Nat) (ts : List Tok) (ok : ToksOk ts) : ∀ (n d a : Nat) (w : World), d + n = 101 -> d <= 100 -> Ps w pb tb cap ts a d ->
    Calls prog 17 #[.pointer (some ⟨pb, 0, none⟩)] w (PPost pb tb cap ts d w TyE (kindA ts ts.length n d a))
  | 0, d, _, _, h1, h2, _ => absurd h1 (by omega)
  | n + 1, d, a, w, h1, h2, h => by
    rw [kindA]
    by_cases hd : 100 <= d
    · obtain rfl : d = 100 := by omega
      rw [if_pos hd]
      exact full_of pb tb cap 100 ts _ w (fun w1 hb => withinT_deep pb tb cap a _ ts w1 (h.below hb)) h.ltp
    · rw [if_neg hd]
      exact full_of pb tb cap d ts _ w (fun w1 hb => withinT_c pb tb cap a d _ ts _ (by omega) (fun w2 h2 => arrow_c pb tb cap d n ts (fun a w h => kind_c pb tb cap ts ok n (d + 1) a w (by omega) (by omega) h) a w2 h2 ok) (arrow_enters pb) w1 (h.below hb)) h.ltp
end Go.Proofs.YtlhmofphpfdjlaaGreatDoor
