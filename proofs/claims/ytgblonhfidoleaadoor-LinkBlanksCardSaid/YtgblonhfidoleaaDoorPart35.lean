/- Part. -/
import Derived.Test.YtgblonhfidoleaaDoorPart34
set_option maxRecDepth 100000
set_option maxHeartbeats 4000000
/- What is imported. -/
namespace Go.Proofs.YtgblonhfidoleaaDoor
open Go.Proofs.Tryd
open Go.RowKit
attribute [local go_sem ↓] Go.wp_at_zero Go.wp_at_succ
abbrev impO (s : List UInt8) (na : Option Addr) (nl nc li co : Nat) : Obj := .cells #[.string ⟨s.toArray⟩, .slice na nl nc, .int .i64 li, .int .i64 co] 68
abbrev zImp : Obj := .cells #[.string ⟨#[]⟩, .slice none 0 0, .int .i64 0, .int .i64 0] 68
/-- One import. -/
def importA (ts : List Tok) (a : Nat) : Pr Ty := (wantA ts a [105, 109, 112, 111, 114, 116]).go fun _ b => (nameA ts b).go fun s b => (wantA ts b [58]).go fun _ b => (manyA ts (nameA ts) [44] ts.length b).go fun l b => (wantA ts b [59]).go fun _ b => .inl (mkI s l (lineA ts a) (colA ts a), b)
def ImpC (lo : Nat) (w : World) (c : List Value) (D : Ty) : Prop := ∃ (s : List UInt8) (l : List (List UInt8)) (na : Option Addr) (nc li co : Nat), c = [.string ⟨s.toArray⟩, .slice na l.length nc, .int .i64 li, .int .i64 co] /\ D = mkI s l li co /\ l.length <= 8193 /\ NamesF w lo na l
def ImpE (lo : Nat) (w : World) (v : Value) (D : Ty) : Prop := ∃ c : List Value, v = .agg c.toArray /\ ImpC lo w c D
theorem imported_c (pb tb cap d : Nat) (ts : List Tok) (ok : ToksOk ts) (a : Nat) (w : World) (h : Ps w pb tb cap ts a d) :
    Calls prog 37 #[.pointer (some ⟨pb, 0, none⟩)] w (PPost pb tb cap ts d w ImpE (importA ts a)) := by
  have H := hideP h
  have OK := hideP ok
  have hp := h.ltp
  have C0 := hideP (ctx_init h zImp)
  obtain ⟨R, hR⟩ : ∃ R : Pr Ty, R = (importA ts a) := ⟨_, rfl⟩
  rw [<- hR]
  unfold importA at hR
  have HR0 := hideP hR
  clear h ok hR
  go_enter func37, ntmps37
  go_wp2_with fail
  refine (must_c pb tb cap a d ts [105, 109, 112, 111, 114, 116] _ C0.out.ps OK.out).mono ?_
  intro e w1 hpost
  rcases ppost_or hpost with ⟨er, li, co, hr, rfl, hst⟩ | ⟨u, b1, v, hr, rfl, hst, hps, hv⟩
  · have HE : Hid (R = .inr (er, li, co)) := by rw [HR0.out, hr]; exact rfl
    have HF := hideP (C0.out.st.trans hst)
    clear hr hst hpost
    go_wp2_with fail
    exact ⟨rfl, HF.out, by rw [HE.out]⟩
  obtain ⟨t, ht⟩ : ∃ t, t = tkA ts a := ⟨_, rfl⟩
  have HR1 : Hid (R = (nameA ts b1).go fun s b => (wantA ts b [58]).go fun _ b => (manyA ts (nameA ts) [44] ts.length b).go fun l b => (wantA ts b [59]).go fun _ b => .inl (mkI s l t.line t.col, b)) := by rw [HR0.out, hr, ht]; exact rfl
  rw [<- ht] at hv
  subst hv
  have C1 := hideP ((C0.out.step hst hps))
  have C2 := hideP (C1.out.alloc (TOKO t))
  clear hr hst hps hpost ht
  go_wp2_with fail
  have hS0 : (((w1.alloc (TOKO t)).drew).cell? ⟨w1.heap.size, 0, none⟩ = some (.int .i64 t.kind) /\ ((w1.alloc (TOKO t)).drew).cell? ⟨w1.heap.size, 1, none⟩ = some (.string ⟨t.text.toArray⟩) /\ ((w1.alloc (TOKO t)).drew).cell? ⟨w1.heap.size, 2, none⟩ = some (.int .i64 t.line) /\ ((w1.alloc (TOKO t)).drew).cell? ⟨w1.heap.size, 3, none⟩ = some (.int .i64 t.col)) := (tokB (C2.out.drew.b0))
  have HS00 : Hid (∀ o, ((((w1.alloc (TOKO t)).alloc o).drew).cell? ⟨w1.heap.size, 0, none⟩ = some (.int .i64 t.kind) /\ (((w1.alloc (TOKO t)).alloc o).drew).cell? ⟨w1.heap.size, 1, none⟩ = some (.string ⟨t.text.toArray⟩) /\ (((w1.alloc (TOKO t)).alloc o).drew).cell? ⟨w1.heap.size, 2, none⟩ = some (.int .i64 t.line) /\ (((w1.alloc (TOKO t)).alloc o).drew).cell? ⟨w1.heap.size, 3, none⟩ = some (.int .i64 t.col))) := (fun o => tokB ((C2.out.alloc o).drew.has (w1.heap.size, TOKO t) (by simp)).1)
  have HC : Hid (∀ wa bx, Ctx pb tb cap d ts w wa b1 bx [] [] -> (w1.heap.size, TOKO t) ∈ bx -> Calls prog 47 #[.pointer (some ⟨pb, 0, none⟩)] wa fun e w9 => (∃ chain, e = .panicked chain /\ PPost pb tb cap ts d w ImpE R e w9) ∨ ∃ (s : List UInt8) (b2 : Nat), e = .returned (.string ⟨s.toArray⟩) /\ (w9.cell? ⟨w1.heap.size, 0, none⟩ = some (.int .i64 t.kind) /\ w9.cell? ⟨w1.heap.size, 1, none⟩ = some (.string ⟨t.text.toArray⟩) /\ w9.cell? ⟨w1.heap.size, 2, none⟩ = some (.int .i64 t.line) /\ w9.cell? ⟨w1.heap.size, 3, none⟩ = some (.int .i64 t.col)) /\ Hid (R = ((wantA ts b2 [58]).go fun _ b => (manyA ts (nameA ts) [44] ts.length b).go fun l b => (wantA ts b [59]).go fun _ b => .inl (mkI s l t.line t.col, b)) /\ Ctx pb tb cap d ts w w9 b2 bx [] [])) := by
    intro wa bx CA m0
    refine (pname_c pb tb cap b1 d ts _ CA.ps OK.out).mono ?_
    intro e w9 hpost
    rcases ppost_or hpost with ⟨er, li, co, hr, rfl, hst⟩ | ⟨s, b2, v, hr, rfl, hst, hps, hv⟩
    · exact .inl ⟨_, rfl, CA.st.trans hst, by rw [HR1.out, hr]; rfl⟩
    subst hv
    have CN := (CA.step hst hps)
    exact .inr ⟨s, b2, rfl, tokB ((CN).has (w1.heap.size, TOKO t) m0).1, by rw [HR1.out, hr]; rfl, CN⟩
  go_region_held (fun W => (W.cell? ⟨w1.heap.size, 0, none⟩ = some (.int .i64 t.kind) /\ W.cell? ⟨w1.heap.size, 1, none⟩ = some (.string ⟨t.text.toArray⟩) /\ W.cell? ⟨w1.heap.size, 2, none⟩ = some (.int .i64 t.line) /\ W.cell? ⟨w1.heap.size, 3, none⟩ = some (.int .i64 t.col))) (first | with_reducible assumption | with_reducible exact HS00.out _ | with_reducible exact HS3.out _ | with_reducible exact HS4.out _ _ _ _ | with_reducible exact HS5.out _ _ _ _) (first
    | (go_at_call 47; refine (HC.out _ _ C2.out.drew (by simp)).mono ?_; rintro e w9 (⟨ch, rfl, hf⟩ | ⟨s, b2, rfl, t5, HX⟩); exact ⟨rfl, hf⟩; have HS3 : Hid (∀ o, (((w9.alloc o)).cell? ⟨w1.heap.size, 0, none⟩ = some (.int .i64 t.kind) /\ ((w9.alloc o)).cell? ⟨w1.heap.size, 1, none⟩ = some (.string ⟨t.text.toArray⟩) /\ ((w9.alloc o)).cell? ⟨w1.heap.size, 2, none⟩ = some (.int .i64 t.line) /\ ((w9.alloc o)).cell? ⟨w1.heap.size, 3, none⟩ = some (.int .i64 t.col))) := (fun o => tokB ((HX.out.2.alloc o).has (w1.heap.size, TOKO t) (by simp)).1); have HBX := hideP (res_facts (HX.out.2.alloc zImp).b0); obtain ⟨⟨i0, i1, i2, i3⟩, ⟨j0, j1, j2, j3⟩, hil⟩ := HBX.out; have HNE : Hid (w1.heap.size ≠ w9.heap.size) := (by have := lt_of_block HX.out.2.b0; show _ ≠ _; omega); have HS5 : Hid (∀ v0 v1 v2 v3, (((((((w9.alloc zImp).setCell ⟨w9.heap.size, 0, none⟩ v0).setCell ⟨w9.heap.size, 1, none⟩ v1).setCell ⟨w9.heap.size, 2, none⟩ v2).setCell ⟨w9.heap.size, 3, none⟩ v3)).cell? ⟨w1.heap.size, 0, none⟩ = some (.int .i64 t.kind) /\ ((((((w9.alloc zImp).setCell ⟨w9.heap.size, 0, none⟩ v0).setCell ⟨w9.heap.size, 1, none⟩ v1).setCell ⟨w9.heap.size, 2, none⟩ v2).setCell ⟨w9.heap.size, 3, none⟩ v3)).cell? ⟨w1.heap.size, 1, none⟩ = some (.string ⟨t.text.toArray⟩) /\ ((((((w9.alloc zImp).setCell ⟨w9.heap.size, 0, none⟩ v0).setCell ⟨w9.heap.size, 1, none⟩ v1).setCell ⟨w9.heap.size, 2, none⟩ v2).setCell ⟨w9.heap.size, 3, none⟩ v3)).cell? ⟨w1.heap.size, 2, none⟩ = some (.int .i64 t.line) /\ ((((((w9.alloc zImp).setCell ⟨w9.heap.size, 0, none⟩ v0).setCell ⟨w9.heap.size, 1, none⟩ v1).setCell ⟨w9.heap.size, 2, none⟩ v2).setCell ⟨w9.heap.size, 3, none⟩ v3)).cell? ⟨w1.heap.size, 3, none⟩ = some (.int .i64 t.col))) := (fun v0 v1 v2 v3 => tokB ((other_set4 HNE.out v0 v1 v2 v3).trans ((HX.out.2.alloc zImp).has (w1.heap.size, TOKO t) (by simp)).1)))
    | (go_at_call 47; refine (HC.out _ _ (C2.out.alloc zImp).drew (by simp)).mono ?_; rintro e w9 (⟨ch, rfl, hf⟩ | ⟨s, b2, rfl, t5, HX⟩); exact ⟨rfl, hf⟩; have HBX := hideP (res_facts (show w9.heap[w1.heap.size + 1]? = some zImp from (by have h := HX.out.2.b0; simp only [World.size_alloc] at h; exact h))); obtain ⟨⟨i0, i1, i2, i3⟩, ⟨j0, j1, j2, j3⟩, hil⟩ := HBX.out; have HS4 : Hid (∀ v0 v1 v2 v3, ((((((w9.setCell ⟨w1.heap.size + 1, 0, none⟩ v0).setCell ⟨w1.heap.size + 1, 1, none⟩ v1).setCell ⟨w1.heap.size + 1, 2, none⟩ v2).setCell ⟨w1.heap.size + 1, 3, none⟩ v3)).cell? ⟨w1.heap.size, 0, none⟩ = some (.int .i64 t.kind) /\ (((((w9.setCell ⟨w1.heap.size + 1, 0, none⟩ v0).setCell ⟨w1.heap.size + 1, 1, none⟩ v1).setCell ⟨w1.heap.size + 1, 2, none⟩ v2).setCell ⟨w1.heap.size + 1, 3, none⟩ v3)).cell? ⟨w1.heap.size, 1, none⟩ = some (.string ⟨t.text.toArray⟩) /\ (((((w9.setCell ⟨w1.heap.size + 1, 0, none⟩ v0).setCell ⟨w1.heap.size + 1, 1, none⟩ v1).setCell ⟨w1.heap.size + 1, 2, none⟩ v2).setCell ⟨w1.heap.size + 1, 3, none⟩ v3)).cell? ⟨w1.heap.size, 2, none⟩ = some (.int .i64 t.line) /\ (((((w9.setCell ⟨w1.heap.size + 1, 0, none⟩ v0).setCell ⟨w1.heap.size + 1, 1, none⟩ v1).setCell ⟨w1.heap.size + 1, 2, none⟩ v2).setCell ⟨w1.heap.size + 1, 3, none⟩ v3)).cell? ⟨w1.heap.size, 3, none⟩ = some (.int .i64 t.col))) := (fun v0 v1 v2 v3 => tokB ((other_set4 (by omega) v0 v1 v2 v3).trans (HX.out.2.has (w1.heap.size, TOKO t) (by simp)).1))))
  · have C3 := hideP (HX.out.2.alloc (impO s none 0 0 t.line t.col))
    have HIb : Hid (w.heap.size + 1 <= w9.heap.size) := HX.out.2.sz
    have HR2 := hideP HX.out.1
    clear HX HS3 HS5 HBX i0 i1 i2 i3 j0 j1 j2 j3 hil HNE t5 HC HS00 hS0 C0 C1 C2 HR0 HR1
    generalize w9.alloc (impO s none 0 0 t.line t.col) = W3 at C3 ⊢
    generalize w9.heap.size = ib at C3 HIb ⊢
    go_wp2_with fail
    refine (must_c pb tb cap b2 d ts [58] _ C3.out.ps OK.out).mono ?_
    intro e w4 hpost
    rcases ppost_or hpost with ⟨er, li, co, hr, rfl, hst⟩ | ⟨u4, b4, v4, hr, rfl, hst, hps, hv⟩
    · have HE : Hid (R = .inr (er, li, co)) := by rw [HR2.out, hr]; exact rfl
      have HF := hideP (C3.out.st.trans hst)
      clear hr hst hpost
      go_wp2_with fail
      exact ⟨rfl, HF.out, by rw [HE.out]⟩
    obtain ⟨f, hf⟩ : ∃ f, ts.length = f + 1 := ⟨ts.length - 1, by have := OK.out.pos; omega⟩
    have HR3 : Hid (R = (manyA ts (nameA ts) [44] (f + 1) b4).go fun l b => (wantA ts b [59]).go fun _ b => .inl (mkI s l t.line t.col, b)) := by rw [HR2.out, hr, hf]; exact rfl
    have C4 := hideP (C3.out.step hst hps)
    clear hr hst hps hpost hv
    go_wp2_with fail
    refine (listS_c pb tb cap d ts [44] _ ⟨fun _ _ _ => by kernel_rfl⟩ f b4 (by omega) _ C4.out.ps OK.out).mono ?_
    intro e w5 hpost
    rcases ppost_or hpost with ⟨er, li, co, hr, rfl, hst⟩ | ⟨l, b5, v, hr, rfl, hst, hps, hv⟩
    · have HE : Hid (R = .inr (er, li, co)) := by rw [HR3.out, hr]; exact rfl
      have HF := hideP (C4.out.st.trans hst)
      clear hr hst hpost
      go_wp2_with fail
      exact ⟨rfl, HF.out, by rw [HE.out]⟩
    have HR4 : Hid (R = (wantA ts b5 [59]).go fun _ b => .inl (mkI s l t.line t.col, b)) := by rw [HR3.out, hr]; exact rfl
    have HLen : Hid (l.length <= 8193) := by have := many_len _ hr; have := OK.out.len; show _ <= _; omega
    obtain ⟨cs, hv⟩ := hv
    obtain ⟨na, nc, rfl, hnc, hnm⟩ := rows_names hv
    have HN5 := hideP hnm
    have HL4 : Hid (ib < w4.heap.size) := lt_of_block C4.out.b0
    have C5 := hideP (C4.out.step hst hps)
    clear hr hst hps hpost hv hnm
    obtain ⟨⟨i0, i1, i2, i3⟩, ⟨j0, j1, j2, j3⟩, hil⟩ := res_facts C5.out.b0
    go_wp2_with fail
    have C6 : Hid (Ctx pb tb cap d ts w (w5.setCell ⟨ib, 1, none⟩ (.slice na l.length nc)) b5 [(ib, impO s na l.length nc t.line t.col), (w.heap.size, zImp)] [] []) := by
      have := HIb.out
      refine ⟨C5.out.st.own hp (by omega) 1 _, C5.out.ps.other (by omega) 1 _, hp, by rw [size_set]; exact C5.out.sz, fun p hm => ?_, (fun _ h => nomatch h), (fun _ h => nomatch h)⟩
      rcases List.mem_cons.1 hm with rfl | hm
      · have h1 := cells_setCell (o := 1) (u := .slice na l.length nc) C5.out.b0
        simp only [List.setIfInBounds_toArray, List.set_cons_zero, List.set_cons_succ] at h1
        exact ⟨h1, by show pb < ib; omega⟩
      · rw [List.mem_singleton.1 hm]
        exact ⟨(Below.heap_setCell _ _ _ _ (by show w.heap.size ≠ ib; omega)).trans C5.out.b2, hp⟩
    have HN6 : Hid (NamesF (w5.setCell ⟨ib, 1, none⟩ (.slice na l.length nc)) w4.heap.size na l) := namesF_keep HN5.out (by rw [size_set]; exact Nat.le_refl _) fun i hi _ => Below.heap_setCell _ _ _ _ (by show i ≠ ib; have := HL4.out; omega)
    clear C5 HN5 i0 i1 i2 i3 j0 j1 j2 j3 hil
    generalize w5.setCell ⟨ib, 1, none⟩ (.slice na l.length nc) = W6 at C6 HN6 ⊢
    refine (must_c pb tb cap b5 d ts [59] _ C6.out.ps OK.out).mono ?_
    intro e w7 hpost
    rcases ppost_or hpost with ⟨er, li, co, hr, rfl, hst⟩ | ⟨u7, b7, v7, hr, rfl, hst, hps, hv⟩
    · have HE : Hid (R = .inr (er, li, co)) := by rw [HR4.out, hr]; exact rfl
      have HF := hideP (C6.out.st.trans hst)
      clear hr hst hpost
      go_wp2_with fail
      exact ⟨rfl, HF.out, by rw [HE.out]⟩
    have HR5 : Hid (R = .inl (mkI s l t.line t.col, b7)) := by rw [HR4.out, hr]; exact rfl
    have C7 := hideP (C6.out.step hst hps)
    have HN7 : Hid (NamesF w7 w4.heap.size na l) := namesF_keep HN6.out hst.size fun i hi hl => hst.keep i (by have := HL4.out; have := HIb.out; omega) hl
    clear hr hst hps hpost hv
    obtain ⟨⟨i0, i1, i2, i3⟩, _, hil⟩ := res_facts C7.out.b0
    obtain ⟨⟨r0, r1, r2, r3⟩, ⟨f0, f1, f2, f3⟩, hr1⟩ := res_facts C7.out.b1
    have hne : ¬ ib = w.heap.size := by have := HIb.out; omega
    go_wp2_with fail
    rw [HR5.out]
    refine bodyPost_ret (results_cell_row rfl _ _ w.heap.size 68 _ (0, 0) _ rfl (set4 C7.out.b1 _ _ _ _) underlying68 rfl (by kernel_rfl)) rfl ⟨stay_set4 C7.out.st hp (Nat.le_refl _) _ _ _ _, ps_set4 C7.out.ps hp _ _ _ _, _, rfl, [_, _, _, _], rfl, s, l, na, nc, t.line, t.col, rfl, rfl, HLen.out, ?_⟩
    refine namesF_lower (lo := w4.heap.size) (namesF_keep HN7.out (by rw [size_set4]; exact Nat.le_refl _) fun i hi _ => other_set4 (by have := HL4.out; have := HIb.out; omega) _ _ _ _) (by have := HL4.out; have := HIb.out; omega)
  · have C3 : Hid (Ctx pb tb cap d ts w ((((w9.setCell ⟨w1.heap.size + 1, 0, none⟩ (.string ⟨s.toArray⟩)).setCell ⟨w1.heap.size + 1, 1, none⟩ (.slice none 0 0)).setCell ⟨w1.heap.size + 1, 2, none⟩ (.int .i64 t.line)).setCell ⟨w1.heap.size + 1, 3, none⟩ (.int .i64 t.col)) b2 [(w1.heap.size + 1, impO s none 0 0 t.line t.col), (w1.heap.size, TOKO t), (w.heap.size, zImp)] [] []) := by
      have hx := HX.out.2
      simp only [World.size_alloc] at hx
      have := C1.out.sz
      refine ⟨stay_set4 hx.st hp (by omega) _ _ _ _, ps_set4 hx.ps (by omega) _ _ _ _, hp, by rw [size_set4]; exact hx.sz, fun p hm => ?_, (fun _ h => nomatch h), (fun _ h => nomatch h)⟩
      rcases List.mem_cons.1 hm with rfl | hm
      · exact ⟨set4 hx.b0 _ _ _ _, by show pb < _ + 1; omega⟩
      · rcases List.mem_cons.1 hm with rfl | hm
        · exact ⟨(other_set4 (by show _ ≠ _ + 1; omega) _ _ _ _).trans hx.b1, by show pb < _; omega⟩
        · rw [List.mem_singleton.1 hm]
          exact ⟨(other_set4 (by show _ ≠ _ + 1; omega) _ _ _ _).trans hx.b2, hp⟩
    have HIb : Hid (w.heap.size + 1 <= w1.heap.size + 1) := by have := C1.out.sz; show _ <= _; omega
    have HR2 := hideP HX.out.1
    clear HX HS4 HBX i0 i1 i2 i3 j0 j1 j2 j3 hil t5 HC HS00 hS0 C0 C1 C2 HR0 HR1
    generalize ((((w9.setCell ⟨w1.heap.size + 1, 0, none⟩ (.string ⟨s.toArray⟩)).setCell ⟨w1.heap.size + 1, 1, none⟩ (.slice none 0 0)).setCell ⟨w1.heap.size + 1, 2, none⟩ (.int .i64 t.line)).setCell ⟨w1.heap.size + 1, 3, none⟩ (.int .i64 t.col)) = W3 at C3 ⊢
    generalize w1.heap.size + 1 = ib at C3 HIb ⊢
    go_wp2_with fail
    refine (must_c pb tb cap b2 d ts [58] _ C3.out.ps OK.out).mono ?_
    intro e w4 hpost
    rcases ppost_or hpost with ⟨er, li, co, hr, rfl, hst⟩ | ⟨u4, b4, v4, hr, rfl, hst, hps, hv⟩
    · have HE : Hid (R = .inr (er, li, co)) := by rw [HR2.out, hr]; exact rfl
      have HF := hideP (C3.out.st.trans hst)
      clear hr hst hpost
      go_wp2_with fail
      exact ⟨rfl, HF.out, by rw [HE.out]⟩
    obtain ⟨f, hf⟩ : ∃ f, ts.length = f + 1 := ⟨ts.length - 1, by have := OK.out.pos; omega⟩
    have HR3 : Hid (R = (manyA ts (nameA ts) [44] (f + 1) b4).go fun l b => (wantA ts b [59]).go fun _ b => .inl (mkI s l t.line t.col, b)) := by rw [HR2.out, hr, hf]; exact rfl
    have C4 := hideP (C3.out.step hst hps)
    clear hr hst hps hpost hv
    go_wp2_with fail
    refine (listS_c pb tb cap d ts [44] _ ⟨fun _ _ _ => by kernel_rfl⟩ f b4 (by omega) _ C4.out.ps OK.out).mono ?_
    intro e w5 hpost
    rcases ppost_or hpost with ⟨er, li, co, hr, rfl, hst⟩ | ⟨l, b5, v, hr, rfl, hst, hps, hv⟩
    · have HE : Hid (R = .inr (er, li, co)) := by rw [HR3.out, hr]; exact rfl
      have HF := hideP (C4.out.st.trans hst)
      clear hr hst hpost
      go_wp2_with fail
      exact ⟨rfl, HF.out, by rw [HE.out]⟩
    have HR4 : Hid (R = (wantA ts b5 [59]).go fun _ b => .inl (mkI s l t.line t.col, b)) := by rw [HR3.out, hr]; exact rfl
    have HLen : Hid (l.length <= 8193) := by have := many_len _ hr; have := OK.out.len; show _ <= _; omega
    obtain ⟨cs, hv⟩ := hv
    obtain ⟨na, nc, rfl, hnc, hnm⟩ := rows_names hv
    have HN5 := hideP hnm
    have HL4 : Hid (ib < w4.heap.size) := lt_of_block C4.out.b0
    have C5 := hideP (C4.out.step hst hps)
    clear hr hst hps hpost hv hnm
    obtain ⟨⟨i0, i1, i2, i3⟩, ⟨j0, j1, j2, j3⟩, hil⟩ := res_facts C5.out.b0
    go_wp2_with fail
    have C6 : Hid (Ctx pb tb cap d ts w (w5.setCell ⟨ib, 1, none⟩ (.slice na l.length nc)) b5 [(ib, impO s na l.length nc t.line t.col), (w.heap.size, zImp)] [] []) := by
      have := HIb.out
      refine ⟨C5.out.st.own hp (by omega) 1 _, C5.out.ps.other (by omega) 1 _, hp, by rw [size_set]; exact C5.out.sz, fun p hm => ?_, (fun _ h => nomatch h), (fun _ h => nomatch h)⟩
      rcases List.mem_cons.1 hm with rfl | hm
      · have h1 := cells_setCell (o := 1) (u := .slice na l.length nc) C5.out.b0
        simp only [List.setIfInBounds_toArray, List.set_cons_zero, List.set_cons_succ] at h1
        exact ⟨h1, by show pb < ib; omega⟩
      · rw [List.mem_singleton.1 hm]
        exact ⟨(Below.heap_setCell _ _ _ _ (by show w.heap.size ≠ ib; omega)).trans C5.out.b2, hp⟩
    have HN6 : Hid (NamesF (w5.setCell ⟨ib, 1, none⟩ (.slice na l.length nc)) w4.heap.size na l) := namesF_keep HN5.out (by rw [size_set]; exact Nat.le_refl _) fun i hi _ => Below.heap_setCell _ _ _ _ (by show i ≠ ib; have := HL4.out; omega)
    clear C5 HN5 i0 i1 i2 i3 j0 j1 j2 j3 hil
    generalize w5.setCell ⟨ib, 1, none⟩ (.slice na l.length nc) = W6 at C6 HN6 ⊢
    refine (must_c pb tb cap b5 d ts [59] _ C6.out.ps OK.out).mono ?_
    intro e w7 hpost
    rcases ppost_or hpost with ⟨er, li, co, hr, rfl, hst⟩ | ⟨u7, b7, v7, hr, rfl, hst, hps, hv⟩
    · have HE : Hid (R = .inr (er, li, co)) := by rw [HR4.out, hr]; exact rfl
      have HF := hideP (C6.out.st.trans hst)
      clear hr hst hpost
      go_wp2_with fail
      exact ⟨rfl, HF.out, by rw [HE.out]⟩
    have HR5 : Hid (R = .inl (mkI s l t.line t.col, b7)) := by rw [HR4.out, hr]; exact rfl
    have C7 := hideP (C6.out.step hst hps)
    have HN7 : Hid (NamesF w7 w4.heap.size na l) := namesF_keep HN6.out hst.size fun i hi hl => hst.keep i (by have := HL4.out; have := HIb.out; omega) hl
    clear hr hst hps hpost hv
    obtain ⟨⟨i0, i1, i2, i3⟩, _, hil⟩ := res_facts C7.out.b0
    obtain ⟨⟨r0, r1, r2, r3⟩, ⟨f0, f1, f2, f3⟩, hr1⟩ := res_facts C7.out.b1
    have hne : ¬ ib = w.heap.size := by have := HIb.out; omega
    go_wp2_with fail
    rw [HR5.out]
    refine bodyPost_ret (results_cell_row rfl _ _ w.heap.size 68 _ (0, 0) _ rfl (set4 C7.out.b1 _ _ _ _) underlying68 rfl (by kernel_rfl)) rfl ⟨stay_set4 C7.out.st hp (Nat.le_refl _) _ _ _ _, ps_set4 C7.out.ps hp _ _ _ _, _, rfl, [_, _, _, _], rfl, s, l, na, nc, t.line, t.col, rfl, rfl, HLen.out, ?_⟩
    refine namesF_lower (lo := w4.heap.size) (namesF_keep HN7.out (by rw [size_set4]; exact Nat.le_refl _) fun i hi _ => other_set4 (by have := HL4.out; have := HIb.out; omega) _ _ _ _) (by have := HL4.out; have := HIb.out; omega)
end Go.Proofs.YtgblonhfidoleaaDoor
/- A function's declaration: its fifteen cells, and what the grammar says. -/
namespace Go.Proofs.YtgblonhfidoleaaDoor
open Go.Proofs.Tryd
open Go.RowKit
abbrev put15 (w : World) (b : Nat) (x0 x1 x2 x3 x4 x5 x6 x7 x8 x9 x10 x11 x12 x13 x14 : Value) : World := (((((((((((((((w.setCell ⟨b, 0, none⟩ x0).setCell ⟨b, 1, none⟩ x1).setCell ⟨b, 2, none⟩ x2).setCell ⟨b, 3, none⟩ x3).setCell ⟨b, 4, none⟩ x4).setCell ⟨b, 5, none⟩ x5).setCell ⟨b, 6, none⟩ x6).setCell ⟨b, 7, none⟩ x7).setCell ⟨b, 8, none⟩ x8).setCell ⟨b, 9, none⟩ x9).setCell ⟨b, 10, none⟩ x10).setCell ⟨b, 11, none⟩ x11).setCell ⟨b, 12, none⟩ x12).setCell ⟨b, 13, none⟩ x13).setCell ⟨b, 14, none⟩ x14)
section
variable {w w' : World} {b pb lo : Nat} {y0 y1 y2 y3 y4 y5 y6 y7 y8 y9 y10 y11 y12 y13 y14 : Value} {t : TypeId}
theorem put15_heap (h : w.heap[b]? = some (.cells #[y0, y1, y2, y3, y4, y5, y6, y7, y8, y9, y10, y11, y12, y13, y14] t)) (x0 x1 x2 x3 x4 x5 x6 x7 x8 x9 x10 x11 x12 x13 x14 : Value) : (put15 w b x0 x1 x2 x3 x4 x5 x6 x7 x8 x9 x10 x11 x12 x13 x14).heap[b]? = some (.cells #[x0, x1, x2, x3, x4, x5, x6, x7, x8, x9, x10, x11, x12, x13, x14] t) := by
  have h0 := cells_setCell (o := 0) (u := x0) h
  simp only [List.setIfInBounds_toArray, List.set_cons_zero] at h0
  have h1 := cells_setCell (o := 1) (u := x1) h0
  simp only [List.setIfInBounds_toArray, List.set_cons_zero, List.set_cons_succ] at h1
  have h2 := cells_setCell (o := 2) (u := x2) h1
  simp only [List.setIfInBounds_toArray, List.set_cons_zero, List.set_cons_succ] at h2
  have h3 := cells_setCell (o := 3) (u := x3) h2
  simp only [List.setIfInBounds_toArray, List.set_cons_zero, List.set_cons_succ] at h3
  have h4 := cells_setCell (o := 4) (u := x4) h3
  simp only [List.setIfInBounds_toArray, List.set_cons_zero, List.set_cons_succ] at h4
  have h5 := cells_setCell (o := 5) (u := x5) h4
  simp only [List.setIfInBounds_toArray, List.set_cons_zero, List.set_cons_succ] at h5
  have h6 := cells_setCell (o := 6) (u := x6) h5
  simp only [List.setIfInBounds_toArray, List.set_cons_zero, List.set_cons_succ] at h6
  have h7 := cells_setCell (o := 7) (u := x7) h6
  simp only [List.setIfInBounds_toArray, List.set_cons_zero, List.set_cons_succ] at h7
  have h8 := cells_setCell (o := 8) (u := x8) h7
  simp only [List.setIfInBounds_toArray, List.set_cons_zero, List.set_cons_succ] at h8
  have h9 := cells_setCell (o := 9) (u := x9) h8
  simp only [List.setIfInBounds_toArray, List.set_cons_zero, List.set_cons_succ] at h9
  have h10 := cells_setCell (o := 10) (u := x10) h9
  simp only [List.setIfInBounds_toArray, List.set_cons_zero, List.set_cons_succ] at h10
  have h11 := cells_setCell (o := 11) (u := x11) h10
  simp only [List.setIfInBounds_toArray, List.set_cons_zero, List.set_cons_succ] at h11
  have h12 := cells_setCell (o := 12) (u := x12) h11
  simp only [List.setIfInBounds_toArray, List.set_cons_zero, List.set_cons_succ] at h12
  have h13 := cells_setCell (o := 13) (u := x13) h12
  simp only [List.setIfInBounds_toArray, List.set_cons_zero, List.set_cons_succ] at h13
  have h14 := cells_setCell (o := 14) (u := x14) h13
  simp only [List.setIfInBounds_toArray, List.set_cons_zero, List.set_cons_succ] at h14
  exact h14
theorem put15_size (x0 x1 x2 x3 x4 x5 x6 x7 x8 x9 x10 x11 x12 x13 x14 : Value) : (put15 w b x0 x1 x2 x3 x4 x5 x6 x7 x8 x9 x10 x11 x12 x13 x14).heap.size = w.heap.size := by simp only [size_set]
theorem put15_other {i : Nat} (hi : i ≠ b) (x0 x1 x2 x3 x4 x5 x6 x7 x8 x9 x10 x11 x12 x13 x14 : Value) : (put15 w b x0 x1 x2 x3 x4 x5 x6 x7 x8 x9 x10 x11 x12 x13 x14).heap[i]? = w.heap[i]? := by
  unfold put15
  rw [Below.heap_setCell _ _ _ _ hi, Below.heap_setCell _ _ _ _ hi, Below.heap_setCell _ _ _ _ hi, Below.heap_setCell _ _ _ _ hi, Below.heap_setCell _ _ _ _ hi, Below.heap_setCell _ _ _ _ hi, Below.heap_setCell _ _ _ _ hi, Below.heap_setCell _ _ _ _ hi, Below.heap_setCell _ _ _ _ hi, Below.heap_setCell _ _ _ _ hi, Below.heap_setCell _ _ _ _ hi, Below.heap_setCell _ _ _ _ hi, Below.heap_setCell _ _ _ _ hi, Below.heap_setCell _ _ _ _ hi, Below.heap_setCell _ _ _ _ hi]
theorem stay_put15 (h : Stay pb w w') (hp : pb < w.heap.size) (hb : w.heap.size <= b) (x0 x1 x2 x3 x4 x5 x6 x7 x8 x9 x10 x11 x12 x13 x14 : Value) : Stay pb w (put15 w' b x0 x1 x2 x3 x4 x5 x6 x7 x8 x9 x10 x11 x12 x13 x14) := (((((((((((((((h.own hp hb 0 _).own hp hb 1 _).own hp hb 2 _).own hp hb 3 _).own hp hb 4 _).own hp hb 5 _).own hp hb 6 _).own hp hb 7 _).own hp hb 8 _).own hp hb 9 _).own hp hb 10 _).own hp hb 11 _).own hp hb 12 _).own hp hb 13 _).own hp hb 14 _)
theorem ps_put15 {tb cap a d : Nat} {ts : List Tok} (h : Ps w pb tb cap ts a d) (hb : pb < b) (x0 x1 x2 x3 x4 x5 x6 x7 x8 x9 x10 x11 x12 x13 x14 : Value) : Ps (put15 w b x0 x1 x2 x3 x4 x5 x6 x7 x8 x9 x10 x11 x12 x13 x14) pb tb cap ts a d := (((((((((((((((h.other hb 0 _).other hb 1 _).other hb 2 _).other hb 3 _).other hb 4 _).other hb 5 _).other hb 6 _).other hb 7 _).other hb 8 _).other hb 9 _).other hb 10 _).other hb 11 _).other hb 12 _).other hb 13 _).other hb 14 _)
theorem below_put15 {B : Nat} {u : World} (h : Below B u w) (hb : B <= b) (x0 x1 x2 x3 x4 x5 x6 x7 x8 x9 x10 x11 x12 x13 x14 : Value) : Below B u (put15 w b x0 x1 x2 x3 x4 x5 x6 x7 x8 x9 x10 x11 x12 x13 x14) := (((((((((((((((h.setCell hb _).setCell hb _).setCell hb _).setCell hb _).setCell hb _).setCell hb _).setCell hb _).setCell hb _).setCell hb _).setCell hb _).setCell hb _).setCell hb _).setCell hb _).setCell hb _).setCell hb _)
theorem box15 (h : w.heap[b]? = some (.cells #[y0, y1, y2, y3, y4, y5, y6, y7, y8, y9, y10, y11, y12, y13, y14] t)) : (w.cell? ⟨b, 0, none⟩ = some y0 /\ w.cell? ⟨b, 1, none⟩ = some y1 /\ w.cell? ⟨b, 2, none⟩ = some y2 /\ w.cell? ⟨b, 3, none⟩ = some y3 /\ w.cell? ⟨b, 4, none⟩ = some y4 /\ w.cell? ⟨b, 5, none⟩ = some y5 /\ w.cell? ⟨b, 6, none⟩ = some y6 /\ w.cell? ⟨b, 7, none⟩ = some y7 /\ w.cell? ⟨b, 8, none⟩ = some y8 /\ w.cell? ⟨b, 9, none⟩ = some y9 /\ w.cell? ⟨b, 10, none⟩ = some y10 /\ w.cell? ⟨b, 11, none⟩ = some y11 /\ w.cell? ⟨b, 12, none⟩ = some y12 /\ w.cell? ⟨b, 13, none⟩ = some y13 /\ w.cell? ⟨b, 14, none⟩ = some y14) /\ (w.frozen? ⟨b, 0, none⟩ = false /\ w.frozen? ⟨b, 1, none⟩ = false /\ w.frozen? ⟨b, 2, none⟩ = false /\ w.frozen? ⟨b, 3, none⟩ = false /\ w.frozen? ⟨b, 4, none⟩ = false /\ w.frozen? ⟨b, 5, none⟩ = false /\ w.frozen? ⟨b, 6, none⟩ = false /\ w.frozen? ⟨b, 7, none⟩ = false /\ w.frozen? ⟨b, 8, none⟩ = false /\ w.frozen? ⟨b, 9, none⟩ = false /\ w.frozen? ⟨b, 10, none⟩ = false /\ w.frozen? ⟨b, 11, none⟩ = false /\ w.frozen? ⟨b, 12, none⟩ = false /\ w.frozen? ⟨b, 13, none⟩ = false /\ w.frozen? ⟨b, 14, none⟩ = false) /\ b < w.heap.size := by
  refine ⟨⟨?_, ?_, ?_, ?_, ?_, ?_, ?_, ?_, ?_, ?_, ?_, ?_, ?_, ?_, ?_⟩, ⟨?_, ?_, ?_, ?_, ?_, ?_, ?_, ?_, ?_, ?_, ?_, ?_, ?_, ?_, ?_⟩, lt_of_block h⟩
  all_goals first | (rw [cell_of_row _ _ _ _ _ _ h]; rfl) | simp [World.frozen?, h]
end
/-- Variables in a row, as they are left. -/
def VarsF (lo : Nat) (w : World) (a : Option Addr) (vs : List (List UInt8 × Ty)) : Prop := vs = [] ∨ ∃ g, a = some ⟨g, 0, none⟩ /\ lo <= g /\ CleanB w g /\
    ∀ i (hi : i < vs.length), ∃ c : List Value, c.length = 5 /\ (∀ j, j < 5 -> w.cell? ⟨g, i * 5 + j, none⟩ = c[j]?) /\ VarC lo w c vs[i]
theorem varsF_lower {lo lo' : Nat} {w : World} {a : Option Addr} {vs : List (List UInt8 × Ty)} (h : VarsF lo w a vs) (hl : lo' <= lo) : VarsF lo' w a vs := by
  rcases h with h | ⟨g, e, hg, hc, hr⟩
  · exact .inl h
  · refine .inr ⟨g, e, Nat.le_trans hl hg, hc, fun i hi => ?_⟩
    obtain ⟨c, h1, h2, h3⟩ := hr i hi
    exact ⟨c, h1, h2, varC_k.lower h3 hl⟩
theorem varsF_keep {lo : Nat} {w w' : World} {a : Option Addr} {vs : List (List UInt8 × Ty)} (h : VarsF lo w a vs) (hs : w.heap.size <= w'.heap.size) (hk : ∀ b, lo <= b -> b < w.heap.size -> w'.heap[b]? = w.heap[b]?) : VarsF lo w' a vs := by
  rcases h with h | ⟨g, e, hg, hc, hr⟩
  · exact .inl h
  · obtain ⟨cs, ty, hh⟩ := hc
    have hgk := hk g hg (lt_of_block hh)
    refine .inr ⟨g, e, hg, ⟨cs, ty, hgk.trans hh⟩, fun i hi => ?_⟩
    obtain ⟨c, h1, h2, h3⟩ := hr i hi
    refine ⟨c, h1, fun j hj => ?_, varC_k.keep h3 hs hk⟩
    have := h2 j hj
    unfold World.cell? at this ⊢
    simp only at this ⊢
    rw [hgk]
    exact this
theorem varsE_f {lo : Nat} {w : World} {v : Value} {vs : List (List UInt8 × Ty)} (h : VarsE lo w v vs) : ∃ a cap, v = .slice a vs.length cap /\ vs.length <= cap /\ VarsF lo w a vs := by
  obtain ⟨cs, h⟩ := h
  obtain ⟨a, cap, e, hc, hr⟩ := h.form varC_k
  exact ⟨a, cap, e, hc, hr⟩
theorem behind_no {ts : List Tok} {K : Nat -> Pr Ty} {s : List UInt8} {a b : Nat} {t : Ty} (h : behindA ts K s a = .inl ((t, false), b)) : t = mkT 0 [] [] [] := by
  unfold behindA at h
  split at h
  · cases hk : K (a + 1) with
    | inr e => rw [hk] at h; cases h
    | inl p => rw [hk] at h; injection h with h; injection h with h _; injection h with _ h; cases h
  · injection h with h
    injection h with h _
    injection h with h _
    exact h.symm
theorem declA_eq (ts : List Tok) (a : Nat) : declA ts a =
    (wantA ts (if seesA ts a [101, 120, 112, 111, 114, 116] then a + 1 else a) [102, 110]).go fun _ b => (nameA ts b).go fun s b => (varsA ts (kindA ts ts.length 101 0) ts.length b).go fun vs b => (paramA ts (kindA ts ts.length 101 0) b).go fun h b => (behindA ts (kindA ts ts.length 101 0) [58] b).go fun y b => (wantA ts b [61]).go fun _ b => (deepA ts ts.length 101 false 0 b).go fun x b => (wantA ts b [59]).go fun _ b =>
      .inl (mkD s (seesA ts a [101, 120, 112, 111, 114, 116]) vs h.1 [h.2, y.1] x (lineA ts (if seesA ts a [101, 120, 112, 111, 114, 116] then a + 1 else a)) (colA ts (if seesA ts a [101, 120, 112, 111, 114, 116] then a + 1 else a)), b) := by
  unfold declA
  simp only
  congr 1
  funext _ b
  congr 1
  funext s b
  congr 1
  funext vs b
  rw [<- head_eq]
  congr 1
  funext h b
  cases hb : behindA ts (kindA ts ts.length 101 0) [58] b with
  | inr e => rfl
  | inl p =>
    obtain ⟨⟨y, q⟩, c⟩ := p
    cases q with
    | false => rw [behind_no hb]; rfl
    | true => rfl
end Go.Proofs.YtgblonhfidoleaaDoor
