/- Part. -/
import Derived.Deep.Cut
import Derived.Deep.CutRange
import Derived.Test.YtlhmofphpfdjlaaGreatDoorPart26
set_option maxRecDepth 100000
set_option maxHeartbeats 4000000
/- let. -/
namespace Go.Proofs.YtlhmofphpfdjlaaGreatDoor
open Go.Proofs.Tryz
open Go.RowKit
attribute [local go_sem ↓] Go.wp_at_zero Go.wp_at_succ
theorem Ctx.reset {pb tb cap d b nb o : Nat} {u : Value} {ob : Obj} {ts : List Tok} {w0 w : World} {bx bx' : List (Nat × Obj)} {ns : List (NV × Ty)} {tys : List (Value × Ty)} (h : Ctx pb tb cap d ts w0 w b bx ns tys) (hnb : w0.heap.size < nb) (hn : (w.setCell ⟨nb, o, none⟩ u).heap[nb]? = some ob) (hb : ∀ p ∈ bx', (p = (nb, ob) ∨ (p ∈ bx /\ p.1 ≠ nb))) : Ctx pb tb cap d ts w0 (w.setCell ⟨nb, o, none⟩ u) b bx' [] [] where
  st := h.st.own h.hp (by omega) o u
  ps := h.ps.other (by have := h.hp; omega) o u
  hp := h.hp
  sz := by rw [size_set]; exact h.sz
  has := fun p hp => by
    rcases hb p hp with rfl | ⟨h1, h2⟩
    · exact ⟨hn, by have := h.hp; show pb < nb; omega⟩
    · exact ⟨(Below.heap_setCell _ _ _ _ h2).trans (h.has p h1).1, (h.has p h1).2⟩
  nds := (fun _ h => nomatch h)
  tys := (fun _ h => nomatch h)
theorem Ctx.less {pb tb cap d b : Nat} {ts : List Tok} {w0 w : World} {bx bx' : List (Nat × Obj)} {ns : List (NV × Ty)} {tys : List (Value × Ty)} (h : Ctx pb tb cap d ts w0 w b bx ns tys) (hb : ∀ p ∈ bx', p ∈ bx) : Ctx pb tb cap d ts w0 w b bx' ns tys := ⟨h.st, h.ps, h.hp, h.sz, fun p hp => h.has p (hb p hp), h.nds, h.tys⟩
abbrev letNV (t : Tok) (s : List UInt8) (ta : Option Addr) (tl tc : Nat) (ka : Option Addr) (kl kc : Nat) : NV := ⟨5, ⟨s.toArray⟩, 0, t.line, t.col, ta, tl, tc, none, 0, 0, ka, kl, kc⟩
/-- What the let's own box will name: its types, and expressions. -/
structure LetV (lo : Nat) (w : World) (ta : Option Addr) (tys : List Ty) (ns : List (NV × Ty)) : Prop where
  kd : ∃ m, KidsF w lo m ta tys
  nd : ∀ p ∈ ns, NdV lo w p.1 p.2
section
variable {lo pb b : Nat} {w w' : World} {ta : Option Addr} {tys : List Ty} {ns : List (NV × Ty)} {x : NV} {D : Ty}
theorem LetV.keep (h : LetV lo w ta tys ns) (hs : w.heap.size <= w'.heap.size) (hk : ∀ b, lo <= b -> b < w.heap.size -> w'.heap[b]? = w.heap[b]?) : LetV lo w' ta tys ns := by
  obtain ⟨m, h1⟩ := h.kd
  exact ⟨⟨m, kidsF_keep h1 hs hk⟩, fun p hp => (h.nd p hp).keep hs hk⟩
theorem LetV.stay (h : LetV lo w ta tys ns) (hs : Stay pb w w') (hp : pb < lo) : LetV lo w' ta tys ns := h.keep hs.size fun b hb hl => hs.keep b (by omega) hl
theorem LetV.below (h : LetV lo w ta tys ns) (hb : Below w.heap.size w w') : LetV lo w' ta tys ns := h.keep hb.size fun b _ hl => hb.block b hl
theorem LetV.alloc (h : LetV lo w ta tys ns) (o : Obj) : LetV lo (w.alloc o) ta tys ns := h.below (bl_alloc _ _)
theorem LetV.set1 (h : LetV lo w ta tys ns) (hb : b < lo) (o : Nat) (u : Value) : LetV lo (w.setCell ⟨b, o, none⟩ u) ta tys ns := h.keep (by rw [size_set]; exact Nat.le_refl _) fun i hi _ => Below.heap_setCell _ _ _ _ (by show i ≠ b; omega)
theorem LetV.put8 (h : LetV lo w ta tys ns) (hb : b < lo) (y : NV) : LetV lo (put8 w b y) ta tys ns := h.keep (by rw [put8_size]; exact Nat.le_refl _) fun i hi _ => put8_other (by omega)
theorem LetV.add (h : LetV lo w ta tys ns) (hx : NdV lo w x D) : LetV lo w ta tys ((x, D) :: ns) := ⟨h.kd, fun p hp => by
  rcases List.mem_cons.1 hp with rfl | hp
  · exact hx
  · exact h.nd p hp⟩
end
theorem box8e {W : World} {m n : Nat} {x : NV} (h : W.heap[m]? = some x.obj) (e : m = n) : Box8 W n x := by
  subst e
  exact box8 h
theorem let_c (pb tb cap d : Nat) (ts : List Tok) (K E : Nat -> Pr Ty) (hK : Reads pb tb cap d ts TyE 17 K) (hE : Reads pb tb cap d ts NdE 12 E) (ok : ToksOk ts) (a : Nat) (w : World) (h : Ps w pb tb cap ts a d) :
    Calls prog 54 #[.pointer (some ⟨pb, 0, none⟩)] w (PPost pb tb cap ts d w NdE ((wantA ts a [108, 101, 116]).go fun _ b => (nameA ts b).go fun s b => (behindA ts K [58] b).go fun y b => (wantA ts b [61]).go fun _ b => (E b).go fun v b => (wantA ts b [59]).go fun _ b => (E b).go fun r b => .inl (mkE 5 s 0 (tkA ts a).line (tkA ts a).col (if y.2 then [y.1] else []) [] [v, r], b))) := by
  have H := hideP h
  have OK := hideP ok
  have hp := h.ltp
  have HE1 := hideP hE
  have HK1 := hideP hK
  have HM0 := hideP (fun w h => must_c pb tb cap a d ts [108, 101, 116] w h ok)
  obtain ⟨t, ht⟩ : ∃ t, t = tkA ts a := ⟨_, rfl⟩
  rw [<- ht] at HM0 ⊢
  clear ht
  have C0 := hideP (ctx_init h zNV.obj)
  obtain ⟨R, hR⟩ : ∃ R : Pr Ty, R = ((wantA ts a [108, 101, 116]).go fun _ b => (nameA ts b).go fun s b => (behindA ts K [58] b).go fun y b => (wantA ts b [61]).go fun _ b => (E b).go fun v b => (wantA ts b [59]).go fun _ b => (E b).go fun r b => .inl (mkE 5 s 0 t.line t.col (if y.2 then [y.1] else []) [] [v, r], b)) := ⟨_, rfl⟩
  rw [<- hR]
  have HR0 := hideP hR
  clear h ok hR hE hK
  go_enter func54, ntmps54
  go_wp2_with fail
  refine (HM0.out _ C0.out.ps).mono ?_
  intro e w1 hpost
  rcases ppost_or hpost with ⟨er, li, co, hr, rfl, hst⟩ | ⟨u, b1, v, hr, rfl, hst, hps, hv⟩
  · have HE : Hid (R = .inr (er, li, co)) := by rw [HR0.out, hr]; exact rfl
    have HF := hideP (C0.out.st.trans hst)
    clear hr hst hpost
    go_wp2_with fail
    exact ⟨rfl, HF.out, by rw [HE.out]⟩
  have HR1 : Hid (R = (nameA ts b1).go fun s b => (behindA ts K [58] b).go fun y b => (wantA ts b [61]).go fun _ b => (E b).go fun v b => (wantA ts b [59]).go fun _ b => (E b).go fun r b => .inl (mkE 5 s 0 t.line t.col (if y.2 then [y.1] else []) [] [v, r], b)) := by rw [HR0.out, hr]; exact rfl
  subst hv
  have C1 := hideP ((C0.out.step hst hps))
  have C2 := hideP (C1.out.alloc (TOKO t))
  clear hr hst hps hpost  
  obtain ⟨⟨k0, k1, k2, k3⟩, _, hk1⟩ := res_facts C2.out.b0
  go_wp2_with fail
  have hS0 : (((w1.alloc (TOKO t)).drew).cell? ⟨w1.heap.size, 0, none⟩ = some (.int .i64 t.kind) /\ ((w1.alloc (TOKO t)).drew).cell? ⟨w1.heap.size, 1, none⟩ = some (.string ⟨t.text.toArray⟩) /\ ((w1.alloc (TOKO t)).drew).cell? ⟨w1.heap.size, 2, none⟩ = some (.int .i64 t.line) /\ ((w1.alloc (TOKO t)).drew).cell? ⟨w1.heap.size, 3, none⟩ = some (.int .i64 t.col)) := tokB C2.out.b0
  have HS00 : Hid (∀ o, ((((w1.alloc (TOKO t)).alloc o).drew).cell? ⟨w1.heap.size, 0, none⟩ = some (.int .i64 t.kind) /\ (((w1.alloc (TOKO t)).alloc o).drew).cell? ⟨w1.heap.size, 1, none⟩ = some (.string ⟨t.text.toArray⟩) /\ (((w1.alloc (TOKO t)).alloc o).drew).cell? ⟨w1.heap.size, 2, none⟩ = some (.int .i64 t.line) /\ (((w1.alloc (TOKO t)).alloc o).drew).cell? ⟨w1.heap.size, 3, none⟩ = some (.int .i64 t.col))) := (fun o => tokB (C2.out.alloc o).drew.b1)
  have HC : Hid (∀ wa bx, Ctx pb tb cap d ts w wa b1 bx [] [] -> (w1.heap.size, TOKO t) ∈ bx -> Calls prog 62 #[.pointer (some ⟨pb, 0, none⟩)] wa fun e w9 => (∃ chain, e = .panicked chain /\ PPost pb tb cap ts d w NdE R e w9) ∨ ∃ (s : List UInt8) (b2 : Nat), e = .returned (.string ⟨s.toArray⟩) /\ ((w9.cell? ⟨w1.heap.size, 0, none⟩ = some (.int .i64 t.kind) /\ w9.cell? ⟨w1.heap.size, 1, none⟩ = some (.string ⟨t.text.toArray⟩) /\ w9.cell? ⟨w1.heap.size, 2, none⟩ = some (.int .i64 t.line) /\ w9.cell? ⟨w1.heap.size, 3, none⟩ = some (.int .i64 t.col))) /\ Hid (R = ((behindA ts K [58] b2).go fun y b => (wantA ts b [61]).go fun _ b => (E b).go fun v b => (wantA ts b [59]).go fun _ b => (E b).go fun r b => .inl (mkE 5 s 0 t.line t.col (if y.2 then [y.1] else []) [] [v, r], b)) /\ Ctx pb tb cap d ts w w9 b2 bx [] [])) := by
    intro wa bx CA m0
    refine (pname_c pb tb cap b1 d ts _ CA.ps OK.out).mono ?_
    intro e w9 hpost
    rcases ppost_or hpost with ⟨er, li, co, hr, rfl, hst⟩ | ⟨s, b2, v, hr, rfl, hst, hps, hv⟩
    · exact .inl ⟨_, rfl, CA.st.trans hst, by rw [HR1.out, hr]; rfl⟩
    subst hv
    have CN := CA.step hst hps
    exact .inr ⟨s, b2, rfl, tokB (CN.has _ m0).1, by rw [HR1.out, hr]; rfl, CN⟩
  have hnt0 : w1.heap.size ≠ w.heap.size := by have := C1.out.sz; omega
  have hsz1 := C1.out.sz
  go_wp2_with fail
  go_cut [4] from 12 (fun s4 wx => ∃ (nb : Nat) (s : List UInt8) (b2 : Nat), s4 = .pointer (some ⟨nb, 0, none⟩) /\ w.heap.size < nb /\ Hid (R = ((behindA ts K [58] b2).go fun y b => (wantA ts b [61]).go fun _ b => (E b).go fun v b => (wantA ts b [59]).go fun _ b => (E b).go fun r b => .inl (mkE 5 s 0 t.line t.col (if y.2 then [y.1] else []) [] [v, r], b)) /\ Ctx pb tb cap d ts w wx b2 [(nb, (leafNV 5 s 0 t).obj), (w.heap.size, zNV.obj)] [] []))
  case first =>
    go_region_held (fun W => (W.cell? ⟨w1.heap.size, 0, none⟩ = some (.int .i64 t.kind) /\ W.cell? ⟨w1.heap.size, 1, none⟩ = some (.string ⟨t.text.toArray⟩) /\ W.cell? ⟨w1.heap.size, 2, none⟩ = some (.int .i64 t.line) /\ W.cell? ⟨w1.heap.size, 3, none⟩ = some (.int .i64 t.col))) (first | with_reducible assumption | with_reducible exact HS00.out _ | with_reducible exact HS3.out _ | with_reducible exact HS6.out _ | with_reducible exact HS4a.out _ _ _ _ _ _ _ _ | with_reducible exact HS4b.out _ _ _ _ _ _ _ _) (first
      | (go_at_call 62; refine (HC.out _ _ (by first | exact C2.out.drew | exact (C2.out.alloc _).drew) (by simp)).mono ?_; rintro e w9 (⟨ch, rfl, hf⟩ | ⟨s, b2, rfl, t5, HX⟩); exact ⟨rfl, hf⟩; have HS3 : Hid (∀ o, (((w9.alloc o)).cell? ⟨w1.heap.size, 0, none⟩ = some (.int .i64 t.kind) /\ ((w9.alloc o)).cell? ⟨w1.heap.size, 1, none⟩ = some (.string ⟨t.text.toArray⟩) /\ ((w9.alloc o)).cell? ⟨w1.heap.size, 2, none⟩ = some (.int .i64 t.line) /\ ((w9.alloc o)).cell? ⟨w1.heap.size, 3, none⟩ = some (.int .i64 t.col))) := (fun o => tokB ((HX.out.2.alloc o).has (w1.heap.size, TOKO t) (by simp)).1))
      | (go_at_call 94; refine (placed_c t ⟨5, ⟨s.toArray⟩, 0, 0, 0, none, 0, 0, none, 0, 0, none, 0, 0⟩ _).mono ?_; rintro e w10 ⟨rfl, hb⟩; (first | have HX2 := hideP (HX.out.2.below hb) | have HX2 := hideP ((HX.out.2.alloc _).below hb)); have t6 : (w10.cell? ⟨w1.heap.size, 0, none⟩ = some (.int .i64 t.kind) /\ w10.cell? ⟨w1.heap.size, 1, none⟩ = some (.string ⟨t.text.toArray⟩) /\ w10.cell? ⟨w1.heap.size, 2, none⟩ = some (.int .i64 t.line) /\ w10.cell? ⟨w1.heap.size, 3, none⟩ = some (.int .i64 t.col)) := tokB (HX2.out.has (w1.heap.size, TOKO t) (by simp)).1; have HS6 : Hid (∀ o, (((w10.alloc o)).cell? ⟨w1.heap.size, 0, none⟩ = some (.int .i64 t.kind) /\ ((w10.alloc o)).cell? ⟨w1.heap.size, 1, none⟩ = some (.string ⟨t.text.toArray⟩) /\ ((w10.alloc o)).cell? ⟨w1.heap.size, 2, none⟩ = some (.int .i64 t.line) /\ ((w10.alloc o)).cell? ⟨w1.heap.size, 3, none⟩ = some (.int .i64 t.col))) := (fun o => tokB ((HX2.out.alloc o).has (w1.heap.size, TOKO t) (by simp)).1); have HS4a : Hid (∀ v0 v1 v2 v3 v4 v5 v6 v7, (((set8 w10 (w1.heap.size + 1) v0 v1 v2 v3 v4 v5 v6 v7)).cell? ⟨w1.heap.size, 0, none⟩ = some (.int .i64 t.kind) /\ ((set8 w10 (w1.heap.size + 1) v0 v1 v2 v3 v4 v5 v6 v7)).cell? ⟨w1.heap.size, 1, none⟩ = some (.string ⟨t.text.toArray⟩) /\ ((set8 w10 (w1.heap.size + 1) v0 v1 v2 v3 v4 v5 v6 v7)).cell? ⟨w1.heap.size, 2, none⟩ = some (.int .i64 t.line) /\ ((set8 w10 (w1.heap.size + 1) v0 v1 v2 v3 v4 v5 v6 v7)).cell? ⟨w1.heap.size, 3, none⟩ = some (.int .i64 t.col))) := (fun v0 v1 v2 v3 v4 v5 v6 v7 => tokB ((set8_other (by omega) v0 v1 v2 v3 v4 v5 v6 v7).trans (HX2.out.has (w1.heap.size, TOKO t) (by simp)).1)); have HL9 := hideP (lt_of_block (HX.out.2.has (w1.heap.size, TOKO t) (by simp)).1); have HS4b : Hid (∀ v0 v1 v2 v3 v4 v5 v6 v7, (((set8 w10 w9.heap.size v0 v1 v2 v3 v4 v5 v6 v7)).cell? ⟨w1.heap.size, 0, none⟩ = some (.int .i64 t.kind) /\ ((set8 w10 w9.heap.size v0 v1 v2 v3 v4 v5 v6 v7)).cell? ⟨w1.heap.size, 1, none⟩ = some (.string ⟨t.text.toArray⟩) /\ ((set8 w10 w9.heap.size v0 v1 v2 v3 v4 v5 v6 v7)).cell? ⟨w1.heap.size, 2, none⟩ = some (.int .i64 t.line) /\ ((set8 w10 w9.heap.size v0 v1 v2 v3 v4 v5 v6 v7)).cell? ⟨w1.heap.size, 3, none⟩ = some (.int .i64 t.col))) := (fun v0 v1 v2 v3 v4 v5 v6 v7 => tokB ((set8_other (by have := HL9.out; omega) v0 v1 v2 v3 v4 v5 v6 v7).trans (HX2.out.has (w1.heap.size, TOKO t) (by simp)).1)); (first | (have HB8 := hideP (box8e (x := zNV) (n := w1.heap.size + 1) HX2.out.b0 (World.size_alloc w1 (TOKO t))); obtain ⟨⟨r0, r1, r2, r3, r4, r5, r6, r7⟩, ⟨f0, f1, f2, f3, f4, f5, f6, f7⟩, hr1⟩ := HB8.out) | (have HB8 := hideP (box8e (x := zNV) (n := w9.heap.size) HX2.out.b0 (Eq.refl w9.heap.size)); obtain ⟨⟨r0, r1, r2, r3, r4, r5, r6, r7⟩, ⟨f0, f1, f2, f3, f4, f5, f6, f7⟩, hr1⟩ := HB8.out) | skip); clear hb))
    all_goals go_wp2_with fail
    all_goals go_meet
    · exact ⟨_, s, b2, rfl, HX2.out.sz, HX.out.1, (HX2.out.alloc (leafNV 5 s 0 t).obj).less (by intro p hp; rcases List.mem_cons.1 hp with rfl | hp; simp; rw [List.mem_singleton.1 hp]; simp)⟩
    · exact ⟨_, s, b2, rfl, HX.out.2.sz, HX.out.1, HX2.out.reput (bx' := [(w9.heap.size, (leafNV 5 s 0 t).obj), (w.heap.size, zNV.obj)]) (HX.out.2.sz) (leafNV 5 s 0 t) ⟨zNV, by simp⟩ (by intro p hp; rcases List.mem_cons.1 hp with rfl | hp; exact .inl rfl; rw [List.mem_singleton.1 hp]; exact .inr ⟨by simp, by show w.heap.size ≠ _; have := HX.out.2.sz; omega⟩)⟩
    · exact ⟨_, s, b2, rfl, (by omega), HX.out.1, HX2.out.reput (bx' := [(w1.heap.size + 1, (leafNV 5 s 0 t).obj), (w.heap.size, zNV.obj)]) (by omega) (leafNV 5 s 0 t) ⟨zNV, by simp⟩ (by intro p hp; rcases List.mem_cons.1 hp with rfl | hp; exact .inl rfl; rw [List.mem_singleton.1 hp]; exact .inr ⟨by simp, by show w.heap.size ≠ _; omega⟩)⟩
  case rest =>
    obtain ⟨nb, s, b2, rfl, hnb, HXc⟩ := hcut
    have HR2 := hideP HXc.out.1
    have C3 := hideP HXc.out.2
    clear HXc HC hS0 HS00 k0 k1 k2 k3
    have HnL := hideP (lt_of_block C3.out.b0)
    go_wp2_with fail
    refine (behind_c pb tb cap d ts [58] K HK1.out OK.out b2 _ C3.out.ps).mono ?_
    intro e w3 hpost
    rcases ppost_or hpost with ⟨er, li, co, hr, rfl, hst⟩ | ⟨y, b3, v, hr, rfl, hst, hps, hv⟩
    · have HE : Hid (R = .inr (er, li, co)) := by rw [HR2.out, hr]; exact rfl
      have HF := hideP (C3.out.st.trans hst)
      clear hr hst hpost
      go_wp2_with fail
      exact ⟨rfl, HF.out, by rw [HE.out]⟩
    have HR3 : Hid (R = (wantA ts b3 [61]).go fun _ b => (E b).go fun v b => (wantA ts b [59]).go fun _ b => (E b).go fun r b => .inl (mkE 5 s 0 t.line t.col (if y.2 then [y.1] else []) [] [v, r], b)) := by rw [HR2.out, hr]; exact rfl
    obtain ⟨DT, okb⟩ := y
    obtain ⟨u4, rfl, hv⟩ := hv
    obtain ⟨k4, nm4, na4, nl4, nc4, ka4, kl4, kc4, rfl⟩ := hv.cells
    have HVt := hideP hv
    have HSz3 := hideP hst.size
    have C4 := hideP ((C3.out.step hst hps))
    have C5 := hideP (C4.out.alloc (tyO k4 nm4 na4 nl4 nc4 ka4 kl4 kc4))
    clear hr hst hps hpost hv
    obtain ⟨lo, hlo⟩ : ∃ lo, lo = wc.heap.size := ⟨_, rfl⟩
    rw [<- hlo] at HVt HnL HSz3
    have HLo : Hid (w.heap.size + 1 <= lo) := by rw [hlo]; exact C3.out.sz
    clear hlo
    have hnl := HnL.out
    have hl1 := HLo.out
    cases okb with
    | false =>
      have HR4 : Hid (R = (wantA ts b3 [61]).go fun _ b => (E b).go fun v b => (wantA ts b [59]).go fun _ b => (E b).go fun r b => .inl (mkE 5 s 0 t.line t.col [] [] [v, r], b)) := HR3.out
      have HLv : Hid (LetV lo (w3.alloc (tyO k4 nm4 na4 nl4 nc4 ka4 kl4 kc4)) none [] []) := ⟨⟨0, .inl rfl⟩, (fun _ h => nomatch h)⟩
      have C6 := hideP (C5.out.less (bx' := [(nb, (letNV t s none 0 0 none 0 0).obj), (w.heap.size, zNV.obj)]) (by intro p hp; exact List.mem_cons_of_mem _ hp))
      have HSzA : Hid (lo <= (w3.alloc (tyO k4 nm4 na4 nl4 nc4 ka4 kl4 kc4)).heap.size) := by have := HSz3.out; show _ <= _; rw [World.size_alloc]; omega
      go_wp2_with fail
      refine (must_c pb tb cap b3 d ts [61] _ C6.out.ps OK.out).mono ?_
      intro e w4 hpost
      rcases ppost_or hpost with ⟨er, li, co, hr, rfl, hst⟩ | ⟨u4, b4, v4, hr, rfl, hst, hps, hv⟩
      · have HE : Hid (R = .inr (er, li, co)) := by rw [HR4.out, hr]; exact rfl
        have HF := hideP (C6.out.st.trans hst)
        clear hr hst hpost
        go_wp2_with fail
        exact ⟨rfl, HF.out, by rw [HE.out]⟩
      have HR5 : Hid (R = (E b4).go fun v b => (wantA ts b [59]).go fun _ b => (E b).go fun r b => .inl (mkE 5 s 0 t.line t.col [] [] [v, r], b)) := by rw [HR4.out, hr]; exact rfl
      have HLw := hideP (HLv.out.stay hst (by omega))
      have HSzB := hideP (Nat.le_trans HSzA.out hst.size)
      have C7 := hideP ((C6.out.step hst hps))
      clear hr hst hps hpost hv
      go_wp2_with fail
      refine (HE1.out.calls b4 _ C7.out.ps).mono ?_
      intro e w5 hpost
      rcases ppost_or hpost with ⟨er, li, co, hr, rfl, hst⟩ | ⟨D1, b5, v, hr, rfl, hst, hps, hv⟩
      · have HE : Hid (R = .inr (er, li, co)) := by rw [HR5.out, hr]; exact rfl
        have HF := hideP (C7.out.st.trans hst)
        clear hr hst hpost
        go_wp2_with fail
        exact ⟨rfl, HF.out, by rw [HE.out]⟩
      have HR6 : Hid (R = (wantA ts b5 [59]).go fun _ b => (E b).go fun r b => .inl (mkE 5 s 0 t.line t.col [] [] [D1, r], b)) := by rw [HR5.out, hr]; exact rfl
      obtain ⟨x1, rfl, hv⟩ := hv
      have HSzC := hideP hst.size
      have HLx := hideP (((HLw.out.stay hst (by omega)).add (hv.lower HSzB.out)).alloc x1.obj)
      have C8 := hideP ((C7.out.step hst hps))
      have C9 := hideP (C8.out.alloc (x1.obj))
      clear hr hst hps hpost hv
      go_wp2_with fail
      refine (must_c pb tb cap b5 d ts [59] _ C9.out.ps OK.out).mono ?_
      intro e w6 hpost
      rcases ppost_or hpost with ⟨er, li, co, hr, rfl, hst⟩ | ⟨u6, b6, v6, hr, rfl, hst, hps, hv⟩
      · have HE : Hid (R = .inr (er, li, co)) := by rw [HR6.out, hr]; exact rfl
        have HF := hideP (C9.out.st.trans hst)
        clear hr hst hpost
        go_wp2_with fail
        exact ⟨rfl, HF.out, by rw [HE.out]⟩
      have HR7 : Hid (R = (E b6).go fun r b => .inl (mkE 5 s 0 t.line t.col [] [] [D1, r], b)) := by rw [HR6.out, hr]; exact rfl
      have HLy := hideP (HLx.out.stay hst (by omega))
      have HSzD := hideP (Nat.le_trans (Nat.le_trans HSzB.out HSzC.out) (Nat.le_trans (by rw [World.size_alloc]; exact Nat.le_succ _) hst.size))
      have C10 := hideP ((C9.out.step hst hps))
      clear hr hst hps hpost hv
      obtain ⟨⟨n0, n1, n2, n3, n4, n5, n6, n7⟩, _, hn1⟩ := box8 (x := x1) C10.out.b0
      obtain ⟨⟨m0, m1, m2, m3, m4, m5, m6, m7⟩, ⟨g0, g1, g2, g3, g4, g5, g6, g7⟩, hm1⟩ := box8 (x := letNV t s (none) 0 0 none 0 0) C10.out.b1
      go_wp2_with fail
      have hnx : w5.heap.size ≠ nb := by have := HSzB.out; have := HSzC.out; omega
      have hS0 : ((w6.drew).cell? ⟨w5.heap.size, 0, none⟩ = some (.int .i64 x1.k) /\ (w6.drew).cell? ⟨w5.heap.size, 1, none⟩ = some (.string x1.tx) /\ (w6.drew).cell? ⟨w5.heap.size, 2, none⟩ = some (.int .i64 x1.N) /\ (w6.drew).cell? ⟨w5.heap.size, 3, none⟩ = some (.int .i64 x1.li) /\ (w6.drew).cell? ⟨w5.heap.size, 4, none⟩ = some (.int .i64 x1.co) /\ (w6.drew).cell? ⟨w5.heap.size, 5, none⟩ = some (.slice x1.ta x1.tl x1.tc) /\ (w6.drew).cell? ⟨w5.heap.size, 6, none⟩ = some (.slice x1.na x1.nl x1.nc) /\ (w6.drew).cell? ⟨w5.heap.size, 7, none⟩ = some (.slice x1.ka x1.kl x1.kc)) := (box8 (x := x1) C10.out.drew.b0).1
      have HC : Hid (Calls prog 12 #[.pointer (some ⟨pb, 0, none⟩)] w6.drew fun e w9 => (∃ chain, e = .panicked chain /\ PPost pb tb cap ts d w NdE R e w9) ∨ ∃ (y : NV) (D2 : Ty) (b7 : Nat), e = .returned y.val /\ ((w9.cell? ⟨w5.heap.size, 0, none⟩ = some (.int .i64 x1.k) /\ w9.cell? ⟨w5.heap.size, 1, none⟩ = some (.string x1.tx) /\ w9.cell? ⟨w5.heap.size, 2, none⟩ = some (.int .i64 x1.N) /\ w9.cell? ⟨w5.heap.size, 3, none⟩ = some (.int .i64 x1.li) /\ w9.cell? ⟨w5.heap.size, 4, none⟩ = some (.int .i64 x1.co) /\ w9.cell? ⟨w5.heap.size, 5, none⟩ = some (.slice x1.ta x1.tl x1.tc) /\ w9.cell? ⟨w5.heap.size, 6, none⟩ = some (.slice x1.na x1.nl x1.nc) /\ w9.cell? ⟨w5.heap.size, 7, none⟩ = some (.slice x1.ka x1.kl x1.kc))) /\ Box8 w9 nb (letNV t s (none) 0 0 none 0 0) /\ Hid (R = (.inl (mkE 5 s 0 t.line t.col [] [] [D1, D2], b7)) /\ Ctx pb tb cap d ts w w9 b7 [(w5.heap.size, x1.obj), (nb, (letNV t s (none) 0 0 none 0 0).obj), (w.heap.size, zNV.obj)] [] [] /\ LetV lo w9 (none) [] [(y, D2), (x1, D1)])) := by
        refine (HE1.out.calls b6 _ C10.out.drew.ps).mono ?_
        intro e w9 hpost
        rcases ppost_or hpost with ⟨er, li, co, hr, rfl, hst⟩ | ⟨D2, b7, v, hr, rfl, hst, hps, hv⟩
        · exact .inl ⟨_, rfl, C10.out.drew.st.trans hst, by rw [HR7.out, hr]; rfl⟩
        obtain ⟨y, rfl, hv⟩ := hv
        have CN := C10.out.drew.step hst hps
        exact .inr ⟨y, D2, b7, rfl, (box8 (x := x1) CN.b0).1, box8 (x := letNV t s (none) 0 0 none 0 0) CN.b1, by rw [HR7.out, hr]; rfl, CN, (HLy.out.stay hst.undrew (by omega)).add (hv.lower (by have := HSzD.out; show lo <= w6.heap.size; omega))⟩
      go_region_held (fun W => (W.cell? ⟨w5.heap.size, 0, none⟩ = some (.int .i64 x1.k) /\ W.cell? ⟨w5.heap.size, 1, none⟩ = some (.string x1.tx) /\ W.cell? ⟨w5.heap.size, 2, none⟩ = some (.int .i64 x1.N) /\ W.cell? ⟨w5.heap.size, 3, none⟩ = some (.int .i64 x1.li) /\ W.cell? ⟨w5.heap.size, 4, none⟩ = some (.int .i64 x1.co) /\ W.cell? ⟨w5.heap.size, 5, none⟩ = some (.slice x1.ta x1.tl x1.tc) /\ W.cell? ⟨w5.heap.size, 6, none⟩ = some (.slice x1.na x1.nl x1.nc) /\ W.cell? ⟨w5.heap.size, 7, none⟩ = some (.slice x1.ka x1.kl x1.kc))) (first | with_reducible assumption | with_reducible exact HS3.out _ | with_reducible exact HS7.out _ _) (first
        | (go_at_call 12; refine HC.out.mono ?_; rintro e w9 (⟨ch, rfl, hf⟩ | ⟨y, D2, b7, rfl, t5, t7, HX⟩); exact ⟨rfl, hf⟩; have HS3 : Hid (∀ o, (((w9.alloc o)).cell? ⟨w5.heap.size, 0, none⟩ = some (.int .i64 x1.k) /\ ((w9.alloc o)).cell? ⟨w5.heap.size, 1, none⟩ = some (.string x1.tx) /\ ((w9.alloc o)).cell? ⟨w5.heap.size, 2, none⟩ = some (.int .i64 x1.N) /\ ((w9.alloc o)).cell? ⟨w5.heap.size, 3, none⟩ = some (.int .i64 x1.li) /\ ((w9.alloc o)).cell? ⟨w5.heap.size, 4, none⟩ = some (.int .i64 x1.co) /\ ((w9.alloc o)).cell? ⟨w5.heap.size, 5, none⟩ = some (.slice x1.ta x1.tl x1.tc) /\ ((w9.alloc o)).cell? ⟨w5.heap.size, 6, none⟩ = some (.slice x1.na x1.nl x1.nc) /\ ((w9.alloc o)).cell? ⟨w5.heap.size, 7, none⟩ = some (.slice x1.ka x1.kl x1.kc))) := (fun o => (box8 (x := x1) (HX.out.2.1.alloc o).b1).1); have HS7 : Hid (∀ u o, ((((w9.setCell ⟨nb, 7, none⟩ u).alloc o)).cell? ⟨w5.heap.size, 0, none⟩ = some (.int .i64 x1.k) /\ (((w9.setCell ⟨nb, 7, none⟩ u).alloc o)).cell? ⟨w5.heap.size, 1, none⟩ = some (.string x1.tx) /\ (((w9.setCell ⟨nb, 7, none⟩ u).alloc o)).cell? ⟨w5.heap.size, 2, none⟩ = some (.int .i64 x1.N) /\ (((w9.setCell ⟨nb, 7, none⟩ u).alloc o)).cell? ⟨w5.heap.size, 3, none⟩ = some (.int .i64 x1.li) /\ (((w9.setCell ⟨nb, 7, none⟩ u).alloc o)).cell? ⟨w5.heap.size, 4, none⟩ = some (.int .i64 x1.co) /\ (((w9.setCell ⟨nb, 7, none⟩ u).alloc o)).cell? ⟨w5.heap.size, 5, none⟩ = some (.slice x1.ta x1.tl x1.tc) /\ (((w9.setCell ⟨nb, 7, none⟩ u).alloc o)).cell? ⟨w5.heap.size, 6, none⟩ = some (.slice x1.na x1.nl x1.nc) /\ (((w9.setCell ⟨nb, 7, none⟩ u).alloc o)).cell? ⟨w5.heap.size, 7, none⟩ = some (.slice x1.ka x1.kl x1.kc))) := (fun u o => (box8 (x := x1) ((Below.heap_alloc _ _ _ (by rw [size_set]; exact lt_of_block HX.out.2.1.b0)).trans ((Below.heap_setCell _ _ _ _ hnx).trans HX.out.2.1.b0))).1); obtain ⟨⟨q0, q1, q2, q3, q4, q5, q6, q7⟩, ⟨j0, j1, j2, j3, j4, j5, j6, j7⟩, hq1⟩ := t7; obtain ⟨⟨r0, r1, r2, r3, r4, r5, r6, r7⟩, ⟨f0, f1, f2, f3, f4, f5, f6, f7⟩, hr1⟩ := box8 (x := zNV) HX.out.2.1.b2))
      all_goals
        have hne1 : ¬ nb = w.heap.size := by omega
        have hne2 : ¬ w.heap.size = nb := by omega
        have hne3 : ¬ w9.heap.size = nb := by omega
        have hne4 : ¬ w9.heap.size = w.heap.size := by omega
        go_wp2_with fail
        rw [HX.out.1]
        have hrb : (w9.setCell ⟨nb, 7, none⟩ (.slice (some ⟨w9.heap.size, 0, none⟩) 2 2)).heap[w.heap.size]? = some zNV.obj := (Below.heap_setCell _ _ _ _ hne2).trans HX.out.2.1.b2
        refine bodyPost_ret (results_cell_row rfl _ _ w.heap.size 27 _ (0, 0) _ rfl ((Below.heap_alloc _ _ _ (show w.heap.size < (put8 (w9.setCell ⟨nb, 7, none⟩ (.slice (some ⟨w9.heap.size, 0, none⟩) 2 2)) w.heap.size (letNV t s (none) 0 0 (some ⟨w9.heap.size, 0, none⟩) 2 2)).heap.size by rw [put8_size, size_set]; exact hr1)).trans (put8_heap (x := letNV t s (none) 0 0 (some ⟨w9.heap.size, 0, none⟩) 2 2) hrb)) underlying27 rfl (by kernel_rfl)) rfl ⟨(stay_put8 (HX.out.2.1.st.own hp (by omega) 7 _) hp (Nat.le_refl _) (letNV t s (none) 0 0 (some ⟨w9.heap.size, 0, none⟩) 2 2)).alloc hp _, (ps_put8 (HX.out.2.1.ps.other (by omega) 7 _) hp (letNV t s (none) 0 0 (some ⟨w9.heap.size, 0, none⟩) 2 2)).alloc _, _, rfl, letNV t s (none) 0 0 (some ⟨w9.heap.size, 0, none⟩) 2 2, rfl, ?_⟩
        have hLv := (((HX.out.2.2.set1 hnl 7 (.slice (some ⟨w9.heap.size, 0, none⟩) 2 2)).put8 (b := w.heap.size) (by omega) (letNV t s (none) 0 0 (some ⟨w9.heap.size, 0, none⟩) 2 2)).alloc (.cells #[.int .i64 x1.k, .string x1.tx, .int .i64 x1.N, .int .i64 x1.li, .int .i64 x1.co, .slice x1.ta x1.tl x1.tc, .slice x1.na x1.nl x1.nc, .slice x1.ka x1.kl x1.kc, .int .i64 y.k, .string y.tx, .int .i64 y.N, .int .i64 y.li, .int .i64 y.co, .slice y.ta y.tl y.tc, .slice y.na y.nl y.nc, .slice y.ka y.kl y.kc] 27))
        have hk : ((put8 (w9.setCell ⟨nb, 7, none⟩ (.slice (some ⟨w9.heap.size, 0, none⟩) 2 2)) w.heap.size (letNV t s (none) 0 0 (some ⟨w9.heap.size, 0, none⟩) 2 2)).alloc (.cells #[.int .i64 x1.k, .string x1.tx, .int .i64 x1.N, .int .i64 x1.li, .int .i64 x1.co, .slice x1.ta x1.tl x1.tc, .slice x1.na x1.nl x1.nc, .slice x1.ka x1.kl x1.kc, .int .i64 y.k, .string y.tx, .int .i64 y.N, .int .i64 y.li, .int .i64 y.co, .slice y.ta y.tl y.tc, .slice y.na y.nl y.nc, .slice y.ka y.kl y.kc] 27)).heap[w9.heap.size]? = some (.cells #[.int .i64 x1.k, .string x1.tx, .int .i64 x1.N, .int .i64 x1.li, .int .i64 x1.co, .slice x1.ta x1.tl x1.tc, .slice x1.na x1.nl x1.nc, .slice x1.ka x1.kl x1.kc, .int .i64 y.k, .string y.tx, .int .i64 y.N, .int .i64 y.li, .int .i64 y.co, .slice y.ta y.tl y.tc, .slice y.na y.nl y.nc, .slice y.ka y.kl y.kc] 27) := by
          have := heap_alloc_last (put8 (w9.setCell ⟨nb, 7, none⟩ (.slice (some ⟨w9.heap.size, 0, none⟩) 2 2)) w.heap.size (letNV t s (none) 0 0 (some ⟨w9.heap.size, 0, none⟩) 2 2)) (.cells #[.int .i64 x1.k, .string x1.tx, .int .i64 x1.N, .int .i64 x1.li, .int .i64 x1.co, .slice x1.ta x1.tl x1.tc, .slice x1.na x1.nl x1.nc, .slice x1.ka x1.kl x1.kc, .int .i64 y.k, .string y.tx, .int .i64 y.N, .int .i64 y.li, .int .i64 y.co, .slice y.ta y.tl y.tc, .slice y.na y.nl y.nc, .slice y.ka y.kl y.kc] 27)
          rw [put8_size, size_set] at this
          exact this
        exact (ndV_two (hLv.nd (x1, D1) (by simp)) (hLv.nd (y, D2) (by simp)) hk (by have := lt_of_block HX.out.2.1.b0; have := HSzB.out; have := HSzC.out; omega) (letNV t s (none) 0 0 (some ⟨w9.heap.size, 0, none⟩) 2 2) [] [] ⟨rfl, rfl⟩ ⟨rfl, by simp, hLv.kd⟩ ⟨rfl, Nat.zero_le _, .inl rfl⟩).lower (by omega)
    | true =>
      have HR4 : Hid (R = (wantA ts b3 [61]).go fun _ b => (E b).go fun v b => (wantA ts b [59]).go fun _ b => (E b).go fun r b => .inl (mkE 5 s 0 t.line t.col [DT] [] [v, r], b)) := HR3.out
      obtain ⟨⟨q0, q1, q2, q3, q4, q5, q6, q7⟩, ⟨j0, j1, j2, j3, j4, j5, j6, j7⟩, hq1⟩ := box8 (x := leafNV 5 s 0 t) C4.out.b0
      have hz1 : (w3.setCell ⟨nb, 5, none⟩ (.slice (some ⟨w3.heap.size + 1, 0, none⟩) 1 1)).heap[nb]? = some (letNV t s (some ⟨w3.heap.size + 1, 0, none⟩) 1 1 none 0 0).obj := by
        have := cells_setCell (o := 5) (u := .slice (some ⟨w3.heap.size + 1, 0, none⟩) 1 1) C4.out.b0
        simpa using this
      have hrow : (((w3.setCell ⟨nb, 5, none⟩ (.slice (some ⟨w3.heap.size + 1, 0, none⟩) 1 1)).alloc (tyO k4 nm4 na4 nl4 nc4 ka4 kl4 kc4)).alloc (tyO k4 nm4 na4 nl4 nc4 ka4 kl4 kc4)).heap[w3.heap.size + 1]? = some (tyO k4 nm4 na4 nl4 nc4 ka4 kl4 kc4) := by
        have := heap_alloc_last ((w3.setCell ⟨nb, 5, none⟩ (.slice (some ⟨w3.heap.size + 1, 0, none⟩) 1 1)).alloc (tyO k4 nm4 na4 nl4 nc4 ka4 kl4 kc4)) (tyO k4 nm4 na4 nl4 nc4 ka4 kl4 kc4)
        rw [World.size_alloc, size_set] at this
        exact this
      have HSzA : Hid (lo <= (((w3.setCell ⟨nb, 5, none⟩ (.slice (some ⟨w3.heap.size + 1, 0, none⟩) 1 1)).alloc (tyO k4 nm4 na4 nl4 nc4 ka4 kl4 kc4)).alloc (tyO k4 nm4 na4 nl4 nc4 ka4 kl4 kc4)).heap.size) := by have := HSz3.out; show _ <= _; rw [World.size_alloc, World.size_alloc, size_set]; omega
      have HLv : Hid (LetV lo (((w3.setCell ⟨nb, 5, none⟩ (.slice (some ⟨w3.heap.size + 1, 0, none⟩) 1 1)).alloc (tyO k4 nm4 na4 nl4 nc4 ka4 kl4 kc4)).alloc (tyO k4 nm4 na4 nl4 nc4 ka4 kl4 kc4)) (some ⟨w3.heap.size + 1, 0, none⟩) [DT] []) := ⟨ty_one (((HVt.out.set1 hnl 5 _).alloc _).alloc _) hrow (by have := HSz3.out; omega), (fun _ h => nomatch h)⟩
      have C6 := hideP ((((C4.out.reset (bx' := [(nb, (letNV t s (some ⟨w3.heap.size + 1, 0, none⟩) 1 1 none 0 0).obj), (w.heap.size, zNV.obj)]) hnb hz1 (by intro p hp; rcases List.mem_cons.1 hp with rfl | hp; exact .inl rfl; rw [List.mem_singleton.1 hp]; exact .inr ⟨by simp, by show w.heap.size ≠ nb; omega⟩)).alloc (tyO k4 nm4 na4 nl4 nc4 ka4 kl4 kc4)).alloc (tyO k4 nm4 na4 nl4 nc4 ka4 kl4 kc4)).less (bx' := [(nb, (letNV t s (some ⟨w3.heap.size + 1, 0, none⟩) 1 1 none 0 0).obj), (w.heap.size, zNV.obj)]) (by intro p hp; exact List.mem_cons_of_mem _ (List.mem_cons_of_mem _ hp)))
      clear hz1 hrow
      go_wp2_with fail
      refine (must_c pb tb cap b3 d ts [61] _ C6.out.ps OK.out).mono ?_
      intro e w4 hpost
      rcases ppost_or hpost with ⟨er, li, co, hr, rfl, hst⟩ | ⟨u4, b4, v4, hr, rfl, hst, hps, hv⟩
      · have HE : Hid (R = .inr (er, li, co)) := by rw [HR4.out, hr]; exact rfl
        have HF := hideP (C6.out.st.trans hst)
        clear hr hst hpost
        go_wp2_with fail
        exact ⟨rfl, HF.out, by rw [HE.out]⟩
      have HR5 : Hid (R = (E b4).go fun v b => (wantA ts b [59]).go fun _ b => (E b).go fun r b => .inl (mkE 5 s 0 t.line t.col [DT] [] [v, r], b)) := by rw [HR4.out, hr]; exact rfl
      have HLw := hideP (HLv.out.stay hst (by omega))
      have HSzB := hideP (Nat.le_trans HSzA.out hst.size)
      have C7 := hideP ((C6.out.step hst hps))
      clear hr hst hps hpost hv
      go_wp2_with fail
      refine (HE1.out.calls b4 _ C7.out.ps).mono ?_
      intro e w5 hpost
      rcases ppost_or hpost with ⟨er, li, co, hr, rfl, hst⟩ | ⟨D1, b5, v, hr, rfl, hst, hps, hv⟩
      · have HE : Hid (R = .inr (er, li, co)) := by rw [HR5.out, hr]; exact rfl
        have HF := hideP (C7.out.st.trans hst)
        clear hr hst hpost
        go_wp2_with fail
        exact ⟨rfl, HF.out, by rw [HE.out]⟩
      have HR6 : Hid (R = (wantA ts b5 [59]).go fun _ b => (E b).go fun r b => .inl (mkE 5 s 0 t.line t.col [DT] [] [D1, r], b)) := by rw [HR5.out, hr]; exact rfl
      obtain ⟨x1, rfl, hv⟩ := hv
      have HSzC := hideP hst.size
      have HLx := hideP (((HLw.out.stay hst (by omega)).add (hv.lower HSzB.out)).alloc x1.obj)
      have C8 := hideP ((C7.out.step hst hps))
      have C9 := hideP (C8.out.alloc (x1.obj))
      clear hr hst hps hpost hv
      go_wp2_with fail
      refine (must_c pb tb cap b5 d ts [59] _ C9.out.ps OK.out).mono ?_
      intro e w6 hpost
      rcases ppost_or hpost with ⟨er, li, co, hr, rfl, hst⟩ | ⟨u6, b6, v6, hr, rfl, hst, hps, hv⟩
      · have HE : Hid (R = .inr (er, li, co)) := by rw [HR6.out, hr]; exact rfl
        have HF := hideP (C9.out.st.trans hst)
        clear hr hst hpost
        go_wp2_with fail
        exact ⟨rfl, HF.out, by rw [HE.out]⟩
      have HR7 : Hid (R = (E b6).go fun r b => .inl (mkE 5 s 0 t.line t.col [DT] [] [D1, r], b)) := by rw [HR6.out, hr]; exact rfl
      have HLy := hideP (HLx.out.stay hst (by omega))
      have HSzD := hideP (Nat.le_trans (Nat.le_trans HSzB.out HSzC.out) (Nat.le_trans (by rw [World.size_alloc]; exact Nat.le_succ _) hst.size))
      have C10 := hideP ((C9.out.step hst hps))
      clear hr hst hps hpost hv
      obtain ⟨⟨n0, n1, n2, n3, n4, n5, n6, n7⟩, _, hn1⟩ := box8 (x := x1) C10.out.b0
      obtain ⟨⟨m0, m1, m2, m3, m4, m5, m6, m7⟩, ⟨g0, g1, g2, g3, g4, g5, g6, g7⟩, hm1⟩ := box8 (x := letNV t s (some ⟨w3.heap.size + 1, 0, none⟩) 1 1 none 0 0) C10.out.b1
      go_wp2_with fail
      have hnx : w5.heap.size ≠ nb := by have := HSzB.out; have := HSzC.out; omega
      have hS0 : ((w6.drew).cell? ⟨w5.heap.size, 0, none⟩ = some (.int .i64 x1.k) /\ (w6.drew).cell? ⟨w5.heap.size, 1, none⟩ = some (.string x1.tx) /\ (w6.drew).cell? ⟨w5.heap.size, 2, none⟩ = some (.int .i64 x1.N) /\ (w6.drew).cell? ⟨w5.heap.size, 3, none⟩ = some (.int .i64 x1.li) /\ (w6.drew).cell? ⟨w5.heap.size, 4, none⟩ = some (.int .i64 x1.co) /\ (w6.drew).cell? ⟨w5.heap.size, 5, none⟩ = some (.slice x1.ta x1.tl x1.tc) /\ (w6.drew).cell? ⟨w5.heap.size, 6, none⟩ = some (.slice x1.na x1.nl x1.nc) /\ (w6.drew).cell? ⟨w5.heap.size, 7, none⟩ = some (.slice x1.ka x1.kl x1.kc)) := (box8 (x := x1) C10.out.drew.b0).1
      have HC : Hid (Calls prog 12 #[.pointer (some ⟨pb, 0, none⟩)] w6.drew fun e w9 => (∃ chain, e = .panicked chain /\ PPost pb tb cap ts d w NdE R e w9) ∨ ∃ (y : NV) (D2 : Ty) (b7 : Nat), e = .returned y.val /\ ((w9.cell? ⟨w5.heap.size, 0, none⟩ = some (.int .i64 x1.k) /\ w9.cell? ⟨w5.heap.size, 1, none⟩ = some (.string x1.tx) /\ w9.cell? ⟨w5.heap.size, 2, none⟩ = some (.int .i64 x1.N) /\ w9.cell? ⟨w5.heap.size, 3, none⟩ = some (.int .i64 x1.li) /\ w9.cell? ⟨w5.heap.size, 4, none⟩ = some (.int .i64 x1.co) /\ w9.cell? ⟨w5.heap.size, 5, none⟩ = some (.slice x1.ta x1.tl x1.tc) /\ w9.cell? ⟨w5.heap.size, 6, none⟩ = some (.slice x1.na x1.nl x1.nc) /\ w9.cell? ⟨w5.heap.size, 7, none⟩ = some (.slice x1.ka x1.kl x1.kc))) /\ Box8 w9 nb (letNV t s (some ⟨w3.heap.size + 1, 0, none⟩) 1 1 none 0 0) /\ Hid (R = (.inl (mkE 5 s 0 t.line t.col [DT] [] [D1, D2], b7)) /\ Ctx pb tb cap d ts w w9 b7 [(w5.heap.size, x1.obj), (nb, (letNV t s (some ⟨w3.heap.size + 1, 0, none⟩) 1 1 none 0 0).obj), (w.heap.size, zNV.obj)] [] [] /\ LetV lo w9 (some ⟨w3.heap.size + 1, 0, none⟩) [DT] [(y, D2), (x1, D1)])) := by
        refine (HE1.out.calls b6 _ C10.out.drew.ps).mono ?_
        intro e w9 hpost
        rcases ppost_or hpost with ⟨er, li, co, hr, rfl, hst⟩ | ⟨D2, b7, v, hr, rfl, hst, hps, hv⟩
        · exact .inl ⟨_, rfl, C10.out.drew.st.trans hst, by rw [HR7.out, hr]; rfl⟩
        obtain ⟨y, rfl, hv⟩ := hv
        have CN := C10.out.drew.step hst hps
        exact .inr ⟨y, D2, b7, rfl, (box8 (x := x1) CN.b0).1, box8 (x := letNV t s (some ⟨w3.heap.size + 1, 0, none⟩) 1 1 none 0 0) CN.b1, by rw [HR7.out, hr]; rfl, CN, (HLy.out.stay hst.undrew (by omega)).add (hv.lower (by have := HSzD.out; show lo <= w6.heap.size; omega))⟩
      go_region_held (fun W => (W.cell? ⟨w5.heap.size, 0, none⟩ = some (.int .i64 x1.k) /\ W.cell? ⟨w5.heap.size, 1, none⟩ = some (.string x1.tx) /\ W.cell? ⟨w5.heap.size, 2, none⟩ = some (.int .i64 x1.N) /\ W.cell? ⟨w5.heap.size, 3, none⟩ = some (.int .i64 x1.li) /\ W.cell? ⟨w5.heap.size, 4, none⟩ = some (.int .i64 x1.co) /\ W.cell? ⟨w5.heap.size, 5, none⟩ = some (.slice x1.ta x1.tl x1.tc) /\ W.cell? ⟨w5.heap.size, 6, none⟩ = some (.slice x1.na x1.nl x1.nc) /\ W.cell? ⟨w5.heap.size, 7, none⟩ = some (.slice x1.ka x1.kl x1.kc))) (first | with_reducible assumption | with_reducible exact HS3.out _ | with_reducible exact HS7.out _ _) (first
        | (go_at_call 12; refine HC.out.mono ?_; rintro e w9 (⟨ch, rfl, hf⟩ | ⟨y, D2, b7, rfl, t5, t7, HX⟩); exact ⟨rfl, hf⟩; have HS3 : Hid (∀ o, (((w9.alloc o)).cell? ⟨w5.heap.size, 0, none⟩ = some (.int .i64 x1.k) /\ ((w9.alloc o)).cell? ⟨w5.heap.size, 1, none⟩ = some (.string x1.tx) /\ ((w9.alloc o)).cell? ⟨w5.heap.size, 2, none⟩ = some (.int .i64 x1.N) /\ ((w9.alloc o)).cell? ⟨w5.heap.size, 3, none⟩ = some (.int .i64 x1.li) /\ ((w9.alloc o)).cell? ⟨w5.heap.size, 4, none⟩ = some (.int .i64 x1.co) /\ ((w9.alloc o)).cell? ⟨w5.heap.size, 5, none⟩ = some (.slice x1.ta x1.tl x1.tc) /\ ((w9.alloc o)).cell? ⟨w5.heap.size, 6, none⟩ = some (.slice x1.na x1.nl x1.nc) /\ ((w9.alloc o)).cell? ⟨w5.heap.size, 7, none⟩ = some (.slice x1.ka x1.kl x1.kc))) := (fun o => (box8 (x := x1) (HX.out.2.1.alloc o).b1).1); have HS7 : Hid (∀ u o, ((((w9.setCell ⟨nb, 7, none⟩ u).alloc o)).cell? ⟨w5.heap.size, 0, none⟩ = some (.int .i64 x1.k) /\ (((w9.setCell ⟨nb, 7, none⟩ u).alloc o)).cell? ⟨w5.heap.size, 1, none⟩ = some (.string x1.tx) /\ (((w9.setCell ⟨nb, 7, none⟩ u).alloc o)).cell? ⟨w5.heap.size, 2, none⟩ = some (.int .i64 x1.N) /\ (((w9.setCell ⟨nb, 7, none⟩ u).alloc o)).cell? ⟨w5.heap.size, 3, none⟩ = some (.int .i64 x1.li) /\ (((w9.setCell ⟨nb, 7, none⟩ u).alloc o)).cell? ⟨w5.heap.size, 4, none⟩ = some (.int .i64 x1.co) /\ (((w9.setCell ⟨nb, 7, none⟩ u).alloc o)).cell? ⟨w5.heap.size, 5, none⟩ = some (.slice x1.ta x1.tl x1.tc) /\ (((w9.setCell ⟨nb, 7, none⟩ u).alloc o)).cell? ⟨w5.heap.size, 6, none⟩ = some (.slice x1.na x1.nl x1.nc) /\ (((w9.setCell ⟨nb, 7, none⟩ u).alloc o)).cell? ⟨w5.heap.size, 7, none⟩ = some (.slice x1.ka x1.kl x1.kc))) := (fun u o => (box8 (x := x1) ((Below.heap_alloc _ _ _ (by rw [size_set]; exact lt_of_block HX.out.2.1.b0)).trans ((Below.heap_setCell _ _ _ _ hnx).trans HX.out.2.1.b0))).1); obtain ⟨⟨q0, q1, q2, q3, q4, q5, q6, q7⟩, ⟨j0, j1, j2, j3, j4, j5, j6, j7⟩, hq1⟩ := t7; obtain ⟨⟨r0, r1, r2, r3, r4, r5, r6, r7⟩, ⟨f0, f1, f2, f3, f4, f5, f6, f7⟩, hr1⟩ := box8 (x := zNV) HX.out.2.1.b2))
      all_goals
        have hne1 : ¬ nb = w.heap.size := by omega
        have hne2 : ¬ w.heap.size = nb := by omega
        have hne3 : ¬ w9.heap.size = nb := by omega
        have hne4 : ¬ w9.heap.size = w.heap.size := by omega
        go_wp2_with fail
        rw [HX.out.1]
        have hrb : (w9.setCell ⟨nb, 7, none⟩ (.slice (some ⟨w9.heap.size, 0, none⟩) 2 2)).heap[w.heap.size]? = some zNV.obj := (Below.heap_setCell _ _ _ _ hne2).trans HX.out.2.1.b2
        refine bodyPost_ret (results_cell_row rfl _ _ w.heap.size 27 _ (0, 0) _ rfl ((Below.heap_alloc _ _ _ (show w.heap.size < (put8 (w9.setCell ⟨nb, 7, none⟩ (.slice (some ⟨w9.heap.size, 0, none⟩) 2 2)) w.heap.size (letNV t s (some ⟨w3.heap.size + 1, 0, none⟩) 1 1 (some ⟨w9.heap.size, 0, none⟩) 2 2)).heap.size by rw [put8_size, size_set]; exact hr1)).trans (put8_heap (x := letNV t s (some ⟨w3.heap.size + 1, 0, none⟩) 1 1 (some ⟨w9.heap.size, 0, none⟩) 2 2) hrb)) underlying27 rfl (by kernel_rfl)) rfl ⟨(stay_put8 (HX.out.2.1.st.own hp (by omega) 7 _) hp (Nat.le_refl _) (letNV t s (some ⟨w3.heap.size + 1, 0, none⟩) 1 1 (some ⟨w9.heap.size, 0, none⟩) 2 2)).alloc hp _, (ps_put8 (HX.out.2.1.ps.other (by omega) 7 _) hp (letNV t s (some ⟨w3.heap.size + 1, 0, none⟩) 1 1 (some ⟨w9.heap.size, 0, none⟩) 2 2)).alloc _, _, rfl, letNV t s (some ⟨w3.heap.size + 1, 0, none⟩) 1 1 (some ⟨w9.heap.size, 0, none⟩) 2 2, rfl, ?_⟩
        have hLv := (((HX.out.2.2.set1 hnl 7 (.slice (some ⟨w9.heap.size, 0, none⟩) 2 2)).put8 (b := w.heap.size) (by omega) (letNV t s (some ⟨w3.heap.size + 1, 0, none⟩) 1 1 (some ⟨w9.heap.size, 0, none⟩) 2 2)).alloc (.cells #[.int .i64 x1.k, .string x1.tx, .int .i64 x1.N, .int .i64 x1.li, .int .i64 x1.co, .slice x1.ta x1.tl x1.tc, .slice x1.na x1.nl x1.nc, .slice x1.ka x1.kl x1.kc, .int .i64 y.k, .string y.tx, .int .i64 y.N, .int .i64 y.li, .int .i64 y.co, .slice y.ta y.tl y.tc, .slice y.na y.nl y.nc, .slice y.ka y.kl y.kc] 27))
        have hk : ((put8 (w9.setCell ⟨nb, 7, none⟩ (.slice (some ⟨w9.heap.size, 0, none⟩) 2 2)) w.heap.size (letNV t s (some ⟨w3.heap.size + 1, 0, none⟩) 1 1 (some ⟨w9.heap.size, 0, none⟩) 2 2)).alloc (.cells #[.int .i64 x1.k, .string x1.tx, .int .i64 x1.N, .int .i64 x1.li, .int .i64 x1.co, .slice x1.ta x1.tl x1.tc, .slice x1.na x1.nl x1.nc, .slice x1.ka x1.kl x1.kc, .int .i64 y.k, .string y.tx, .int .i64 y.N, .int .i64 y.li, .int .i64 y.co, .slice y.ta y.tl y.tc, .slice y.na y.nl y.nc, .slice y.ka y.kl y.kc] 27)).heap[w9.heap.size]? = some (.cells #[.int .i64 x1.k, .string x1.tx, .int .i64 x1.N, .int .i64 x1.li, .int .i64 x1.co, .slice x1.ta x1.tl x1.tc, .slice x1.na x1.nl x1.nc, .slice x1.ka x1.kl x1.kc, .int .i64 y.k, .string y.tx, .int .i64 y.N, .int .i64 y.li, .int .i64 y.co, .slice y.ta y.tl y.tc, .slice y.na y.nl y.nc, .slice y.ka y.kl y.kc] 27) := by
          have := heap_alloc_last (put8 (w9.setCell ⟨nb, 7, none⟩ (.slice (some ⟨w9.heap.size, 0, none⟩) 2 2)) w.heap.size (letNV t s (some ⟨w3.heap.size + 1, 0, none⟩) 1 1 (some ⟨w9.heap.size, 0, none⟩) 2 2)) (.cells #[.int .i64 x1.k, .string x1.tx, .int .i64 x1.N, .int .i64 x1.li, .int .i64 x1.co, .slice x1.ta x1.tl x1.tc, .slice x1.na x1.nl x1.nc, .slice x1.ka x1.kl x1.kc, .int .i64 y.k, .string y.tx, .int .i64 y.N, .int .i64 y.li, .int .i64 y.co, .slice y.ta y.tl y.tc, .slice y.na y.nl y.nc, .slice y.ka y.kl y.kc] 27)
          rw [put8_size, size_set] at this
          exact this
        exact (ndV_two (hLv.nd (x1, D1) (by simp)) (hLv.nd (y, D2) (by simp)) hk (by have := lt_of_block HX.out.2.1.b0; have := HSzB.out; have := HSzC.out; omega) (letNV t s (some ⟨w3.heap.size + 1, 0, none⟩) 1 1 (some ⟨w9.heap.size, 0, none⟩) 2 2) [DT] [] ⟨rfl, rfl⟩ ⟨rfl, by simp, hLv.kd⟩ ⟨rfl, Nat.zero_le _, .inl rfl⟩).lower (by omega)
end Go.Proofs.YtlhmofphpfdjlaaGreatDoor
