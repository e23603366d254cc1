/- Part. -/
import Derived.Test.YtlhmofphpfdjlaaGreatDoorPart25
set_option maxRecDepth 100000
set_option maxHeartbeats 4000000
/- What stands behind an atom. -/
namespace Go.Proofs.YtlhmofphpfdjlaaGreatDoor
open Go.Proofs.Tryz
open Go.RowKit
attribute [local go_sem ↓] Go.wp_at_zero Go.wp_at_succ
section
variable {w : World} {lo nb kb : Nat} {x y : NV} {D1 D2 : Ty}
theorem nodeX_two (h1 : NdX lo nb w x D1) (h2 : NdX lo nb w y D2) (hk : w.heap[kb]? = some (.cells #[.int .i64 x.k, .string x.tx, .int .i64 x.N, .int .i64 x.li, .int .i64 x.co, .slice x.ta x.tl x.tc, .slice x.na x.nl x.nc, .slice x.ka x.kl x.kc, .int .i64 y.k, .string y.tx, .int .i64 y.N, .int .i64 y.li, .int .i64 y.co, .slice y.ta y.tl y.tc, .slice y.na y.nl y.nc, .slice y.ka y.kl y.kc] 27)) (hlo : lo <= kb) (hnk : kb ≠ nb) (z : NV) (hz : z.ka = some ⟨kb, 0, none⟩ /\ z.kl = 2) (ht : z.tl = 0) (hn : z.nl = 0) : NdX lo nb w z (mkE z.k z.tx.data.toList z.N z.li z.co [] [] [D1, D2]) := fun o =>
  ndV_two (h1 o) (h2 o) ((withObj_other o hnk).trans hk) hlo z [] [] hz ⟨ht, Nat.zero_le _, 0, .inl rfl⟩ ⟨hn, Nat.zero_le _, .inl rfl⟩
theorem nodeX_one (h1 : NdX lo nb w x D1) (hk : w.heap[kb]? = some x.obj) (hlo : lo <= kb) (hnk : kb ≠ nb) (z : NV) (hz : z.ka = some ⟨kb, 0, none⟩ /\ z.kl = 1) (ht : z.tl = 0) (hn : z.nl = 0) : NdX lo nb w z (mkE z.k z.tx.data.toList z.N z.li z.co [] [] [D1]) := fun o =>
  ndV_one (h1 o) ((withObj_other o hnk).trans hk) hlo z [] [] hz ⟨ht, Nat.zero_le _, 0, .inl rfl⟩ ⟨hn, Nat.zero_le _, .inl rfl⟩
theorem NdX.drew (h : NdX lo nb w x D1) : NdX lo nb w.drew x D1 := fun o => (h o).keep (Nat.le_refl _) fun _ _ _ => rfl
end
/-- A box's content is another. -/
theorem Ctx.reput {pb tb cap d b nb : Nat} {ts : List Tok} {w0 w : World} {bx bx' : List (Nat × Obj)} {ns : List (NV × Ty)} {tys : List (Value × Ty)} (h : Ctx pb tb cap d ts w0 w b bx ns tys) (hnb : w0.heap.size < nb) (z : NV) (hn : ∃ y : NV, (nb, y.obj) ∈ bx) (hb : ∀ p ∈ bx', (p = (nb, z.obj) ∨ (p ∈ bx /\ p.1 ≠ nb))) : Ctx pb tb cap d ts w0 (put8 w nb z) b bx' [] [] where
  st := stay_put8 h.st h.hp (by omega) z
  ps := ps_put8 h.ps (by have := h.hp; omega) z
  hp := h.hp
  sz := by rw [put8_size]; exact h.sz
  has := fun p hp => by
    rcases hb p hp with rfl | ⟨h1, h2⟩
    · obtain ⟨y, hy⟩ := hn
      exact ⟨put8_heap (h.has _ hy).1, (h.has _ hy).2⟩
    · exact ⟨(put8_other h2).trans (h.has p h1).1, (h.has p h1).2⟩
  nds := (fun _ h => nomatch h)
  tys := (fun _ h => nomatch h)
theorem brackets_up {ts : List Tok} {E : Nat -> Pr Ty} {a c : Nat} {x : Ty} (hE : ∀ a x b, E a = .inl (x, b) -> a <= b) (h : ((wantA ts a [40]).go fun _ b => (E b).go fun x b => (wantA ts b [41]).go fun _ b => .inl (x, b)) = .inl (x, c)) : a + 1 <= c := by
  cases h1 : wantA ts a [40] with
  | inr e => rw [h1] at h; cases h
  | inl p =>
    obtain ⟨u, b⟩ := p
    have := want_up h1
    rw [h1, pr_inl] at h
    have hu : UpP b ((E b).go fun x b => (wantA ts b [41]).go fun _ b => .inl (x, b)) := up_go (up_at hE (Nat.le_refl _)) fun _ _ h1 => up_go (up_want h1 _) fun _ _ h2 => up_now h2 _
    have := hu _ _ h
    omega
/-- What stands behind an atom, one by one. -/
theorem post_call {ts : List Tok} {E : Nat -> Pr Ty} {f a : Nat} {x : Ty} (h : seesA ts a [40] = true) : postA ts E (f + 1) x a = ((wantA ts a [40]).go fun _ b => (E b).go fun y b => (wantA ts b [41]).go fun _ b => .inl (y, b)).go fun y b => postA ts E f (mkE 7 [] 0 (tkA ts a).line (tkA ts a).col [] [] [x, y]) b := by
  rw [postA, if_pos h]
  rw [show wantA ts a [40] = .inl ((), a + 1) by unfold wantA; rw [if_pos h], pr_inl]
  cases E (a + 1) with
  | inr e => rfl
  | inl p =>
    obtain ⟨y, b⟩ := p
    rw [pr_inl, pr_inl]
    cases wantA ts b [41] with
    | inr e => rfl
    | inl q => rfl
theorem post_sel {ts : List Tok} {E : Nat -> Pr Ty} {f a : Nat} {x : Ty} (h0 : seesA ts a [40] = false) (h : seesA ts a [46] = true) : postA ts E (f + 1) x a = (nameA ts (a + 1)).go fun s b => postA ts E f (mkE 9 s 0 (tkA ts a).line (tkA ts a).col [] [] [x]) b := by
  rw [postA, if_neg (by simp [h0]), if_pos h]
  rfl
theorem post_end {ts : List Tok} {E : Nat -> Pr Ty} {f a : Nat} {x : Ty} (h0 : seesA ts a [40] = false) (h : seesA ts a [46] = false) : postA ts E (f + 1) x a = .inl (x, a) := by
  rw [postA, if_neg (by simp [h0]), if_neg (by simp [h])]
theorem post_c (pb tb cap d : Nat) (ts : List Tok) (P : Nat -> Pr Ty) (hA : Reads pb tb cap d ts NdE 146 P) (E : Nat -> Pr Ty) (hE : Reads pb tb cap d ts NdE 12 E) (ok : ToksOk ts) (a : Nat) (w : World) (h : Ps w pb tb cap ts a d) :
    Calls prog 145 #[.pointer (some ⟨pb, 0, none⟩)] w (PPost pb tb cap ts d w NdE ((P a).go fun x b => postA ts E ts.length x b)) := by
  have H := hideP h
  have OK := hideP ok
  have hp := h.ltp
  have HA1 := hideP hA
  have HE1 := hideP hE
  have C0 := hideP (ctx_init h zNV.obj)
  obtain ⟨R, hR⟩ : ∃ R : Pr Ty, R = ((P a).go fun x b => postA ts E ts.length x b) := ⟨_, rfl⟩
  rw [<- hR]
  have HR0 := hideP hR
  clear h ok hR hA hE
  go_enter func145, ntmps145
  go_wp2_with fail
  refine (HA1.out.calls a _ C0.out.ps).mono ?_
  intro e w1 hpost
  rcases ppost_or hpost with ⟨er, li, co, hr, rfl, hst⟩ | ⟨D, b, v, hr, rfl, hst, hps, hv⟩
  · have HE : Hid (R = .inr (er, li, co)) := by rw [HR0.out, hr]; exact rfl
    have HF := hideP (C0.out.st.trans hst)
    clear hr hst hpost
    go_wp2_with fail
    exact ⟨rfl, HF.out, by rw [HE.out]⟩
  have HR1 : Hid (R = postA ts E ts.length D b) := by rw [HR0.out, hr]; exact rfl
  obtain ⟨x, rfl, hv⟩ := hv
  have HX0 := hideP (ndX_old (lo := w.heap.size + 1) (hv.lower C0.out.sz) x.obj)
  have C1 := hideP ((C0.out.step hst hps))
  have C2 := hideP (C1.out.alloc (x.obj))
  clear hr hst hps hpost hv
  obtain ⟨nb, hnb⟩ : ∃ nb, nb = w1.heap.size := ⟨_, rfl⟩
  have hb0 : w.heap.size < nb := by rw [hnb]; exact C1.out.sz
  rw [<- hnb] at C2 HX0
  go_wp2_with fail
  rw [<- hnb]
  clear hnb
  go_loopg [4] (ts.length - b) (fun gk _ wr => ∃ (b m : Nat) (x : NV) (D : Ty), Hid (Ctx pb tb cap d ts w wr b [(nb, x.obj), (w.heap.size, zNV.obj)] [] []) /\ Hid (NdX (w.heap.size + 1) nb wr x D) /\ Hid (R = postA ts E m D b) /\ Hid (ts.length <= b + m) /\ ts.length - b <= gk)
  case atStart => exact ⟨b, ts.length, x, D, C2, HX0, HR1, Nat.le_add_left _ _, Nat.le_refl _⟩
  case round =>
    clear C2 HX0 HR1 C1
    obtain ⟨b, m, x, D, C2, HX, HRp, HLe, hgk⟩ := hrel
    obtain ⟨m, rfl⟩ : ∃ q, m = q + 1 := ⟨m - 1, by have := HLe.out; have := C2.out.ps.lt; omega⟩
    have HPk := hideP (peek_c pb tb cap b d ts _ C2.out.ps)
    obtain ⟨t, ht⟩ : ∃ t, t = tkA ts b := ⟨_, rfl⟩
    rw [<- ht] at HPk
    have HTk := hideP ht
    clear ht
    have HnL : Hid (∀ wa, Ctx pb tb cap d ts w wa b [(nb, x.obj), (w.heap.size, zNV.obj)] [] [] -> nb < wa.heap.size) := fun wa ca => lt_of_block ca.b0
    go_wp2_with fail
    refine HPk.out.mono ?_
    rintro e w2 ⟨rfl, hb⟩
    have C3 := hideP (C2.out.below hb)
    have HX3 := hideP (((HX.out.below (lt_of_block C2.out.b0) hb)).alloc (lt_of_block C3.out.b0) (TOKO t))
    have C4 := hideP (C3.out.alloc (TOKO t))
    clear hb
    go_wp2_with fail
    have hnt : w2.heap.size ≠ nb := by have := lt_of_block C3.out.b0; omega
    cases h1 : seesA ts b [40] with
    | true =>
      refine (is_new pb tb cap b _ 1 ts [[40]] _ _ C4.out.ps.rd (by simp) (by simp)).mono ?_
      rw [any_one, h1]
      rintro e w3 ⟨rfl, hb⟩
      have C5 := hideP (C4.out.below hb)
      have HX4 := hideP (HX3.out.below (lt_of_block C4.out.b1) hb)
      clear hb
      have HR2 := hideP (HRp.out.trans (post_call h1))
      rw [<- HTk.out] at HR2
      clear h1
      have HC : Hid (∀ wa bx, Ctx pb tb cap d ts w wa b bx [] [] -> NdX (w.heap.size + 1) nb wa x D -> (w2.heap.size, TOKO t) ∈ bx -> (nb, x.obj) ∈ bx -> Calls prog 147 #[.pointer (some ⟨pb, 0, none⟩)] wa fun e w9 => (∃ chain, e = .panicked chain /\ PPost pb tb cap ts d w NdE R e w9) ∨ ∃ (y : NV) (D2 : Ty) (b2 : Nat), e = .returned (y.val) /\ ((w9.cell? ⟨w2.heap.size, 0, none⟩ = some (.int .i64 t.kind) /\ w9.cell? ⟨w2.heap.size, 1, none⟩ = some (.string ⟨t.text.toArray⟩) /\ w9.cell? ⟨w2.heap.size, 2, none⟩ = some (.int .i64 t.line) /\ w9.cell? ⟨w2.heap.size, 3, none⟩ = some (.int .i64 t.col)) /\ (w9.cell? ⟨nb, 0, none⟩ = some (.int .i64 x.k) /\ w9.cell? ⟨nb, 1, none⟩ = some (.string x.tx) /\ w9.cell? ⟨nb, 2, none⟩ = some (.int .i64 x.N) /\ w9.cell? ⟨nb, 3, none⟩ = some (.int .i64 x.li) /\ w9.cell? ⟨nb, 4, none⟩ = some (.int .i64 x.co) /\ w9.cell? ⟨nb, 5, none⟩ = some (.slice x.ta x.tl x.tc) /\ w9.cell? ⟨nb, 6, none⟩ = some (.slice x.na x.nl x.nc) /\ w9.cell? ⟨nb, 7, none⟩ = some (.slice x.ka x.kl x.kc))) /\ (w2.heap.size < w9.heap.size /\ nb < w9.heap.size) /\ Hid (R = postA ts E m (mkE 7 [] 0 t.line t.col [] [] [D, D2]) b2 /\ Ctx pb tb cap d ts w w9 b2 bx [] [] /\ NdX (w.heap.size + 1) nb w9 x D /\ NdX (w.heap.size + 1) nb w9 y D2 /\ b + 1 <= b2)) := by
        intro wa bx CA NA m0 m1
        refine (inBrackets_c pb tb cap d ts E HE1.out OK.out b _ CA.ps).mono ?_
        intro e w9 hpost
        rcases ppost_or hpost with ⟨er, li, co, hr, rfl, hst⟩ | ⟨D2, b2, v, hr, rfl, hst, hps, hv⟩
        · exact .inl ⟨_, rfl, CA.st.trans hst, by rw [HR2.out, hr]; rfl⟩
        obtain ⟨y, rfl, hv⟩ := hv
        have CN := CA.step hst hps
        exact .inr ⟨y, D2, b2, rfl, ⟨(tokB (CN.has _ m0).1), (box8 (x := x) (CN.has _ m1).1).1⟩, ⟨lt_of_block (CN.has _ m0).1, lt_of_block (CN.has _ m1).1⟩, by rw [HR2.out, hr]; rfl, CN, NA.stay (lt_of_block (CA.has _ m1).1) hst (by omega), ndX_new hv (lt_of_block (CA.has _ m1).1) CA.sz, brackets_up HE1.out.up hr⟩
      have HS0 : (w3.cell? ⟨w2.heap.size, 0, none⟩ = some (.int .i64 t.kind) /\ w3.cell? ⟨w2.heap.size, 1, none⟩ = some (.string ⟨t.text.toArray⟩) /\ w3.cell? ⟨w2.heap.size, 2, none⟩ = some (.int .i64 t.line) /\ w3.cell? ⟨w2.heap.size, 3, none⟩ = some (.int .i64 t.col)) /\ (w3.cell? ⟨nb, 0, none⟩ = some (.int .i64 x.k) /\ w3.cell? ⟨nb, 1, none⟩ = some (.string x.tx) /\ w3.cell? ⟨nb, 2, none⟩ = some (.int .i64 x.N) /\ w3.cell? ⟨nb, 3, none⟩ = some (.int .i64 x.li) /\ w3.cell? ⟨nb, 4, none⟩ = some (.int .i64 x.co) /\ w3.cell? ⟨nb, 5, none⟩ = some (.slice x.ta x.tl x.tc) /\ w3.cell? ⟨nb, 6, none⟩ = some (.slice x.na x.nl x.nc) /\ w3.cell? ⟨nb, 7, none⟩ = some (.slice x.ka x.kl x.kc)) := ⟨(tokB (C5.out.has (w2.heap.size, TOKO t) (by simp)).1), (box8 (x := x) (C5.out.has (nb, x.obj) (by simp)).1).1⟩
      have hl2 : w2.heap.size < w3.heap.size := lt_of_block (C5.out.has (w2.heap.size, TOKO t) (by simp)).1
      have hl3 : nb < w3.heap.size := lt_of_block (C5.out.has (nb, x.obj) (by simp)).1
      obtain ⟨⟨k0, k1, k2, k3⟩, n0, n1, n2, n3, n4, n5, n6, n7⟩ := HS0
      go_wp2_with fail
      go_region_with (first
        | (go_at_call 94; refine (placed_x t _ _ _ _ _ _ _ _ _ _ _ _ _).mono ?_; rintro e w10 ⟨z, rfl, HZ, hb⟩; (first | have HX2 := hideP (HY.out.2.1.below hb) | have HX2 := hideP ((HY.out.2.1.alloc _).below hb)); have HB8 := hideP (box8 (x := x) (HX2.out.has (nb, x.obj) (by simp)).1); obtain ⟨⟨p0, p1, p2, p3, p4, p5, p6, p7⟩, ⟨f0, f1, f2, f3, f4, f5, f6, f7⟩, hr1⟩ := HB8.out; have HBL : Hid (Below w9.heap.size w9 w10) := (by first | exact hb | exact below_next (bl_alloc _ _) hb); clear hb)
        | (go_at_call 147; refine (HC.out _ _ (by first | exact C5.out.drew | exact (C5.out.alloc _).drew) (by first | exact HX4.out.drew | exact (HX4.out.alloc (lt_of_block (C5.out.has (nb, x.obj) (by simp)).1) _).drew) (by simp) (by simp)).mono ?_; rintro e w9 (⟨ch, rfl, hf⟩ | ⟨y, D2, b2, rfl, t5, t7, HY⟩); exact ⟨rfl, hf⟩; obtain ⟨⟨q0, q1, q2, q3⟩, m0, m1, m2, m3, m4, m5, m6, m7⟩ := t5; obtain ⟨hl4, hl5⟩ := t7))
      all_goals
        go_wp2_with fail
        have hnd : NdX (w.heap.size + 1) nb w10 z (mkE 7 [] 0 t.line t.col [] [] [D, D2]) := by
          rw [HZ.out]
          first
            | exact nodeX_two (HY.out.2.2.1.below hl5 HBL.out) (HY.out.2.2.2.1.below hl5 HBL.out) (HX2.out.has (w9.heap.size, .cells #[.int .i64 x.k, .string x.tx, .int .i64 x.N, .int .i64 x.li, .int .i64 x.co, .slice x.ta x.tl x.tc, .slice x.na x.nl x.nc, .slice x.ka x.kl x.kc, .int .i64 y.k, .string y.tx, .int .i64 y.N, .int .i64 y.li, .int .i64 y.co, .slice y.ta y.tl y.tc, .slice y.na y.nl y.nc, .slice y.ka y.kl y.kc] 27) (by simp)).1 (by have := HY.out.2.1.sz; omega) (by omega) _ ⟨rfl, rfl⟩ rfl rfl
        have hC := HX2.out.reput (bx' := [(nb, z.obj), (w.heap.size, zNV.obj)]) hb0 z ⟨x, by simp⟩ (by
          intro p hp
          rcases List.mem_cons.1 hp with rfl | hp
          · exact .inl rfl
          · rw [List.mem_singleton.1 hp]; exact .inr ⟨by simp, by show w.heap.size ≠ nb; omega⟩)
        go_roundg (ts.length - b2)
        case measure => have := HX2.out.ps.lt; have := HY.out.2.2.2.2; omega
        case rel => exact ⟨b2, m, z, _, hC, hnd.put8 (lt_of_block (HX2.out.has (nb, x.obj) (by simp)).1) z, HY.out.1, (by have := HLe.out; have := HY.out.2.2.2.2; show _ <= _; omega), Nat.le_refl _⟩
    | false =>
      refine (is_new pb tb cap b _ 1 ts [[40]] _ _ C4.out.ps.rd (by simp) (by simp)).mono ?_
      rw [any_one, h1]
      rintro e w3 ⟨rfl, hb⟩
      have C5 := hideP (C4.out.below hb)
      have HX4 := hideP (HX3.out.below (lt_of_block C4.out.b1) hb)
      clear hb
      have HT := hideP (take_c pb tb cap b d ts [46] _ C5.out.ps OK.out)
      go_wp2_with fail
      cases h2 : seesA ts b [46] with
      | true =>
        rw [h2, if_pos rfl] at HT
        have HR2 := hideP (HRp.out.trans (post_sel h1 h2))
        rw [<- HTk.out] at HR2
        clear h1 h2
        refine HT.out.mono ?_
        rintro e w4 ⟨rfl, hst, hps⟩
        have C6 := hideP (C5.out.step hst hps)
        have HX5 := hideP (HX4.out.stay (lt_of_block C5.out.b1) hst (by omega))
        clear hst hps
        have HC : Hid (∀ wa bx, Ctx pb tb cap d ts w wa (b + 1) bx [] [] -> NdX (w.heap.size + 1) nb wa x D -> (w2.heap.size, TOKO t) ∈ bx -> (nb, x.obj) ∈ bx -> Calls prog 62 #[.pointer (some ⟨pb, 0, none⟩)] wa fun e w9 => (∃ chain, e = .panicked chain /\ PPost pb tb cap ts d w NdE R e w9) ∨ ∃ (s : List UInt8) (b2 : Nat), e = .returned (.string ⟨s.toArray⟩) /\ ((w9.cell? ⟨w2.heap.size, 0, none⟩ = some (.int .i64 t.kind) /\ w9.cell? ⟨w2.heap.size, 1, none⟩ = some (.string ⟨t.text.toArray⟩) /\ w9.cell? ⟨w2.heap.size, 2, none⟩ = some (.int .i64 t.line) /\ w9.cell? ⟨w2.heap.size, 3, none⟩ = some (.int .i64 t.col)) /\ (w9.cell? ⟨nb, 0, none⟩ = some (.int .i64 x.k) /\ w9.cell? ⟨nb, 1, none⟩ = some (.string x.tx) /\ w9.cell? ⟨nb, 2, none⟩ = some (.int .i64 x.N) /\ w9.cell? ⟨nb, 3, none⟩ = some (.int .i64 x.li) /\ w9.cell? ⟨nb, 4, none⟩ = some (.int .i64 x.co) /\ w9.cell? ⟨nb, 5, none⟩ = some (.slice x.ta x.tl x.tc) /\ w9.cell? ⟨nb, 6, none⟩ = some (.slice x.na x.nl x.nc) /\ w9.cell? ⟨nb, 7, none⟩ = some (.slice x.ka x.kl x.kc))) /\ (w2.heap.size < w9.heap.size /\ nb < w9.heap.size) /\ Hid (R = postA ts E m (mkE 9 s 0 t.line t.col [] [] [D]) b2 /\ Ctx pb tb cap d ts w w9 b2 bx [] [] /\ NdX (w.heap.size + 1) nb w9 x D /\ True /\ b + 1 <= b2)) := by
          intro wa bx CA NA m0 m1
          refine (pname_c pb tb cap (b + 1) d ts _ CA.ps OK.out).mono ?_
          intro e w9 hpost
          rcases ppost_or hpost with ⟨er, li, co, hr, rfl, hst⟩ | ⟨s, b2, v, hr, rfl, hst, hps, hv⟩
          · exact .inl ⟨_, rfl, CA.st.trans hst, by rw [HR2.out, hr]; rfl⟩
          subst hv
          have CN := CA.step hst hps
          exact .inr ⟨s, b2, rfl, ⟨(tokB (CN.has _ m0).1), (box8 (x := x) (CN.has _ m1).1).1⟩, ⟨lt_of_block (CN.has _ m0).1, lt_of_block (CN.has _ m1).1⟩, by rw [HR2.out, hr]; rfl, CN, NA.stay (lt_of_block (CA.has _ m1).1) hst (by omega), trivial, by have := name_up hr; omega⟩
        have HS0 : (w4.cell? ⟨w2.heap.size, 0, none⟩ = some (.int .i64 t.kind) /\ w4.cell? ⟨w2.heap.size, 1, none⟩ = some (.string ⟨t.text.toArray⟩) /\ w4.cell? ⟨w2.heap.size, 2, none⟩ = some (.int .i64 t.line) /\ w4.cell? ⟨w2.heap.size, 3, none⟩ = some (.int .i64 t.col)) /\ (w4.cell? ⟨nb, 0, none⟩ = some (.int .i64 x.k) /\ w4.cell? ⟨nb, 1, none⟩ = some (.string x.tx) /\ w4.cell? ⟨nb, 2, none⟩ = some (.int .i64 x.N) /\ w4.cell? ⟨nb, 3, none⟩ = some (.int .i64 x.li) /\ w4.cell? ⟨nb, 4, none⟩ = some (.int .i64 x.co) /\ w4.cell? ⟨nb, 5, none⟩ = some (.slice x.ta x.tl x.tc) /\ w4.cell? ⟨nb, 6, none⟩ = some (.slice x.na x.nl x.nc) /\ w4.cell? ⟨nb, 7, none⟩ = some (.slice x.ka x.kl x.kc)) := ⟨(tokB (C6.out.has (w2.heap.size, TOKO t) (by simp)).1), (box8 (x := x) (C6.out.has (nb, x.obj) (by simp)).1).1⟩
        have hl2 : w2.heap.size < w4.heap.size := lt_of_block (C6.out.has (w2.heap.size, TOKO t) (by simp)).1
        have hl3 : nb < w4.heap.size := lt_of_block (C6.out.has (nb, x.obj) (by simp)).1
        obtain ⟨⟨k0, k1, k2, k3⟩, n0, n1, n2, n3, n4, n5, n6, n7⟩ := HS0
        go_wp2_with fail
        go_region_with (first
          | (go_at_call 94; refine (placed_x t _ _ _ _ _ _ _ _ _ _ _ _ _).mono ?_; rintro e w10 ⟨z, rfl, HZ, hb⟩; (first | have HX2 := hideP (HY.out.2.1.below hb) | have HX2 := hideP ((HY.out.2.1.alloc _).below hb)); have HB8 := hideP (box8 (x := x) (HX2.out.has (nb, x.obj) (by simp)).1); obtain ⟨⟨p0, p1, p2, p3, p4, p5, p6, p7⟩, ⟨f0, f1, f2, f3, f4, f5, f6, f7⟩, hr1⟩ := HB8.out; have HBL : Hid (Below w9.heap.size w9 w10) := (by first | exact hb | exact below_next (bl_alloc _ _) hb); clear hb)
          | (go_at_call 62; refine (HC.out _ _ (by first | exact C6.out.drew | exact (C6.out.alloc _).drew) (by first | exact HX5.out.drew | exact (HX5.out.alloc (lt_of_block (C6.out.has (nb, x.obj) (by simp)).1) _).drew) (by simp) (by simp)).mono ?_; rintro e w9 (⟨ch, rfl, hf⟩ | ⟨s, b2, rfl, t5, t7, HY⟩); exact ⟨rfl, hf⟩; obtain ⟨⟨q0, q1, q2, q3⟩, m0, m1, m2, m3, m4, m5, m6, m7⟩ := t5; obtain ⟨hl4, hl5⟩ := t7))
        all_goals
          go_wp2_with fail
          have hnd : NdX (w.heap.size + 1) nb w10 z (mkE 9 s 0 t.line t.col [] [] [D]) := by
            rw [HZ.out]
            first
              | exact nodeX_one (HY.out.2.2.1.below hl5 HBL.out) (HX2.out.has (w9.heap.size, x.obj) (by simp)).1 (by have := HY.out.2.1.sz; have := C6.out.sz; omega) (by omega) _ ⟨rfl, rfl⟩ rfl rfl
              | exact nodeX_one (HY.out.2.2.1.below hl5 HBL.out) (HX2.out.has (w4.heap.size, x.obj) (by simp)).1 (by have := HY.out.2.1.sz; have := C6.out.sz; omega) (by omega) _ ⟨rfl, rfl⟩ rfl rfl
          have hC := HX2.out.reput (bx' := [(nb, z.obj), (w.heap.size, zNV.obj)]) hb0 z ⟨x, by simp⟩ (by
            intro p hp
            rcases List.mem_cons.1 hp with rfl | hp
            · exact .inl rfl
            · rw [List.mem_singleton.1 hp]; exact .inr ⟨by simp, by show w.heap.size ≠ nb; omega⟩)
          go_roundg (ts.length - b2)
          case measure => have := HX2.out.ps.lt; have := HY.out.2.2.2.2; omega
          case rel => exact ⟨b2, m, z, _, hC, hnd.put8 (lt_of_block (HX2.out.has (nb, x.obj) (by simp)).1) z, HY.out.1, (by have := HLe.out; have := HY.out.2.2.2.2; show _ <= _; omega), Nat.le_refl _⟩
      | false =>
        rw [h2, if_neg (by simp)] at HT
        have HR2 := hideP (HRp.out.trans (post_end h1 h2))
        clear h1 h2
        refine HT.out.mono ?_
        rintro e w4 ⟨rfl, hst, hps⟩
        have C6 := hideP (C5.out.step hst hps)
        have HX5 := hideP (HX4.out.stay (lt_of_block C5.out.b1) hst (by omega))
        clear hst hps
        obtain ⟨⟨r0, r1, r2, r3, r4, r5, r6, r7⟩, ⟨f0, f1, f2, f3, f4, f5, f6, f7⟩, hr1⟩ := box8 (x := zNV) C6.out.b2
        obtain ⟨⟨n0, n1, n2, n3, n4, n5, n6, n7⟩, _, hn1⟩ := box8 (x := x) C6.out.b1
        have hne : ¬ nb = w.heap.size := by omega
        go_wp2_with fail
        rw [HR2.out]
        refine bodyPost_ret (results_cell_row rfl _ _ w.heap.size 27 _ (0, 0) _ rfl (put8_heap (x := x) C6.out.b2) underlying27 rfl (by kernel_rfl)) rfl ⟨stay_put8 C6.out.st hp (Nat.le_refl _) x, ps_put8 C6.out.ps hp x, _, rfl, x, rfl, ?_⟩
        exact ((HX5.out.now hn1).put8 (Nat.lt_succ_self _) x).lower (Nat.le_succ _)
end Go.Proofs.YtlhmofphpfdjlaaGreatDoor
