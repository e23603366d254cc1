/- Part. -/
import Derived.Test.YtlhmofphpfdjlaaGreatDoorPart27
set_option maxRecDepth 100000
set_option maxHeartbeats 4000000
/- Records. -/
namespace Go.Proofs.YtlhmofphpfdjlaaGreatDoor
open Go.Proofs.Tryz
open Go.RowKit
attribute [local go_sem ↓] Go.wp_at_zero Go.wp_at_succ
abbrev recNV (na : Option Addr) (nl nc : Nat) (ka : Option Addr) (kl kc : Nat) : NV := ⟨8, ⟨#[]⟩, 0, 0, 0, none, 0, 0, na, nl, nc, ka, kl, kc⟩
abbrev withNV (s : List UInt8) (kb : Nat) : NV := ⟨10, ⟨s.toArray⟩, 0, 0, 0, none, 0, 0, none, 0, 0, some ⟨kb, 0, none⟩, 2, 2⟩
theorem rec_node {lo : Nat} {w : World} {l : List (List UInt8 × Ty)} {vf : Value} (h : FieldsN lo w vf l) (hl : l.length <= 8193) : ∃ a c a' c', vf = .tuple #[.slice a l.length c, .slice a' l.length c'] /\ NdV lo w (recNV a l.length c a' l.length c') (mkE 8 [] 0 0 0 [] (l.map (·.1)) (l.map (·.2))) := by
  obtain ⟨vn, vv, cn, cv, rfl, h1, h2⟩ := h
  obtain ⟨a, c, rfl, hc, hN⟩ := rows_names h1
  obtain ⟨a', c', m, rfl, hc', hK⟩ := rows_nodes h2
  refine ⟨a, c, a', c', by simp, m + 1, [], l.map (·.1), l.map (·.2), rfl, ⟨rfl, by simp, by simp⟩, ⟨Nat.zero_le _, ?_, ?_⟩, .inl rfl, hN, hK⟩
  · simp only [List.length_map]; omega
  · simp only [List.length_map]; omega
theorem braces_none (pb tb cap d : Nat) (ts : List Tok) (E : Nat -> Pr Ty) (hE : Reads pb tb cap d ts NdE 12 E) (ok : ToksOk ts) (a : Nat) (h1 : seesA ts a [125] = true) (w : World) (h : Ps w pb tb cap ts a d) :
    Calls prog 149 #[.pointer (some ⟨pb, 0, none⟩)] w (PPost pb tb cap ts d w NdE ((fieldsA ts E ts.length a).go fun l b => .inl (mkE 8 [] 0 0 0 [] (l.map (·.1)) (l.map (·.2)), b))) := by
  have H := hideP h
  have OK := hideP ok
  have hp := h.ltp
  have HE1 := hideP hE
  have HS1 := hideP h1
  obtain ⟨ff, hff⟩ : ∃ f, f + 1 = ts.length := ⟨ts.length - 1, by have := ok.pos; omega⟩
  have C0 := hideP (ctx_init h zNV.obj)
  rw [<- hff]
  obtain ⟨R, hR⟩ : ∃ R : Pr Ty, R = ((fieldsA ts E (ff + 1) a).go fun l b => .inl (mkE 8 [] 0 0 0 [] (l.map (·.1)) (l.map (·.2)), b)) := ⟨_, rfl⟩
  rw [<- hR]
  have HR0 := hideP hR
  clear h ok hR hE h1
  go_enter func149, ntmps149
  go_wp2_with fail
  refine (is_new pb tb cap a _ 1 ts [[125]] _ _ C0.out.ps.rd (by simp) (by simp)).mono ?_
  rw [any_one, HS1.out]
  rintro e w1 ⟨rfl, hb⟩
  have C1 := hideP (C0.out.below hb)
  clear hb
  go_wp2_with fail
  refine (fieldsN_c pb tb cap d ts 12 E HE1.out ff a (by omega) _ C1.out.ps OK.out).mono ?_
  intro e w2 hpost
  rcases ppost_or hpost with ⟨er, li, co, hr, rfl, hst⟩ | ⟨l, b, v, hr, rfl, hst, hps, hv⟩
  · have HE : Hid (R = .inr (er, li, co)) := by rw [HR0.out, hr]; exact rfl
    have HF := hideP (C1.out.st.trans hst)
    clear hr hst hpost
    go_wp2_with fail
    exact ⟨rfl, HF.out, by rw [HE.out]⟩
  have HR1 : Hid (R = .inl (mkE 8 [] 0 0 0 [] (l.map (·.1)) (l.map (·.2)), b)) := by rw [HR0.out, hr]; exact rfl
  obtain ⟨na, nc, ka, kc, rfl, hv2⟩ := rec_node hv (by have := (fields_facts OK.out hr).1; have := OK.out.len; omega)
  have C2 := hideP ((C1.out.step hst hps).addN hv2 C1.out.sz)
  clear hr hst hps hpost hv hv2
  obtain ⟨⟨r0, r1, r2, r3, r4, r5, r6, r7⟩, ⟨f0, f1, f2, f3, f4, f5, f6, f7⟩, hr1⟩ := box8 (x := zNV) (C2.out.b0)
  go_wp2_with fail
  rw [HR1.out]
  refine bodyPost_ret (results_cell_row rfl _ _ w.heap.size 27 _ (0, 0) _ rfl (put8_heap (x := recNV na l.length nc ka l.length kc) C2.out.b0) underlying27 rfl (by kernel_rfl)) rfl ⟨stay_put8 C2.out.st hp (Nat.le_refl _) (recNV na l.length nc ka l.length kc), ps_put8 C2.out.ps hp (recNV na l.length nc ka l.length kc), _, rfl, recNV na l.length nc ka l.length kc, rfl, ?_⟩
  exact ((C2.out.n0).put8 (Nat.lt_succ_self _) (recNV na l.length nc ka l.length kc)).lower (Nat.le_succ _)
theorem braces_field (pb tb cap d : Nat) (ts : List Tok) (E : Nat -> Pr Ty) (hE : Reads pb tb cap d ts NdE 12 E) (ok : ToksOk ts) (a : Nat) (h1 : seesA ts a [125] = false) (h2 : ((tkA ts a).kind == 1 && seesA ts (a + 1) [58]) = true) (w : World) (h : Ps w pb tb cap ts a d) :
    Calls prog 149 #[.pointer (some ⟨pb, 0, none⟩)] w (PPost pb tb cap ts d w NdE ((fieldsA ts E ts.length a).go fun l b => .inl (mkE 8 [] 0 0 0 [] (l.map (·.1)) (l.map (·.2)), b))) := by
  have H := hideP h
  have OK := hideP ok
  have hp := h.ltp
  have HE1 := hideP hE
  have HS1 := hideP h1
  have HB1 := hideP (fun w h => beginsField_c pb tb cap a d ts w h ok)
  rw [h2] at HB1
  obtain ⟨ff, hff⟩ : ∃ f, f + 1 = ts.length := ⟨ts.length - 1, by have := ok.pos; omega⟩
  have C0 := hideP (ctx_init h zNV.obj)
  rw [<- hff]
  obtain ⟨R, hR⟩ : ∃ R : Pr Ty, R = ((fieldsA ts E (ff + 1) a).go fun l b => .inl (mkE 8 [] 0 0 0 [] (l.map (·.1)) (l.map (·.2)), b)) := ⟨_, rfl⟩
  rw [<- hR]
  have HR0 := hideP hR
  clear h ok hR hE h1 h2
  go_enter func149, ntmps149
  go_wp2_with fail
  refine (is_new pb tb cap a _ 1 ts [[125]] _ _ C0.out.ps.rd (by simp) (by simp)).mono ?_
  rw [any_one, HS1.out]
  rintro e w1 ⟨rfl, hb⟩
  have C1 := hideP (C0.out.below hb)
  clear hb
  go_wp2_with fail
  refine (HB1.out _ C1.out.ps).mono ?_
  rintro e w2 ⟨rfl, hb⟩
  have C2 := hideP (C1.out.below hb)
  clear hb
  go_wp2_with fail
  refine (fieldsN_c pb tb cap d ts 12 E HE1.out ff a (by omega) _ C2.out.ps OK.out).mono ?_
  intro e w3 hpost
  rcases ppost_or hpost with ⟨er, li, co, hr, rfl, hst⟩ | ⟨l, b, v, hr, rfl, hst, hps, hv⟩
  · have HE : Hid (R = .inr (er, li, co)) := by rw [HR0.out, hr]; exact rfl
    have HF := hideP (C2.out.st.trans hst)
    clear hr hst hpost
    go_wp2_with fail
    exact ⟨rfl, HF.out, by rw [HE.out]⟩
  have HR1 : Hid (R = .inl (mkE 8 [] 0 0 0 [] (l.map (·.1)) (l.map (·.2)), b)) := by rw [HR0.out, hr]; exact rfl
  obtain ⟨na, nc, ka, kc, rfl, hv2⟩ := rec_node hv (by have := (fields_facts OK.out hr).1; have := OK.out.len; omega)
  have C3 := hideP ((C2.out.step hst hps).addN hv2 C2.out.sz)
  clear hr hst hps hpost hv hv2
  obtain ⟨⟨r0, r1, r2, r3, r4, r5, r6, r7⟩, ⟨f0, f1, f2, f3, f4, f5, f6, f7⟩, hr1⟩ := box8 (x := zNV) (C3.out.b0)
  go_wp2_with fail
  rw [HR1.out]
  refine bodyPost_ret (results_cell_row rfl _ _ w.heap.size 27 _ (0, 0) _ rfl (put8_heap (x := recNV na l.length nc ka l.length kc) C3.out.b0) underlying27 rfl (by kernel_rfl)) rfl ⟨stay_put8 C3.out.st hp (Nat.le_refl _) (recNV na l.length nc ka l.length kc), ps_put8 C3.out.ps hp (recNV na l.length nc ka l.length kc), _, rfl, recNV na l.length nc ka l.length kc, rfl, ?_⟩
  exact ((C3.out.n0).put8 (Nat.lt_succ_self _) (recNV na l.length nc ka l.length kc)).lower (Nat.le_succ _)
theorem braces_with (pb tb cap d : Nat) (ts : List Tok) (E : Nat -> Pr Ty) (hE : Reads pb tb cap d ts NdE 12 E) (ok : ToksOk ts) (a : Nat) (h1 : seesA ts a [125] = false) (h2 : ((tkA ts a).kind == 1 && seesA ts (a + 1) [58]) = false) (w : World) (h : Ps w pb tb cap ts a d) :
    Calls prog 149 #[.pointer (some ⟨pb, 0, none⟩)] w (PPost pb tb cap ts d w NdE ((E a).go fun x b => (wantA ts b [119, 105, 116, 104]).go fun _ b => (nameA ts b).go fun s b => (wantA ts b [58]).go fun _ b => (E b).go fun y b => (wantA ts b [125]).go fun _ b => .inl (mkE 10 s 0 0 0 [] [] [x, y], b))) := by
  have H := hideP h
  have OK := hideP ok
  have hp := h.ltp
  have HE1 := hideP hE
  have HS1 := hideP h1
  have HB1 := hideP (fun w h => beginsField_c pb tb cap a d ts w h ok)
  rw [h2] at HB1
  have C0 := hideP (ctx_init h zNV.obj)
  obtain ⟨R, hR⟩ : ∃ R : Pr Ty, R = ((E a).go fun x b => (wantA ts b [119, 105, 116, 104]).go fun _ b => (nameA ts b).go fun s b => (wantA ts b [58]).go fun _ b => (E b).go fun y b => (wantA ts b [125]).go fun _ b => .inl (mkE 10 s 0 0 0 [] [] [x, y], b)) := ⟨_, rfl⟩
  rw [<- hR]
  have HR0 := hideP hR
  clear h ok hR hE h1 h2
  go_enter func149, ntmps149
  go_wp2_with fail
  refine (is_new pb tb cap a _ 1 ts [[125]] _ _ C0.out.ps.rd (by simp) (by simp)).mono ?_
  rw [any_one, HS1.out]
  rintro e w1 ⟨rfl, hb⟩
  have C1 := hideP (C0.out.below hb)
  clear hb
  go_wp2_with fail
  refine (HB1.out _ C1.out.ps).mono ?_
  rintro e w2 ⟨rfl, hb⟩
  have C2 := hideP (C1.out.below hb)
  clear hb
  go_wp2_with fail
  refine (HE1.out.calls a _ C2.out.ps).mono ?_
  intro e w3 hpost
  rcases ppost_or hpost with ⟨er, li, co, hr, rfl, hst⟩ | ⟨D1, b1, v, hr, rfl, hst, hps, hv⟩
  · have HE : Hid (R = .inr (er, li, co)) := by rw [HR0.out, hr]; exact rfl
    have HF := hideP (C2.out.st.trans hst)
    clear hr hst hpost
    go_wp2_with fail
    exact ⟨rfl, HF.out, by rw [HE.out]⟩
  have HR1 : Hid (R = (wantA ts b1 [119, 105, 116, 104]).go fun _ b => (nameA ts b).go fun s b => (wantA ts b [58]).go fun _ b => (E b).go fun y b => (wantA ts b [125]).go fun _ b => .inl (mkE 10 s 0 0 0 [] [] [D1, y], b)) := by rw [HR0.out, hr]; exact rfl
  obtain ⟨x1, rfl, hv⟩ := hv
  have C3 := hideP ((C2.out.step hst hps).addN hv C2.out.sz)
  have C4 := hideP (C3.out.alloc (x1.obj))
  clear hr hst hps hpost hv
  go_wp2_with fail
  refine (must_c pb tb cap b1 d ts [119, 105, 116, 104] _ C4.out.ps OK.out).mono ?_
  intro e w4 hpost
  rcases ppost_or hpost with ⟨er, li, co, hr, rfl, hst⟩ | ⟨u2, b2, v2, hr, rfl, hst, hps, hv⟩
  · have HE : Hid (R = .inr (er, li, co)) := by rw [HR1.out, hr]; exact rfl
    have HF := hideP (C4.out.st.trans hst)
    clear hr hst hpost
    go_wp2_with fail
    exact ⟨rfl, HF.out, by rw [HE.out]⟩
  have HR2 : Hid (R = (nameA ts b2).go fun s b => (wantA ts b [58]).go fun _ b => (E b).go fun y b => (wantA ts b [125]).go fun _ b => .inl (mkE 10 s 0 0 0 [] [] [D1, y], b)) := by rw [HR1.out, hr]; exact rfl
  have C5 := hideP ((C4.out.step hst hps))
  clear hr hst hps hpost hv
  go_wp2_with fail
  refine (pname_c pb tb cap b2 d ts _ C5.out.ps OK.out).mono ?_
  intro e w5 hpost
  rcases ppost_or hpost with ⟨er, li, co, hr, rfl, hst⟩ | ⟨s, b3, v3, hr, rfl, hst, hps, hv⟩
  · have HE : Hid (R = .inr (er, li, co)) := by rw [HR2.out, hr]; exact rfl
    have HF := hideP (C5.out.st.trans hst)
    clear hr hst hpost
    go_wp2_with fail
    exact ⟨rfl, HF.out, by rw [HE.out]⟩
  have HR3 : Hid (R = (wantA ts b3 [58]).go fun _ b => (E b).go fun y b => (wantA ts b [125]).go fun _ b => .inl (mkE 10 s 0 0 0 [] [] [D1, y], b)) := by rw [HR2.out, hr]; exact rfl
  subst hv
  have C6 := hideP ((C5.out.step hst hps))
  clear hr hst hps hpost  
  go_wp2_with fail
  refine (must_c pb tb cap b3 d ts [58] _ C6.out.ps OK.out).mono ?_
  intro e w6 hpost
  rcases ppost_or hpost with ⟨er, li, co, hr, rfl, hst⟩ | ⟨u4, b4, v4, hr, rfl, hst, hps, hv⟩
  · have HE : Hid (R = .inr (er, li, co)) := by rw [HR3.out, hr]; exact rfl
    have HF := hideP (C6.out.st.trans hst)
    clear hr hst hpost
    go_wp2_with fail
    exact ⟨rfl, HF.out, by rw [HE.out]⟩
  have HR4 : Hid (R = (E b4).go fun y b => (wantA ts b [125]).go fun _ b => .inl (mkE 10 s 0 0 0 [] [] [D1, y], b)) := by rw [HR3.out, hr]; exact rfl
  have C7 := hideP ((C6.out.step hst hps))
  clear hr hst hps hpost hv
  go_wp2_with fail
  refine (HE1.out.calls b4 _ C7.out.ps).mono ?_
  intro e w7 hpost
  rcases ppost_or hpost with ⟨er, li, co, hr, rfl, hst⟩ | ⟨D2, b5, v, hr, rfl, hst, hps, hv⟩
  · have HE : Hid (R = .inr (er, li, co)) := by rw [HR4.out, hr]; exact rfl
    have HF := hideP (C7.out.st.trans hst)
    clear hr hst hpost
    go_wp2_with fail
    exact ⟨rfl, HF.out, by rw [HE.out]⟩
  have HR5 : Hid (R = (wantA ts b5 [125]).go fun _ b => .inl (mkE 10 s 0 0 0 [] [] [D1, D2], b)) := by rw [HR4.out, hr]; exact rfl
  obtain ⟨x2, rfl, hv⟩ := hv
  have C8 := hideP ((C7.out.step hst hps).addN hv C7.out.sz)
  have C9 := hideP (C8.out.alloc (x2.obj))
  clear hr hst hps hpost hv
  go_wp2_with fail
  refine (must_c pb tb cap b5 d ts [125] _ C9.out.ps OK.out).mono ?_
  intro e w8 hpost
  rcases ppost_or hpost with ⟨er, li, co, hr, rfl, hst⟩ | ⟨u6, b6, v6, hr, rfl, hst, hps, hv⟩
  · have HE : Hid (R = .inr (er, li, co)) := by rw [HR5.out, hr]; exact rfl
    have HF := hideP (C9.out.st.trans hst)
    clear hr hst hpost
    go_wp2_with fail
    exact ⟨rfl, HF.out, by rw [HE.out]⟩
  have HR6 : Hid (R = .inl (mkE 10 s 0 0 0 [] [] [D1, D2], b6)) := by rw [HR5.out, hr]; exact rfl
  have C10 := hideP ((C9.out.step hst hps))
  clear hr hst hps hpost hv
  obtain ⟨⟨r0, r1, r2, r3, r4, r5, r6, r7⟩, ⟨f0, f1, f2, f3, f4, f5, f6, f7⟩, hr1⟩ := box8 (x := zNV) (C10.out.b2)
  obtain ⟨⟨n0, n1, n2, n3, n4, n5, n6, n7⟩, _, hn1⟩ := box8 (x := x1) C10.out.b1
  obtain ⟨⟨m0, m1, m2, m3, m4, m5, m6, m7⟩, _, hm1⟩ := box8 (x := x2) C10.out.b0
  have hne1 : ¬ w3.heap.size = w.heap.size := by have := C3.out.sz; omega
  have hne2 : ¬ w7.heap.size = w.heap.size := by have := C8.out.sz; omega
  go_wp2_with fail
  rw [HR6.out]
  refine bodyPost_ret (results_cell_row rfl _ _ w.heap.size 27 _ (0, 0) _ rfl ((Below.heap_alloc _ _ _ (show w.heap.size < (put8 w8 w.heap.size (withNV s w8.heap.size)).heap.size by rw [put8_size]; exact hr1)).trans (put8_heap (x := withNV s w8.heap.size) C10.out.b2)) underlying27 rfl (by kernel_rfl)) rfl ⟨(stay_put8 C10.out.st hp (Nat.le_refl _) (withNV s w8.heap.size)).alloc hp _, (ps_put8 C10.out.ps hp (withNV s w8.heap.size)).alloc _, _, rfl, withNV s w8.heap.size, rfl, ?_⟩
  have hk : ((put8 w8 w.heap.size (withNV s w8.heap.size)).alloc (.cells #[.int .i64 x1.k, .string x1.tx, .int .i64 x1.N, .int .i64 x1.li, .int .i64 x1.co, .slice x1.ta x1.tl x1.tc, .slice x1.na x1.nl x1.nc, .slice x1.ka x1.kl x1.kc, .int .i64 x2.k, .string x2.tx, .int .i64 x2.N, .int .i64 x2.li, .int .i64 x2.co, .slice x2.ta x2.tl x2.tc, .slice x2.na x2.nl x2.nc, .slice x2.ka x2.kl x2.kc] 27)).heap[w8.heap.size]? = some (.cells #[.int .i64 x1.k, .string x1.tx, .int .i64 x1.N, .int .i64 x1.li, .int .i64 x1.co, .slice x1.ta x1.tl x1.tc, .slice x1.na x1.nl x1.nc, .slice x1.ka x1.kl x1.kc, .int .i64 x2.k, .string x2.tx, .int .i64 x2.N, .int .i64 x2.li, .int .i64 x2.co, .slice x2.ta x2.tl x2.tc, .slice x2.na x2.nl x2.nc, .slice x2.ka x2.kl x2.kc] 27) := by
    have := heap_alloc_last (put8 w8 w.heap.size (withNV s w8.heap.size)) (.cells #[.int .i64 x1.k, .string x1.tx, .int .i64 x1.N, .int .i64 x1.li, .int .i64 x1.co, .slice x1.ta x1.tl x1.tc, .slice x1.na x1.nl x1.nc, .slice x1.ka x1.kl x1.kc, .int .i64 x2.k, .string x2.tx, .int .i64 x2.N, .int .i64 x2.li, .int .i64 x2.co, .slice x2.ta x2.tl x2.tc, .slice x2.na x2.nl x2.nc, .slice x2.ka x2.kl x2.kc] 27)
    rw [put8_size] at this
    exact this
  exact (ndV_two ((C10.out.n1.put8 (Nat.lt_succ_self _) (withNV s w8.heap.size)).alloc _) ((C10.out.n0.put8 (Nat.lt_succ_self _) (withNV s w8.heap.size)).alloc _) hk C10.out.sz (withNV s w8.heap.size) [] [] ⟨rfl, rfl⟩ ⟨rfl, Nat.zero_le _, 0, .inl rfl⟩ ⟨rfl, Nat.zero_le _, .inl rfl⟩).lower (Nat.le_succ _)
/-- Behind a bracket: a record, or a record with a field; its place is still to come. -/
def bracesA (ts : List Tok) (E : Nat -> Pr Ty) (f a : Nat) : Pr Ty :=
  if seesA ts a [125] then (fieldsA ts E f a).go fun l b => .inl (mkE 8 [] 0 0 0 [] (l.map (·.1)) (l.map (·.2)), b)
  else if (tkA ts a).kind == 1 && seesA ts (a + 1) [58] then (fieldsA ts E f a).go fun l b => .inl (mkE 8 [] 0 0 0 [] (l.map (·.1)) (l.map (·.2)), b)
  else (E a).go fun x b => (wantA ts b [119, 105, 116, 104]).go fun _ b => (nameA ts b).go fun s b => (wantA ts b [58]).go fun _ b => (E b).go fun y b => (wantA ts b [125]).go fun _ b => .inl (mkE 10 s 0 0 0 [] [] [x, y], b)
theorem braces_c (pb tb cap d : Nat) (ts : List Tok) (E : Nat -> Pr Ty) (hE : Reads pb tb cap d ts NdE 12 E) (ok : ToksOk ts) (a : Nat) (w : World) (h : Ps w pb tb cap ts a d) :
    Calls prog 149 #[.pointer (some ⟨pb, 0, none⟩)] w (PPost pb tb cap ts d w NdE (bracesA ts E ts.length a)) := by
  unfold bracesA
  by_cases h1 : seesA ts a [125] = true
  · rw [if_pos h1]
    exact braces_none pb tb cap d ts E hE ok a h1 w h
  · rw [if_neg h1]
    by_cases h2 : ((tkA ts a).kind == 1 && seesA ts (a + 1) [58]) = true
    · rw [if_pos h2]
      exact braces_field pb tb cap d ts E hE ok a (by simpa using h1) h2 w h
    · rw [if_neg h2]
      exact braces_with pb tb cap d ts E hE ok a (by simpa using h1) (by simpa using h2) w h
end Go.Proofs.YtlhmofphpfdjlaaGreatDoor
/- The predicates of bytes of package lex, and the row of bytes that belong, each by a contract. -/
namespace Go.Proofs.YtlhmofphpfdjlaaGreatDoor.Lx
open Go.Proofs.Tryz
open Go.RowKit
theorem hideP {p : Prop} (h : p) : Hid p := h
theorem ret_bool {x y : Bool} (h : x = y) : Ending.returned (.bool x) = .returned (.bool y) := by rw [h]
theorem startsName_c (b : UInt8) (w : World) : Calls prog 86 #[.int .u8 b.toNat] w fun e w' => e = .returned (.bool (isLet b)) /\ w' = w := by
  have hways : (b.toNat < 65) ∨ (65 <= b.toNat /\ b.toNat <= 90) ∨ (90 < b.toNat /\ b.toNat < 95) ∨ b.toNat = 95 ∨ b.toNat = 96 ∨ (97 <= b.toNat /\ b.toNat <= 122) ∨ 122 < b.toNat := by omega
  unfold isLet
  generalize b.toNat = n at hways ⊢
  rcases hways with h | ⟨h1, h2⟩ | ⟨h1, h2⟩ | rfl | rfl | ⟨h1, h2⟩ | h
  · have e : ((n : Int) == 95) = false := by simp; omega
    go_enter func86, ntmps86
    go_wp2
    go_ret
    exact ⟨ret_bool (by first | rfl | (simp; done) | (simp; omega) | (rw [Bool.eq_iff_iff]; simp; omega)), rfl⟩
  · go_enter func86, ntmps86
    go_wp2
    go_ret
    exact ⟨ret_bool (by first | rfl | (simp; done) | (simp; omega) | (rw [Bool.eq_iff_iff]; simp; omega)), rfl⟩
  · have e : ((n : Int) == 95) = false := by simp; omega
    go_enter func86, ntmps86
    go_wp2
    go_ret
    exact ⟨ret_bool (by first | rfl | (simp; done) | (simp; omega) | (rw [Bool.eq_iff_iff]; simp; omega)), rfl⟩
  · go_enter func86, ntmps86
    go_wp2
    go_ret
    exact ⟨rfl, rfl⟩
  · go_enter func86, ntmps86
    go_wp2
    go_ret
    exact ⟨rfl, rfl⟩
  · go_enter func86, ntmps86
    go_wp2
    go_ret
    exact ⟨ret_bool (by first | rfl | (simp; done) | (simp; omega) | (rw [Bool.eq_iff_iff]; simp; omega)), rfl⟩
  · have e : ((n : Int) == 95) = false := by simp; omega
    go_enter func86, ntmps86
    go_wp2
    go_ret
    exact ⟨ret_bool (by first | rfl | (simp; done) | (simp; omega) | (rw [Bool.eq_iff_iff]; simp; omega)), rfl⟩
theorem isDigit_c (b : UInt8) (w : World) : Calls prog 90 #[.int .u8 b.toNat] w fun e w' => e = .returned (.bool (isDig b)) /\ w' = w := by
  have hways : (b.toNat < 48) ∨ (48 <= b.toNat /\ b.toNat <= 57) ∨ 57 < b.toNat := by omega
  unfold isDig
  generalize b.toNat = n at hways ⊢
  rcases hways with h | ⟨h1, h2⟩ | h
  all_goals
    go_enter func90, ntmps90
    go_wp2
    go_ret
    exact ⟨ret_bool (by first | rfl | (simp; done) | (simp; omega) | (rw [Bool.eq_iff_iff]; simp; omega)), rfl⟩
theorem inName_c (b : UInt8) (w : World) : Calls prog 88 #[.int .u8 b.toNat] w fun e w' => e = .returned (.bool (inNm b)) /\ w' = w := by
  have s := startsName_c b
  have d := isDigit_c b
  unfold inNm
  cases h1 : isLet b
  · rw [h1] at s
    have S := hideP s
    have D := hideP d
    clear h1 s d
    go_enter func88, ntmps88
    go_wp2_with fail
    refine (S.out _).mono ?_
    rintro e w' ⟨rfl, rfl⟩
    go_wp2_with fail
    refine (D.out _).mono ?_
    rintro e w' ⟨rfl, rfl⟩
    go_wp2
    go_ret
    exact ⟨rfl, rfl⟩
  · rw [h1] at s
    have S := hideP s
    clear h1 s d
    go_enter func88, ntmps88
    go_wp2_with fail
    refine (S.out _).mono ?_
    rintro e w' ⟨rfl, rfl⟩
    go_wp2
    go_ret
    exact ⟨rfl, rfl⟩
theorem notLf_c (b : UInt8) (w : World) : Calls prog 85 #[.int .u8 b.toNat] w fun e w' => e = .returned (.bool (notLf b)) /\ w' = w := by
  unfold notLf
  generalize b.toNat = n
  by_cases h : n = 10
  · subst h
    go_enter func85, ntmps85
    go_wp2
    go_ret
    exact ⟨rfl, rfl⟩
  · have e : ((n : Int) == 10) = false := by simp; omega
    go_enter func85, ntmps85
    go_wp2
    go_ret
    exact ⟨ret_bool (by simp [h]; omega), rfl⟩
end Go.Proofs.YtlhmofphpfdjlaaGreatDoor.Lx
/- word.Parse by a contract: the number that the text says, and true, or 0 and false; the world is as it was. -/
namespace Go.Proofs.YtlhmofphpfdjlaaGreatDoor.Lx
open Go.Proofs.Tryz
open Go.RowKit
theorem parse_c (s : ByteArray) (hs : s.size <= 9223372036854775807) (w : World) : Calls prog 91 #[.string s] w fun e w' => e = .returned (parsed (parseV s.data.toList)) /\ w' = w := by
  by_cases hz : s.size = 0
  · have he : s.toList.isEmpty = true := by rw [toList_isEmpty]; simp [hz]
    rw [parseV_empty hz]
    go_enter func91, ntmps91
    go_wp2
    go_ret2
    exact ⟨rfl, rfl⟩
  have h0 : 0 < s.size := by omega
  have he : s.toList.isEmpty = false := by rw [toList_isEmpty]; simp [hz]
  by_cases hn : (s[0].toNat : Int) = 48 /\ 1 < s.size
  · rw [parseV_nought h0 hn.1 hn.2]
    obtain ⟨hn1, hn2⟩ := hn
    go_enter func91, ntmps91
    go_wp2
    go_ret2
    exact ⟨rfl, rfl⟩
  rw [parseV_go h0 hn]
  have hd : ((s[0].toNat : Int) = 48 /\ s.size <= 1) ∨ ¬ (s[0].toNat : Int) = 48 := by omega
  clear hn hz
  rcases hd with ⟨hd, hd1⟩ | hd
  all_goals
    go_enter func91, ntmps91
    go_wp2
    go_loop [4, 21] (fun n i => ∃ (k : Nat) (m : Int), k <= s.size /\ i = .int .i64 k /\ n = .int .i64 m /\ 0 <= m /\ m <= 9223372036854775807 /\ parseGo s.data.toList 0 = parseGo (s.data.toList.drop k) m) (fun _ i => s.size - (intOf i).toNat)
    case atStart => exact ⟨0, 0, Nat.zero_le _, rfl, rfl, by omega, by omega, rfl⟩
    case round =>
      obtain ⟨k, m, hk, rfl, rfl, hm0, hm1, hgo⟩ := hrel
      have HG : Hid (parseGo s.data.toList 0 = parseGo (s.data.toList.drop k) m) := hgo
      clear hgo
      by_cases hkl : k < s.size
      · by_cases b1 : (s[k].toNat : Int) < 48
        · go_wp2
          go_ret2
          rw [HG.out, parseGo_bad hkl m (Or.inl b1)]
          exact ⟨rfl, rfl⟩
        by_cases b2 : 57 < (s[k].toNat : Int)
        · go_wp2
          go_ret2
          rw [HG.out, parseGo_bad hkl m (Or.inr b2)]
          exact ⟨rfl, rfl⟩
        by_cases b3 : (9223372036854775807 - ((s[k].toNat : Int) - 48)) / 10 < m
        · go_wp2
          go_ret2
          rw [HG.out, parseGo_over hkl m (by omega) b3]
          exact ⟨rfl, rfl⟩
        · go_wp2
          go_round
          case rel => exact ⟨k + 1, m * 10 + ((s[k].toNat : Int) - 48), by omega, by go_num, rfl, by omega, by omega, HG.out.trans (parseGo_on hkl m (by omega) b3)⟩
          case measure => simp [intOf]; omega
      · go_wp2
        go_ret2
        rw [HG.out, parseGo_end hkl m]
        exact ⟨rfl, rfl⟩
end Go.Proofs.YtlhmofphpfdjlaaGreatDoor.Lx
