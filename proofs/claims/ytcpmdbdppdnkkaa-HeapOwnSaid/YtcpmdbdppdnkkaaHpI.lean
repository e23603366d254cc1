/- The program's arena: what the laws lean on. -/
import Derived.Test.YtcpmdbdppdnkkaaHcW
namespace Go.Proofs.Ytcpmdbdppdnkkaa
open Go.RowKit

/-- The program's arena, in block a; all its blocks are of F. -/
def ArenaT (B : Nat) (F : Nat → Prop) (w : World) (a : Nat) (cap : Nat) (M : Hp) : Prop := ∃ (kb : Nat) (F0 : Nat → Prop) (C : List CellV) (free : Int) (Q : List Ob) (fr : List Nat),
  w.heap[a]? = some (.cells #[.pointer (some ⟨kb, 0, none⟩)] 58) ∧ KeptT B F0 w kb (cap : Int) C free ((allO Q).length : Nat) (Q.map fun o => (o.p : Int)) ∧ (∀ b, F0 b → F b ∧ b ≠ a) ∧ F a ∧ (∀ b, F b → B ≤ b ∧ b < w.heap.size) ∧
  Kp C free Q fr [] ∧ (StQ C Q fun _ => false) ∧ C.length ≤ 2000000000 ∧ M.Perm (hpO Q) ∧ (cap : Int) ≤ 9223372036854775807
section
variable {B a cap : Nat} {F S : Nat → Prop} {w w' : World} {M : Hp}
theorem ArenaT.ch (h : ArenaT B F w a cap M) (hc : Ch S w w') (hs : ∀ b, F b → ¬ S b) : ArenaT B F w' a cap M := by
  obtain ⟨kb, F0, C, free, Q, fr, h1, h2, h3, h4, h5, h6⟩ := h
  exact ⟨kb, F0, C, free, Q, fr, hc.obj h1 (hs a h4), KR.ch h2 hc fun b hb => hs b (h3 b hb).1, h3, h4, fun b hb => ⟨(h5 b hb).1, Nat.lt_of_lt_of_le (h5 b hb).2 hc.size⟩, h6⟩
theorem ArenaT.lt (h : ArenaT B F w a cap M) : ∀ b, F b → B ≤ b ∧ b < w.heap.size := by obtain ⟨kb, F0, C, free, Q, fr, h1, h2, h3, h4, h5, h6⟩ := h; exact h5
theorem ArenaT.base {B' : Nat} (h : ArenaT B F w a cap M) (hB : B' ≤ B) : ArenaT B' F w a cap M := by
  obtain ⟨kb, F0, C, free, Q, fr, h1, h2, h3, h4, h5, h6⟩ := h
  exact ⟨kb, F0, C, free, Q, fr, h1, KR.base h2 hB, h3, h4, fun b hb => ⟨Nat.le_trans hB (h5 b hb).1, (h5 b hb).2⟩, h6⟩
end
def AllocR (cap : Nat) (M : Hp) (l : List SlotV) (x e0 : Int) (M' : Hp) : Prop :=
  (badL M l ∧ x = 0 ∧ e0 = 1 ∧ M' = M) ∨ (¬ badL M l ∧ cap < usedM M + l.length + 1 ∧ x = 0 ∧ e0 = 22 ∧ M' = M) ∨
  (¬ badL M l ∧ usedM M + l.length + 1 ≤ cap ∧ e0 = 0 ∧ 0 ≤ x ∧ x ≤ 9223372036854775807 ∧ ¬ hasM M x ∧ M' = (x, l) :: M)
theorem reach_perm {M M' : Hp} (hp : M.Perm M') {roots : List Int} {x : Int} : Reach M roots x ↔ Reach M' roots x := by
  have key : ∀ {M M' : Hp}, M.Perm M' → Reach M roots x → Reach M' roots x := fun hp h Cs h1 h2 => h Cs (fun r hr hm => h1 r hr ((has_perm hp).1 hm)) fun y l hl => h2 y l (hp.mem_iff.1 hl)
  exact ⟨key hp, key hp.symm⟩
theorem arena_tr {B a cap kb : Nat} {F F0 : Nat → Prop} {w w' : World} {C' : List CellV} {free' : Int} {Q' : List Ob} {fr' : List Nat} {M' : Hp} (h1 : w.heap[a]? = some (.cells #[.pointer (some ⟨kb, 0, none⟩)] 58)) (h3 : ∀ b, F0 b → F b ∧ b ≠ a) (h4 : F a) (h5 : ∀ b, F b → B ≤ b ∧ b < w.heap.size) (hcap : (cap : Int) ≤ 9223372036854775807)
    (ht : KTr B F0 w kb (cap : Int) C' free' ((allO Q').length : Nat) (Q'.map fun o => (o.p : Int)) w') (hk : Kp C' free' Q' fr' []) (hst : StQ C' Q' fun _ => false) (hC : C'.length ≤ 2000000000) (hM : M'.Perm (hpO Q')) : TrW (fun F w M => ArenaT B F w a cap M) F w M' w' := by
  obtain ⟨F2, k1, k2, k3⟩ := ht
  have hlt := (h5 a h4).2
  refine ⟨fun b => F b ∨ F2 b, ⟨kb, F2, C', free', Q', fr', k3.obj h1 fun h => (h3 a h).2 rfl, k1, fun b hb => ⟨.inr hb, fun e => ?_⟩, .inl h4, fun b hb => ?_, hk, hst, hC, hM, hcap⟩, fun b hb => ?_, k3.mono fun b _ h => (h3 b h).1⟩
  · rcases k2 b hb with h | h
    · exact (h3 b h).2 e
    · omega
  · rcases hb with hb | hb
    · exact ⟨(h5 b hb).1, Nat.lt_of_lt_of_le (h5 b hb).2 k3.size⟩
    · exact KR.lt k1 b hb
  · rcases hb with hb | hb
    · exact .inl hb
    · exact (k2 b hb).imp (fun h => (h3 b h).1) id
set_option maxRecDepth 100000 in
set_option maxHeartbeats 4000000 in
theorem hnew_c (cells : Int) (w : World) (h0 : -9223372036854775808 ≤ cells) (h1 : cells ≤ 9223372036854775807) : Calls Try.prog 10 #[.int .i64 cells] w fun e w' => ∃ a F, e = .returned (.pointer (some ⟨a, 0, none⟩)) ∧ ArenaT w.heap.size F w' a cells.toNat [] ∧ Ch noB w w' := by
  have hend : ∀ r : Int, r = (cells.toNat : Int) → ∃ F, ArenaT w.heap.size F ((w.alloc (.cells #[.slice none 0 0, .int .i64 (-1), .int .i64 r, .int .i64 0, .slice none 0 0] 56)).alloc (.cells #[.pointer (some ⟨w.heap.size, 0, none⟩)] 58)) (w.heap.size + 1) cells.toNat [] := by
    rintro r rfl
    obtain ⟨W, hW⟩ : ∃ W, W = w.alloc (.cells #[.slice none 0 0, .int .i64 (-1), .int .i64 (cells.toNat : Int), .int .i64 0, .slice none 0 0] 56) := ⟨_, rfl⟩
    have hs : W.heap.size = w.heap.size + 1 := by rw [hW, World.size_alloc]
    have hk : W.heap[w.heap.size]? = some (.cells #[.slice none 0 0, .int .i64 (-1), .int .i64 (cells.toNat : Int), .int .i64 0, .slice none 0 0] 56) := by rw [hW]; exact heap_alloc_last _ _
    rw [← hW]
    have ha := heap_alloc_last W (.cells #[.pointer (some ⟨w.heap.size, 0, none⟩)] 58)
    rw [hs] at ha
    have hc : Ch noB W (W.alloc (.cells #[.pointer (some ⟨w.heap.size, 0, none⟩)] 58)) := (Ch.refl noB W).alloc _
    refine ⟨fun b => b = w.heap.size ∨ b = w.heap.size + 1, w.heap.size, fun b => b = w.heap.size, [], -1, [], [], ha, ⟨_, _, hc.obj hk fun h => h, World.ownsRow_nil _ _ _ _, World.ownsRow_nil _ _ _ _, rfl, fun q hq => (nomatch hq), fun q hq => (nomatch hq), fun b hb => ?_⟩, fun b hb => ⟨.inl hb, by omega⟩, .inr rfl, fun b hb => ?_, Kp.start, fun _ h => (nomatch h), by simp, List.Perm.refl _, by omega⟩
    · have e : b = w.heap.size := hb
      have h1 : w.heap.size + 1 ≤ (W.alloc (.cells #[.pointer (some ⟨w.heap.size, 0, none⟩)] 58)).heap.size := by rw [World.size_alloc, hs]; omega
      exact ⟨by omega, by omega⟩
    · rw [World.size_alloc, hs]
      omega
  have HE := hideP hend
  clear hend
  by_cases hc : 0 ≤ cells
  · have hr : max cells 0 = cells := by omega
    go_enter Try.func10, Try.ntmps10
    go_wp2_with fail
    go_ret
    obtain ⟨F, hF⟩ := HE.out cells (by omega)
    exact ⟨_, F, rfl, hF, ((Ch.refl noB w).alloc _).alloc _⟩
  · go_enter Try.func10, Try.ntmps10
    go_wp2_with fail
    go_ret
    obtain ⟨F, hF⟩ := HE.out 0 (by omega)
    exact ⟨_, rfl, ⟨F, hF⟩, ((Ch.refl noB w).alloc _).alloc _⟩
set_option maxRecDepth 100000 in
set_option maxHeartbeats 4000000 in
theorem hused_c (B a cap : Nat) (F : Nat → Prop) (M : Hp) (w : World) (h : ArenaT B F w a cap M) (_hg : GoodM M) (_hu : usedM M ≤ 1000000000) :
    Calls Try.prog 19 #[.pointer (some ⟨a, 0, none⟩)] w fun e w' => e = .returned (.int .i64 (usedM M)) ∧ Ch noB w w' := by
  obtain ⟨kb, F0, C, free, Q, fr, h1, h2, h3, h4, h5, hk, hst, hC, hM, hcap⟩ := h
  have HO := hideP (own_c a kb w h1)
  obtain ⟨_, _, _, _, ⟨_, _, _, x3, _⟩, _⟩ := KR.look h2
  have hu : (allO Q).length = usedM M := by rw [← used_all hk.objs, used_perm hM]
  rw [hu] at x3
  obtain ⟨u, hu2⟩ : ∃ u, u = usedM M := ⟨_, rfl⟩
  rw [← hu2] at x3 ⊢
  clear h1 h2 h3 h4 h5 hk hst hC hM hcap hu hu2
  go_enter Try.func19, Try.ntmps19
  go_wp2_with fail
  refine HO.out.mono ?_
  rintro e w' ⟨rfl, rfl⟩
  go_wp2_with fail
  go_ret
  exact ⟨rfl, Ch.refl _ _⟩
set_option maxRecDepth 100000 in
set_option maxHeartbeats 4000000 in
theorem hobjs_c (B a cap : Nat) (F : Nat → Prop) (M : Hp) (w : World) (h : ArenaT B F w a cap M) (_hg : GoodM M) (_hu : usedM M ≤ 1000000000) :
    Calls Try.prog 20 #[.pointer (some ⟨a, 0, none⟩)] w fun e w' => e = .returned (.int .i64 M.length) ∧ Ch noB w w' := by
  obtain ⟨kb, F0, C, free, Q, fr, h1, h2, h3, h4, h5, hk, hst, hC, hM, hcap⟩ := h
  have HO := hideP (own_c a kb w h1)
  obtain ⟨_, _, _, _, ⟨_, _, _, _, x4⟩, _⟩ := KR.look h2
  have hu : (Q.map fun o => (o.p : Int)).length = M.length := by rw [List.length_map, hM.length_eq]; unfold hpO; rw [List.length_map]
  rw [hu] at x4
  obtain ⟨u, hu2⟩ : ∃ u, u = M.length := ⟨_, rfl⟩
  rw [← hu2] at x4 ⊢
  clear h1 h2 h3 h4 h5 hk hst hC hM hcap hu hu2
  go_enter Try.func20, Try.ntmps20
  go_wp2_with fail
  refine HO.out.mono ?_
  rintro e w' ⟨rfl, rfl⟩
  go_wp2_with fail
  go_ret
  exact ⟨rfl, Ch.refl _ _⟩
set_option maxRecDepth 100000 in
set_option maxHeartbeats 4000000 in
theorem hget_c (B a cap : Nat) (F : Nat → Prop) (M : Hp) (k : Int) (w : World) (h : ArenaT B F w a cap M) (_hg : GoodM M) (_h0 : -9223372036854775808 ≤ k) (h1 : k ≤ 9223372036854775807) (hu : usedM M ≤ 1000000000) :
    Calls Try.prog 18 #[.pointer (some ⟨a, 0, none⟩), .int .i64 k] w fun e w' => ∃ v b l, e = .returned (.tuple #[v, .bool b]) ∧ ((b = true ∧ (k, l) ∈ M) ∨ (b = false ∧ ¬ hasM M k ∧ l = [])) ∧ w'.ownsRow w.heap.size 47 2 v l.length (l.flatMap sltC) ∧ Ch noB w w' := by
  obtain ⟨kb, F0, C, free, Q, fr, g1, g2, g3, g4, g5, hk, hst, hC, hM, hcap⟩ := h
  have HO := hideP (own_c a kb w g1)
  have HH := hideP (has_c B kb F0 cap free _ C _ k w g2 h1)
  have hib := hk.hasB (x := k)
  have HM := hideP hM
  cases hh : hasC C k with
  | false =>
    rw [hh] at HH hib
    have hno : ¬ hasM M k := fun h => absurd (hib.2 ((has_perm hM).1 h)) (by decide)
    have HN := hideP hno
    clear g1 g2 g3 g4 g5 hk hst hC hM hcap hib hno hh
    go_enter Try.func18, Try.ntmps18
    go_wp2_with fail
    refine HO.out.mono ?_
    rintro e w' ⟨rfl, rfl⟩
    go_wp2_with fail
    refine HH.out.mono ?_
    rintro e w' ⟨rfl, rfl⟩
    go_wp2_with fail
    go_ret2
    exact ⟨_, _, [], rfl, .inr ⟨rfl, HN.out, rfl⟩, World.ownsRow_nil _ _ _ _, Ch.refl _ _⟩
  | true =>
    rw [hh] at HH hib
    obtain ⟨o, ho, rfl⟩ := hp_has.1 (hib.1 rfl)
    have hlu : o.l.length ≤ usedM M := by
      have h3 : ((o.p : Int), o.l) ∈ M := hM.mem_iff.2 (hp_mem.2 ⟨o, ho, rfl⟩)
      obtain ⟨A, R, e⟩ := List.append_of_mem h3
      rw [e]
      unfold usedM
      rw [List.map_append, List.map_cons, List.sum_append, List.sum_cons]
      have e : (((o.p : Int), o.l) : Int × List SlotV).2.length = o.l.length := rfl
      omega
    have HS := hideP (kslots_c B kb F0 cap free _ C _ o w g2 (hk.objs o ho) (by omega))
    have HQ := hideP ho
    clear g1 g2 g3 g4 g5 hk hst hC hM hcap hib hh ho
    go_enter Try.func18, Try.ntmps18
    go_wp2_with fail
    refine HO.out.mono ?_
    rintro e w' ⟨rfl, rfl⟩
    go_wp2_with fail
    refine HH.out.mono ?_
    rintro e w' ⟨rfl, rfl⟩
    go_wp2_with fail
    refine HS.out.mono ?_
    rintro e w' ⟨v, rfl, h8, h9⟩
    have H8 := hideP h8
    have H9 := hideP h9
    clear h8 h9
    go_wp2_with fail
    go_ret2
    exact ⟨_, _, o.l, rfl, .inl ⟨rfl, HM.out.mem_iff.2 (hp_mem.2 ⟨o, HQ.out, rfl⟩)⟩, H8.out, H9.out⟩
set_option maxRecDepth 100000 in
set_option maxHeartbeats 4000000 in
theorem hcollect_c (B a cap : Nat) (F FA : Nat → Prop) (M : Hp) (v : Value) (roots : List Int) (w : World) (h : ArenaT B F w a cap M) (hg : GoodM M) (hv : IntV FA w v roots) (_hF : ∀ b, FA b → ¬ F b) (hok : ∀ q ∈ roots, -9223372036854775808 ≤ q ∧ q ≤ 9223372036854775807) (hl : roots.length ≤ 1000000) (hu : usedM M ≤ 1000000000) :
    Calls Try.prog 12 #[.pointer (some ⟨a, 0, none⟩), v] w fun e w' => ∃ M', e = .returned (.int .i64 ((usedM M : Int) - (usedM M' : Int))) ∧ Stays M roots M' ∧ TrW (fun F w M => ArenaT B F w a cap M) F w M' w' := by
  obtain ⟨kb, F0, C, free, Q, fr, g1, g2, g3, g4, g5, hk, hst, hC, hM, hcap⟩ := h
  have HO := hideP (own_c a kb w g1)
  obtain ⟨_, _, _, _, ⟨_, _, _, x3, _⟩, _⟩ := KR.look g2
  have hua : (allO Q).length = usedM M := by rw [← used_all hk.objs, used_perm hM]
  rw [hua] at x3
  obtain ⟨u, hu2⟩ : ∃ u, u = usedM M := ⟨_, rfl⟩
  rw [← hu2] at x3 hu ⊢
  have HMk := hideP (mark_c B kb F0 FA cap free _ _ C Q fr v roots w g2 hk (hg.perm hM) hst hC hv hok hl (by omega))
  have HSw : Hid (∀ w1 C1 m, Like C C1 → StQ C1 Q m → KeptT B F0 w1 kb cap C1 free ((allO Q).length : Nat) (Q.map fun o => (o.p : Int)) → Ch F0 w w1 → (∀ x, m x = true ↔ Reach (hpO Q) roots x) →
      Calls Try.prog 24 #[.pointer (some ⟨kb, 0, none⟩)] w1 fun e w' => e = .returned (.tuple #[]) ∧ ∃ M', Stays M roots M' ∧ usedM M' ≤ u ∧ w'.cell? ⟨kb, 3, none⟩ = some (.int .i64 (usedM M')) ∧ Hid (TrW (fun F w M => ArenaT B F w a cap M) F w M' w')) := fun w1 C1 m e1 e2 e3 e4 e5 => by
    have hQl : Q.length ≤ (allO Q).length := by
      have : ∀ Q : List Ob, Q.length ≤ (allO Q).length := fun Q => by
        induction Q with
        | nil => exact Nat.le_refl _
        | cons o Q ih => rw [show o :: Q = [o] ++ Q from rfl, allO_app, allO_one, List.length_append, List.length_append, List.length_cons, List.length_cons, List.length_nil]; omega
      exact this Q
    refine (sweep_c B kb F0 cap free C1 Q fr m w1 e3 (hk.asLike e1) e2 (by omega) (by rw [e1.1]; exact hC) (by omega)).mono ?_
    rintro e w' ⟨C2, free2, fr2, rfl, t1, t2, t3, F2, k1, k2, k3⟩
    have hfil : hpO (Q.filter fun o => m (o.p : Int)) = (hpO Q).filter fun p => m p.1 := by
      unfold hpO
      rw [List.filter_map]
      rfl
    have hS : Stays M roots (hpO (Q.filter fun o => m (o.p : Int))) := by
      rw [hfil]
      refine ⟨(nodup_of_keys (hg.perm hM).nd).filter _, fun p => ?_⟩
      rw [List.mem_filter, e5, ← hM.mem_iff, reach_perm hM]
    have hus : (allO (Q.filter fun o => m (o.p : Int))).length = usedM (hpO (Q.filter fun o => m (o.p : Int))) := (used_all t1.objs).symm
    obtain ⟨_, _, _, _, ⟨_, _, _, y3, _⟩, _⟩ := KR.look k1
    rw [hus] at y3
    refine ⟨rfl, _, hS, by rw [hu2]; exact stays_le hg hS, y3, ?_⟩
    have hK : KTr B F0 w kb cap C2 free2 ((allO (Q.filter fun o => m (o.p : Int))).length : Nat) ((Q.filter fun o => m (o.p : Int)).map fun o => (o.p : Int)) w' := ktr_trans (fun b h => .inl h) e4 ⟨F2, k1, k2, k3⟩
    exact arena_tr g1 g3 g4 g5 hcap hK t1 t2 (by rw [t3, e1.1]; exact hC) (List.Perm.refl _)
  clear g1 g2 g3 g4 g5 hk hst hC hM hcap hua hu2 hg hv hok hl
  go_enter Try.func12, Try.ntmps12
  go_wp2_with fail
  refine HO.out.mono ?_
  rintro e w' ⟨rfl, rfl⟩
  go_wp2_with fail
  refine HMk.out.mono ?_
  rintro e w1 ⟨rfl, C1, m, e1, e2, e3, e5, e4⟩
  have HS := hideP (HSw.out w1 C1 m e1 e2 e3 e4 e5)
  clear e1 e2 e3 e4 e5 HSw HMk
  go_wp2_with fail
  refine HS.out.mono ?_
  rintro e w2 ⟨rfl, M', hs, hle, y3, ht⟩
  obtain ⟨u', hu'⟩ : ∃ u', u' = usedM M' := ⟨_, rfl⟩
  rw [← hu'] at y3 hle
  have HX := hideP (And.intro hs hu')
  clear hs hu' HS
  have hwr : IntKind.i64.wrap ((u : Int) - (u' : Int)) = (u : Int) - (u' : Int) := by rw [IntKind.wrap_i64]; omega
  go_wp2_with fail
  go_ret
  exact ⟨M', by rw [← HX.out.2]; rfl, HX.out.1, ht.out⟩
theorem badL_perm {M M' : Hp} (hp : M.Perm M') {l : List SlotV} : badL M l ↔ badL M' l := by
  unfold badL
  constructor
  · rintro ⟨s, h1, h2, h3⟩; exact ⟨s, h1, h2, fun h => h3 ((has_perm hp).2 h)⟩
  · rintro ⟨s, h1, h2, h3⟩; exact ⟨s, h1, h2, fun h => h3 ((has_perm hp).1 h)⟩
set_option maxRecDepth 100000 in
set_option maxHeartbeats 4000000 in
theorem halloc_c (B a cap : Nat) (F FA : Nat → Prop) (M : Hp) (v : Value) (l : List SlotV) (w : World) (h : ArenaT B F w a cap M) (_hg : GoodM M) (hv : SltV FA w v l) (hF : ∀ b, FA b → ¬ F b) (hok : okSlots l) (hl : l.length ≤ 1000000) (hu : usedM M ≤ 1000000000) :
    Calls Try.prog 14 #[.pointer (some ⟨a, 0, none⟩), v] w fun e w' => ∃ x e0 M', e = .returned (.tuple #[.int .i64 x, .int .i64 e0]) ∧ AllocR cap M l x e0 M' ∧ TrW (fun F w M => ArenaT B F w a cap M) F w M' w' := by
  have HV := hideP hv
  obtain ⟨ao, c, rfl, _⟩ := hv.form
  have HFA := hideP hF
  have HOK := hideP hok
  have HA := hideP h
  obtain ⟨kb, F0, C, free, Q, fr, g1, g2, g3, g4, g5, hk, hst, hC, hM, hcap⟩ := h
  have HO := hideP (own_c a kb w g1)
  have hua : (allO Q).length = usedM M := by rw [← used_all hk.objs, used_perm hM]
  obtain ⟨u, hu2⟩ : ∃ u, u = usedM M := ⟨_, rfl⟩
  rw [← hu2] at hu hua
  have HU := hideP hu2
  have HM := hideP hM
  have hQl : (Q.map fun o => (o.p : Int)).length ≤ 1000000000 := by
    have : ∀ Q : List Ob, Q.length ≤ (allO Q).length := fun Q => by
      induction Q with
      | nil => exact Nat.le_refl _
      | cons o Q ih => rw [show o :: Q = [o] ++ Q from rfl, allO_app, allO_one, List.length_append, List.length_append, List.length_cons, List.length_cons, List.length_nil]; omega
    have := this Q
    rw [List.length_map]
    omega
  have HLK : Hid (∀ W, Ch noB w W → (W.cell? ⟨kb, 2, none⟩ = some (.int .i64 (cap : Int)) ∧ W.cell? ⟨kb, 3, none⟩ = some (.int .i64 (u : Int)))) := fun W hW => by
    obtain ⟨_, _, _, _, ⟨_, _, x2, x3, _⟩, _⟩ := KR.look g2
    rw [hua] at x3
    exact ⟨hW.cell x2 fun h => h, hW.cell x3 fun h => h⟩
  have HHas : Hid (∀ W x, Ch noB w W → x ≤ 9223372036854775807 → Calls Try.prog 25 #[.pointer (some ⟨kb, 0, none⟩), .int .i64 x] W fun e w' => e = .returned (.bool (hasC C x)) ∧ w' = W) := fun W x hW hx => has_c B kb F0 cap free _ C _ x W (KR.ch g2 hW fun _ _ h => h) hx
  have HHB : Hid (∀ x, hasC C x = true ↔ hasM M x) := fun x => (hk.hasB).trans (has_perm hM).symm
  have HPut : Hid (∀ W, Ch noB w W → ¬ badL M l → u + l.length + 1 ≤ cap → Calls Try.prog 26 #[.pointer (some ⟨kb, 0, none⟩), .slice ao l.length c] W fun e w' => ∃ x : Int, e = .returned (.int .i64 x) ∧ Hid (AllocR cap M l x 0 ((x, l) :: M) ∧ TrW (fun F w M => ArenaT B F w a cap M) F w ((x, l) :: M) w')) := fun W hW hb hc => by
    have hK := KR.ch g2 hW fun _ _ h => h
    rw [hua] at hK
    refine (put_c B kb F0 FA cap free u C _ Q fr _ l W hK hk hua.symm hQl hu (hv.ch hW fun _ _ _ h => h) (fun b h1 h2 => hF b h1 (g3 b h2).1) hl hC).mono ?_
    rintro e w' ⟨o, C', free', fr', rfl, rfl, t1, t2, t3, t4, t5, t6⟩
    have hnh : ¬ hasM M (o.p : Int) := fun h => by
      obtain ⟨o', ho', e⟩ := hp_has.1 ((has_perm hM).1 h)
      have hn := t2.heads
      rw [List.map_append, List.map_cons, List.map_nil] at hn
      have := (List.nodup_append.1 hn).2.2 o'.p (List.mem_map.2 ⟨o', ho', rfl⟩) o.p (List.mem_singleton.2 rfl)
      omega
    refine ⟨_, rfl, .inr (.inr ⟨hb, by rw [← hu2]; exact hc, rfl, by omega, by omega, hnh, rfl⟩), ?_⟩
    have hal : (allO (Q ++ [o])).length = u + o.l.length + 1 := by
      obtain ⟨_, _, _, _, t7⟩ := t2.objs o (List.mem_append_right _ (List.mem_singleton.2 rfl))
      rw [allO_app, allO_one, List.length_append, List.length_cons, slots_len t7, hua]
      omega
    have hK2 : KTr B F0 w kb cap C' free' ((allO (Q ++ [o])).length : Nat) ((Q ++ [o]).map fun o => (o.p : Int)) w' := by
      rw [hal, List.map_append]
      exact ktr_trans (fun b h => .inl h) (hW.mono fun _ _ h => h.elim) t5
    refine arena_tr g1 g3 g4 g5 hcap hK2 t2 (fun o' ho' c hc => ?_) t6 ?_
    · rcases List.mem_append.1 ho' with h | h
      · exact (stq_frame hst t3) o' h c hc
      · rw [List.mem_singleton.1 h] at hc
        exact t4 c hc
    · unfold hpO
      rw [List.map_append]
      exact (List.Perm.cons _ hM).trans (List.perm_append_comm (l₁ := [((o.p : Int), o.l)]) (l₂ := hpO Q))
  obtain ⟨n, hn⟩ : ∃ n, n = l.length := ⟨_, rfl⟩
  rw [← hn] at hl HPut HV ⊢
  have HN := hideP hn
  clear hv hF hok g1 g2 g3 g4 g5 hk hst hM hua hu2 hQl hn
  go_enter Try.func14, Try.ntmps14
  go_wp2_with fail
  refine HO.out.mono ?_
  rintro e w' ⟨rfl, rfl⟩
  go_wp2_with fail
  go_loopw [13] (fun i wr => ∃ j : Nat, i = .int .i64 j ∧ j ≤ n ∧ Hid (∀ s ∈ l.take j, s.ref = true → hasM M s.n) ∧ Hid (Ch noB w' wr)) (fun i _ => n - (intOf i).toNat)
  case atStart => exact ⟨0, rfl, Nat.zero_le _, fun _ h => (nomatch h), Ch.refl _ _⟩
  case round =>
    obtain ⟨j, rfl, hj, HB, HC⟩ := hrel
    by_cases hjn : j < n
    · have hjl : (j : Int) < (n : Int) := by omega
      have hj0 : (0 : Int) ≤ (j : Int) := by omega
      have hjL : j < l.length := by rw [← HN.out]; exact hjn
      obtain ⟨ao', c', e, _, _, hf⟩ := (HV.out.ch HC.out fun _ _ _ h => h).form
      injection e with e1 e0 e2
      clear e0
      subst e1 e2
      obtain ⟨b, o, rfl, _, _, c0, c1⟩ := hf j hjL
      obtain ⟨⟨sr, sn⟩, hs⟩ : ∃ s, s = l[j] := ⟨_, rfl⟩
      have hob := HOK.out _ (List.getElem_mem hjL)
      have hmem : (⟨sr, sn⟩ : SlotV) ∈ l := by rw [hs]; exact List.getElem_mem hjL
      have hnext : (sr = true → hasM M sn) → ∀ s ∈ l.take (j + 1), s.ref = true → hasM M s.n := fun hh s hs2 hr => by
        rw [List.take_succ_eq_append_getElem hjL, ← hs] at hs2
        rcases List.mem_append.1 hs2 with h | h
        · exact HB.out s h hr
        · rw [List.mem_singleton.1 h] at hr ⊢
          exact hh hr
      rw [← hs] at c0 c1 hob
      simp only at c0 c1 hob
      have HX := hideP hnext
      have HMem := hideP hmem
      have HC2 : Hid (Ch noB w' (wr.alloc (.cells #[.bool sr, .int .i64 sn] 47))) := HC.out.alloc _
      clear hf hs hnext hmem hjL
      cases sr with
      | false =>
        have HX2 : Hid (∀ s ∈ l.take (j + 1), s.ref = true → hasM M s.n) := HX.out fun h => (nomatch h)
        clear HX
        go_wp2_with fail
        exact ⟨⟨j + 1, by go_num, by omega, HX2.out, HC2.out⟩, by simp [intOf]; omega⟩
      | true =>
        have HH := hideP (HHas.out _ sn HC2.out hob.2)
        have HHB2 := hideP (HHB.out sn)
        cases hh : hasC C sn with
        | true =>
          rw [hh] at HH HHB2
          have HX2 : Hid (∀ s ∈ l.take (j + 1), s.ref = true → hasM M s.n) := HX.out fun _ => HHB2.out.1 rfl
          clear hh HX HHB2
          go_wp2_with fail
          refine HH.out.mono ?_
          rintro e w4 ⟨rfl, rfl⟩
          clear HH
          go_wp2_with fail
          exact ⟨⟨j + 1, by go_num, by omega, HX2.out, HC2.out⟩, by simp [intOf]; omega⟩
        | false =>
          rw [hh] at HH HHB2
          have HBad : Hid (badL M l) := ⟨_, HMem.out, rfl, fun h => absurd (HHB2.out.2 h) (by decide)⟩
          clear hh HX HHB2
          go_wp2_with fail
          refine HH.out.mono ?_
          rintro e w4 ⟨rfl, rfl⟩
          clear HH
          go_wp2_with fail
          go_ret2
          exact ⟨_, _, M, rfl, .inl ⟨HBad.out, rfl, rfl, rfl⟩, ⟨F, HA.out.ch HC2.out fun _ _ h => h, fun _ h => .inl h, HC2.out.mono fun _ _ h => h.elim⟩⟩
    · have hjl : ¬ (j : Int) < (n : Int) := by omega
      obtain rfl : j = n := by omega
      have HNB : Hid (¬ badL M l) := by
        rintro ⟨s, h1, h2, h3⟩
        exact h3 (HB.out s (by rw [List.take_of_length_le (by rw [← HN.out]; exact Nat.le_refl _)]; exact h1) h2)
      obtain ⟨x2, x3⟩ := HLK.out wr HC.out
      have w1 : IntKind.i64.wrap ((cap : Int) - (u : Int)) = (cap : Int) - (u : Int) := by rw [IntKind.wrap_i64]; omega
      have w2 : IntKind.i64.wrap ((j : Int) + 1) = (j : Int) + 1 := by rw [IntKind.wrap_i64]; omega
      by_cases hcp : (cap : Int) - (u : Int) < (j : Int) + 1
      · go_wp2_with fail
        go_region
        all_goals
          go_wp2_with fail
          go_ret2
          exact ⟨_, _, M, rfl, .inr (.inl ⟨HNB.out, by rw [← HU.out, ← HN.out]; omega, rfl, rfl, rfl⟩), ⟨F, HA.out.ch HC.out.drew fun _ _ h => h, fun _ h => .inl h, HC.out.drew.mono fun _ _ h => h.elim⟩⟩
      · have HP := hideP (HPut.out wr.drew HC.out.drew HNB.out (by omega))
        go_wp2_with fail
        go_region
        all_goals
          go_wp2_with fail
          refine HP.out.mono ?_
          rintro e w4 ⟨x, rfl, HR⟩
          go_wp2_with fail
          go_ret2
          exact ⟨x, 0, _, rfl, HR.out.1, HR.out.2⟩
end Go.Proofs.Ytcpmdbdppdnkkaa
