/- The program's places: at, put, with. -/
import Derived.Test.YtldcfglkcifklaaShK
namespace Go.Proofs.Ytldcfglkcifklaa
open Go.RowKit

/-- A tree of places in memory, at most d deep: all its blocks are of G. -/
def PAt (G : Nat → Prop) (w : World) : Nat → Value → (Nat → Option Nat) → Prop
  | 0, v, f => v = .pointer none ∧ ∀ n, 1 ≤ n → f n = none
  | d + 1, v, f => (v = .pointer none ∧ ∀ n, 1 ≤ n → f n = none) ∨ ∃ (b : Nat) (k0 k1 : Value) (p : Nat), v = .pointer (some ⟨b, 0, none⟩) ∧ G b ∧ w.heap[b]? = some (.cells #[k0, k1, .int .i64 p] 70) ∧ p ≤ 1000001 ∧
      f 1 = (if p = 0 then none else some (p - 1)) ∧ PAt G w d k0 (fun n => f (2 * n)) ∧ PAt G w d k1 (fun n => f (2 * n + 1))
section
variable {G G' S : Nat → Prop} {w w' : World}
theorem PAt.ch (hc : Ch S w w') (hs : ∀ b, G b → ¬ S b) : ∀ {d : Nat} {v : Value} {f : Nat → Option Nat}, PAt G w d v f → PAt G w' d v f
  | 0, _, _, h => h
  | _ + 1, _, _, .inl h => .inl h
  | _ + 1, _, _, .inr ⟨b, k0, k1, p, e, hg, hb, hp, h1, h2, h3⟩ => .inr ⟨b, k0, k1, p, e, hg, hc.obj hb (hs b hg), hp, h1, h2.ch hc hs, h3.ch hc hs⟩
/-- What turned is no place. -/
theorem PAt.ch' (hc : Ch S w w') (hs : ∀ b cs, S b → w.heap[b]? ≠ some (.cells cs 70)) : ∀ {d : Nat} {v : Value} {f : Nat → Option Nat}, PAt G w d v f → PAt G w' d v f
  | 0, _, _, h => h
  | _ + 1, _, _, .inl h => .inl h
  | _ + 1, _, _, .inr ⟨b, k0, k1, p, e, hg, hb, hp, h1, h2, h3⟩ => .inr ⟨b, k0, k1, p, e, hg, hc.obj hb (fun h => hs b _ h hb), hp, h1, h2.ch' hc hs, h3.ch' hc hs⟩
theorem PAt.mono (hG : ∀ b, b < w.heap.size → G b → G' b) : ∀ {d : Nat} {v : Value} {f : Nat → Option Nat}, PAt G w d v f → PAt G' w d v f
  | 0, _, _, h => h
  | _ + 1, _, _, .inl h => .inl h
  | _ + 1, _, _, .inr ⟨b, k0, k1, p, e, hg, hb, hp, h1, h2, h3⟩ => .inr ⟨b, k0, k1, p, e, hG b (lt_of_block hb) hg, hb, hp, h1, h2.mono hG, h3.mono hG⟩
theorem PAt.ext : ∀ {d : Nat} {v : Value} {f g : Nat → Option Nat}, (∀ n, 1 ≤ n → f n = g n) → PAt G w d v f → PAt G w d v g
  | 0, _, _, _, hfg, h => ⟨h.1, fun n hn => (hfg n hn).symm.trans (h.2 n hn)⟩
  | _ + 1, _, _, _, hfg, .inl h => .inl ⟨h.1, fun n hn => (hfg n hn).symm.trans (h.2 n hn)⟩
  | _ + 1, _, _, _, hfg, .inr ⟨b, k0, k1, p, e, hg, hb, hp, h1, h2, h3⟩ => .inr ⟨b, k0, k1, p, e, hg, hb, hp, (hfg 1 (Nat.le_refl _)).symm.trans h1, h2.ext fun n hn => hfg (2 * n) (by omega), h3.ext fun n hn => hfg (2 * n + 1) (by omega)⟩
theorem PAt.nil {d : Nat} {f : Nat → Option Nat} (h : ∀ n, 1 ≤ n → f n = none) : PAt G w d (.pointer none) f := by
  cases d with
  | zero => exact ⟨rfl, h⟩
  | succ d => exact .inl ⟨rfl, h⟩
/-- One node. -/
theorem PAt.cases {d : Nat} {v : Value} {f : Nat → Option Nat} (h : PAt G w d v f) : (v = .pointer none ∧ ∀ n, 1 ≤ n → f n = none) ∨ ∃ (d' b : Nat) (k0 k1 : Value) (p : Nat), d = d' + 1 ∧ v = .pointer (some ⟨b, 0, none⟩) ∧ G b ∧ w.heap[b]? = some (.cells #[k0, k1, .int .i64 p] 70) ∧ p ≤ 1000001 ∧
      f 1 = (if p = 0 then none else some (p - 1)) ∧ PAt G w d' k0 (fun n => f (2 * n)) ∧ PAt G w d' k1 (fun n => f (2 * n + 1)) := by
  cases d with
  | zero => exact .inl h
  | succ d =>
    rcases h with h | ⟨b, k0, k1, p, h⟩
    · exact .inl h
    · exact .inr ⟨d, b, k0, k1, p, rfl, h⟩
theorem PAt.ptr {d : Nat} {v : Value} {f : Nat → Option Nat} (h : PAt G w d v f) : ∃ ao, v = .pointer ao := by
  rcases h.cases with h | ⟨_, _, _, _, _, _, h, _⟩
  · exact ⟨_, h.1⟩
  · exact ⟨_, h⟩
end
theorem box3 {W : World} {b : Nat} {x0 x1 x2 : Value} {t : TypeId} (h : W.heap[b]? = some (.cells #[x0, x1, x2] t)) : (W.cell? ⟨b, 0, none⟩ = some x0 ∧ W.cell? ⟨b, 1, none⟩ = some x1 ∧ W.cell? ⟨b, 2, none⟩ = some x2) ∧ (W.frozen? ⟨b, 0, none⟩ = false ∧ W.frozen? ⟨b, 1, none⟩ = false ∧ W.frozen? ⟨b, 2, none⟩ = false) ∧ b < W.heap.size := by
  refine ⟨⟨?_, ?_, ?_⟩, ⟨?_, ?_, ?_⟩, lt_of_block h⟩
  all_goals first | (rw [cell_of_row _ _ _ _ _ _ h]; rfl) | simp [World.frozen?, h]
theorem and1 (m : Nat) (h : m ≤ 1000001) : bits .and .i64 (m : Int) 1 = ((m % 2 : Nat) : Int) := by
  show IntKind.i64.wrap ((BitVec.ofInt 64 (m : Int) &&& BitVec.ofInt 64 1).toNat : Int) = _
  have e1 : (BitVec.ofInt 64 1).toNat = 2 ^ 1 - 1 := by decide
  rw [BitVec.toNat_and, e1, Nat.and_two_pow_sub_one_eq_mod, BitVec.toNat_ofInt, IntKind.wrap_i64]
  omega
theorem and1e {m : Nat} (h : m ≤ 1000001) (he : m % 2 = 0) : bits .and .i64 (m : Int) 1 = 0 := by rw [and1 m h, he]; rfl
theorem and1o {m : Nat} (h : m ≤ 1000001) (he : m % 2 = 1) : bits .and .i64 (m : Int) 1 = 1 := by rw [and1 m h, he]; rfl
def atR (r : Option Nat) : Value := .tuple #[.int .i64 ((r.getD 0 : Nat) : Int), .bool r.isSome]
set_option maxRecDepth 100000 in
set_option maxHeartbeats 4000000 in
theorem at_c (G : Nat → Prop) (d : Nat) (v : Value) (f : Nat → Option Nat) (n : Nat) (w : World) (h : PAt G w d v f) (hn : n ≤ 1000000) :
    Calls Try.prog 21 #[v, .int .i64 n] w fun e w' => e = .returned (atR (f (n + 1))) ∧ w' = w := by
  obtain ⟨R, hR⟩ : ∃ R, R = f (n + 1) := ⟨_, rfl⟩
  rw [← hR]
  have H := hideP h
  have HR := hideP hR
  clear h hR
  go_enter Try.func21, Try.ntmps21
  go_wp2_with fail
  go_loopw [0, 1] (fun v i wr => ∃ (m : Nat) (d : Nat) (g : Nat → Option Nat), i = .int .i64 m ∧ 1 ≤ m ∧ m ≤ 1000001 ∧ Hid (PAt G w d v g) ∧ Hid (R = g m) ∧ Hid (wr = w)) (fun _ i _ => (intOf i).toNat)
  case atStart => exact ⟨n + 1, d, f, by go_num, by omega, by omega, H.out, HR.out, rfl⟩
  case round =>
    obtain ⟨m, d, g, rfl, hm1, hm2, HP, HG, HW⟩ := hrel
    have hw := HW.out
    subst hw
    clear HW
    rcases HP.out.cases with ⟨rfl, hnone⟩ | ⟨d', b, k0, k1, p, rfl, rfl, hg, hb, hp, h1, h2, h3⟩
    · have hRn : R = none := HG.out.trans (hnone m hm1)
      subst hRn
      clear hnone HP HR HG
      by_cases hgt : 1 < m
      · have hgt' : (m : Int) > 1 := by omega
        go_wp2_with fail
        go_ret2
        exact ⟨rfl, rfl⟩
      · have hgt' : ¬ (m : Int) > 1 := by omega
        go_wp2_with fail
        go_ret2
        exact ⟨rfl, rfl⟩
    · obtain ⟨⟨c0, c1, c2⟩, _, _⟩ := box3 hb
      have H2 := hideP h2
      have H3 := hideP h3
      have H1 := hideP h1
      clear h1 h2 h3 hb HP HR
      by_cases hgt : 1 < m
      · have hgt' : (m : Int) > 1 := by omega
        by_cases hpar : m % 2 = 0
        · have ha := and1e hm2 hpar
          go_wp2_with fail
          exact ⟨⟨m / 2, d', _, by go_num, by omega, by omega, H2.out, by rw [show 2 * (m / 2) = m by omega]; exact HG.out, True.intro⟩, by simp [intOf]; omega⟩
        · have ha := and1o hm2 (show m % 2 = 1 by omega)
          go_wp2_with fail
          exact ⟨⟨m / 2, d', _, by go_num, by omega, by omega, H3.out, by rw [show 2 * (m / 2) + 1 = m by omega]; exact HG.out, True.intro⟩, by simp [intOf]; omega⟩
      · have hgt' : ¬ (m : Int) > 1 := by omega
        obtain rfl : m = 1 := by omega
        by_cases hp0 : p = 0
        · subst hp0
          have hRn : R = none := by rw [HG.out, H1.out, if_pos rfl]
          subst hRn
          go_wp2_with fail
          go_ret2
          exact ⟨rfl, rfl⟩
        · have hRn : R = some (p - 1) := by rw [HG.out, H1.out, if_neg hp0]
          subst hRn
          have hpi : ((p : Int) == 0) = false := by simp; omega
          go_wp2_with fail
          go_ret2
          exact ⟨by unfold atR; simp; omega, rfl⟩
/-- A place more. -/
def putF (f : Nat → Option Nat) (m p : Nat) : Nat → Option Nat := fun n => if n = m then some (p - 1) else f n
/-- What put leaves. -/
def PutP (G : Nat → Prop) (d : Nat) (f : Nat → Option Nat) (m p : Nat) (w : World) (e : Ending) (w' : World) : Prop := ∃ b, e = .returned (.pointer (some ⟨b, 0, none⟩)) ∧ PAt (fun b => G b ∨ (w.heap.size ≤ b ∧ b < w'.heap.size)) w' d (.pointer (some ⟨b, 0, none⟩)) (putF f m p) ∧ Ch (fun _ => False) w w'
section
variable {G : Nat → Prop} {d m p q : Nat} {k0 k1 u : Value} {f : Nat → Option Nat} {w w1 w2 : World}
theorem pow_half {d m : Nat} (h : m < 2 ^ (d + 1)) : m / 2 < 2 ^ d := by
  rw [Nat.pow_succ] at h
  omega
theorem put_done1 (hp : 1 ≤ p) (hp2 : p ≤ 1000001) (h0 : PAt G w d k0 (fun n => f (2 * n))) (h1 : PAt G w d k1 (fun n => f (2 * n + 1))) (hc : Ch (fun _ => False) w w1) (hb : w1.heap[w.heap.size]? = some (.cells #[k0, k1, .int .i64 p] 70)) :
    PutP G (d + 1) f 1 p w (.returned (.pointer (some ⟨w.heap.size, 0, none⟩))) w1 := by
  refine ⟨_, rfl, .inr ⟨w.heap.size, k0, k1, p, rfl, .inr ⟨Nat.le_refl _, lt_of_block hb⟩, hb, hp2, ?_, ?_, ?_⟩, hc⟩
  · unfold putF
    rw [if_pos rfl, if_neg (by omega)]
  · refine ((h0.ch hc fun _ _ h => h).mono fun b _ hb => .inl hb).ext fun n hn => ?_
    unfold putF
    rw [if_neg (by omega)]
  · refine ((h1.ch hc fun _ _ h => h).mono fun b _ hb => .inl hb).ext fun n hn => ?_
    unfold putF
    rw [if_neg (by omega)]
theorem put_done (hm : 1 < m) (hq : q ≤ 1000001) (f1 : f 1 = if q = 0 then none else some (q - 1)) (h0 : PAt G w d k0 (fun n => f (2 * n))) (h1 : PAt G w d k1 (fun n => f (2 * n + 1))) (hs : w1.heap.size = w.heap.size + 1) (hc : Ch (fun _ => False) w w1) (hb : w1.heap[w.heap.size]? = some (.cells #[k0, k1, .int .i64 q] 70)) (hG : ∀ b, G b → b < w.heap.size)
    (r : Nat) (hr : m % 2 = r) (b' : Nat) (hp' : PAt (fun b => G b ∨ (w1.heap.size ≤ b ∧ b < w2.heap.size)) w2 d (.pointer (some ⟨b', 0, none⟩)) (putF (fun n => f (2 * n + r)) (m / 2) p)) (hc2 : Ch (fun _ => False) w1 w2) :
    PutP G (d + 1) f m p w (.returned (.pointer (some ⟨w.heap.size, 0, none⟩))) (w2.setCell ⟨w.heap.size, r, none⟩ (.pointer (some ⟨b', 0, none⟩))) := by
  have hb2 := hc2.obj hb fun h => h
  have hs2 := hc2.size
  have hc3 : Ch (fun b => b = w.heap.size) w2 (w2.setCell ⟨w.heap.size, r, none⟩ (.pointer (some ⟨b', 0, none⟩))) := (Ch.refl (fun b => b = w.heap.size) w2).set (fun _ => rfl) _ _
  have hc12 := hc.trans hc2 fun _ _ h => h
  have hold : ∀ {k : Value} {g : Nat → Option Nat}, PAt G w d k g → PAt (fun b => G b ∨ (w.heap.size ≤ b ∧ b < (w2.setCell ⟨w.heap.size, r, none⟩ (.pointer (some ⟨b', 0, none⟩))).heap.size)) (w2.setCell ⟨w.heap.size, r, none⟩ (.pointer (some ⟨b', 0, none⟩))) d k g := fun h => ((h.ch hc12 fun _ _ h => h).ch hc3 fun b hb e => by have := hG b hb; omega).mono fun b _ hb => .inl hb
  have hnew := (hp'.ch hc3 fun b hb e => by
    rcases hb with hb | hb
    · have := hG b hb; omega
    · omega).mono (G' := fun b => G b ∨ (w.heap.size ≤ b ∧ b < (w2.setCell ⟨w.heap.size, r, none⟩ (.pointer (some ⟨b', 0, none⟩))).heap.size)) fun b _ hb => by
      rw [size_set]
      rcases hb with hb | hb
      · exact .inl hb
      · exact .inr ⟨by omega, hb.2⟩
  have hcell := cells_setCell (o := r) (u := .pointer (some ⟨b', 0, none⟩)) hb2
  refine ⟨_, rfl, ?_, (hc12.set (fun h => absurd h (by omega)) _ _)⟩
  have hput1 : putF f m p 1 = if q = 0 then none else some (q - 1) := by
    unfold putF
    rw [if_neg (by omega), f1]
  have hr2 : r = 0 ∨ r = 1 := by omega
  rcases hr2 with rfl | rfl
  · refine .inr ⟨w.heap.size, .pointer (some ⟨b', 0, none⟩), k1, q, rfl, .inr ⟨Nat.le_refl _, by rw [size_set]; omega⟩, by simpa using hcell, hq, hput1, hnew.ext fun n hn => ?_, (hold h1).ext fun n hn => ?_⟩
    · unfold putF
      by_cases e : n = m / 2
      · rw [if_pos e, if_pos (by omega)]
      · rw [if_neg e, if_neg (by omega)]
        rfl
    · unfold putF
      rw [if_neg (by omega)]
  · refine .inr ⟨w.heap.size, k0, .pointer (some ⟨b', 0, none⟩), q, rfl, .inr ⟨Nat.le_refl _, by rw [size_set]; omega⟩, by simpa using hcell, hq, hput1, (hold h0).ext fun n hn => ?_, hnew.ext fun n hn => ?_⟩
    · unfold putF
      rw [if_neg (by omega)]
    · unfold putF
      by_cases e : n = m / 2
      · rw [if_pos e, if_pos (by omega)]
      · rw [if_neg e, if_neg (by omega)]
end
set_option maxRecDepth 100000 in
set_option maxHeartbeats 4000000 in
theorem put_c (G : Nat → Prop) (p : Nat) (hp : 1 ≤ p) (hp2 : p ≤ 1000001) : ∀ (d : Nat) (v : Value) (f : Nat → Option Nat) (m : Nat) (w : World), PAt G w d v f → 1 ≤ m → m < 2 ^ d → m ≤ 1000001 → (∀ b, G b → b < w.heap.size) →
    Calls Try.prog 28 #[v, .int .i64 m, .int .i64 p] w (PutP G d f m p w) := by
  intro d
  induction d with
  | zero =>
    intro v f m w _ h1 h2 _ _
    omega
  | succ d ih =>
    intro v f m w h h1 h2 h3 hlt
    have IH := hideP ih
    have HLT := hideP hlt
    have H2 : Hid (m < 2 ^ (d + 1)) := h2
    clear ih hlt h2
    rcases h.cases with ⟨rfl, hnone⟩ | ⟨d', b, k0, k1, q, hd, rfl, hg, hb, hq, f1, g2, g3⟩
    · have g2 : Hid (PAt G w d (.pointer none) (fun n => f (2 * n))) := PAt.nil fun n hn => hnone _ (by omega)
      have g3 : Hid (PAt G w d (.pointer none) (fun n => f (2 * n + 1))) := PAt.nil fun n hn => hnone _ (by omega)
      have f1 : Hid (f 1 = if 0 = 0 then none else some (0 - 1)) := hnone 1 (Nat.le_refl _)
      have HN := hideP hnone
      clear hnone h
      by_cases hm : m = 1
      · subst hm
        go_enter Try.func28, Try.ntmps28
        go_wp2_with fail
        go_ret
        exact put_done1 hp hp2 g2.out g3.out ((Ch.refl _ w).alloc _) (heap_alloc_last w _)
      · have hm0 : ((m : Int) == 1) = false := by simp; omega
        have hhalf : (m : Int) / 2 = ((m / 2 : Nat) : Int) := by omega
        have HC : Hid (∀ r o, r < 2 → Calls Try.prog 28 #[.pointer none, .int .i64 ((m : Int) / 2), .int .i64 p] (w.alloc o) (PutP G d (fun n => f (2 * n + r)) (m / 2) p (w.alloc o))) := fun r o hr => by
          rw [hhalf]
          refine IH.out _ _ (m / 2) _ (PAt.nil fun n hn => HN.out _ (by omega)) (by omega) (pow_half H2.out) (by omega) (fun b hb => by have := HLT.out b hb; rw [World.size_alloc]; omega)
        rcases (show m % 2 = 0 ∨ m % 2 = 1 by omega) with hpar | hpar
        · have ha := and1e h3 hpar
          clear hhalf
          go_enter Try.func28, Try.ntmps28
          go_wp2_with fail
          refine (HC.out 0 _ (by decide)).mono ?_
          rintro e w2 ⟨b', rfl, hpt, hc2⟩
          have HPT := hideP hpt
          have HC2 := hideP hc2
          obtain ⟨_, ⟨z0, z1, z2⟩, hlw⟩ := box3 (hc2.obj (heap_alloc_last w _) fun h => h)
          clear hpt hc2
          go_wp2_with fail
          go_ret
          exact put_done (q := 0) (by omega) (Nat.zero_le _) f1.out g2.out g3.out (World.size_alloc _ _) ((Ch.refl _ w).alloc _) (heap_alloc_last w _) HLT.out 0 hpar b' HPT.out HC2.out
        · have ha := and1o h3 hpar
          clear hhalf
          go_enter Try.func28, Try.ntmps28
          go_wp2_with fail
          refine (HC.out 1 _ (by decide)).mono ?_
          rintro e w2 ⟨b', rfl, hpt, hc2⟩
          have HPT := hideP hpt
          have HC2 := hideP hc2
          obtain ⟨_, ⟨z0, z1, z2⟩, hlw⟩ := box3 (hc2.obj (heap_alloc_last w _) fun h => h)
          clear hpt hc2
          go_wp2_with fail
          go_ret
          exact put_done (q := 0) (by omega) (Nat.zero_le _) f1.out g2.out g3.out (World.size_alloc _ _) ((Ch.refl _ w).alloc _) (heap_alloc_last w _) HLT.out 1 hpar b' HPT.out HC2.out
    · obtain rfl : d' = d := by omega
      obtain ⟨⟨c0, c1, c2⟩, _, hbl⟩ := box3 hb
      have G2 := hideP g2
      have G3 := hideP g3
      have F1 := hideP f1
      obtain ⟨a0, rfl⟩ := g2.ptr
      obtain ⟨a1, rfl⟩ := g3.ptr
      clear g2 g3 f1 hb h hd
      by_cases hm : m = 1
      · subst hm
        go_enter Try.func28, Try.ntmps28
        go_wp2_with fail
        go_ret
        exact put_done1 hp hp2 G2.out G3.out ((Ch.refl _ w).alloc _) (heap_alloc_last w _)
      · have hm0 : ((m : Int) == 1) = false := by simp; omega
        have hhalf : (m : Int) / 2 = ((m / 2 : Nat) : Int) := by omega
        have HC0 : Hid (∀ o, Calls Try.prog 28 #[.pointer a0, .int .i64 ((m : Int) / 2), .int .i64 p] (w.alloc o) (PutP G d' (fun n => f (2 * n)) (m / 2) p (w.alloc o))) := fun o => by
          rw [hhalf]
          exact IH.out _ _ (m / 2) _ (G2.out.ch ((Ch.refl (fun _ => False) w).alloc _) fun _ _ h => h) (by omega) (pow_half H2.out) (by omega) (fun b hb => by have := HLT.out b hb; rw [World.size_alloc]; omega)
        have HC1 : Hid (∀ o, Calls Try.prog 28 #[.pointer a1, .int .i64 ((m : Int) / 2), .int .i64 p] (w.alloc o) (PutP G d' (fun n => f (2 * n + 1)) (m / 2) p (w.alloc o))) := fun o => by
          rw [hhalf]
          exact IH.out _ _ (m / 2) _ (G3.out.ch ((Ch.refl (fun _ => False) w).alloc _) fun _ _ h => h) (by omega) (pow_half H2.out) (by omega) (fun b hb => by have := HLT.out b hb; rw [World.size_alloc]; omega)
        rcases (show m % 2 = 0 ∨ m % 2 = 1 by omega) with hpar | hpar
        · have ha := and1e h3 hpar
          clear hhalf
          go_enter Try.func28, Try.ntmps28
          go_wp2_with fail
          refine (HC0.out _).mono ?_
          rintro e w2 ⟨b', rfl, hpt, hc2⟩
          have HPT := hideP hpt
          have HC2 := hideP hc2
          obtain ⟨_, ⟨z0, z1, z2⟩, hlw⟩ := box3 (hc2.obj (heap_alloc_last w _) fun h => h)
          clear hpt hc2
          go_wp2_with fail
          go_ret
          exact put_done (by omega) hq F1.out G2.out G3.out (World.size_alloc _ _) ((Ch.refl _ w).alloc _) (heap_alloc_last w _) HLT.out 0 hpar b' HPT.out HC2.out
        · have ha := and1o h3 hpar
          clear hhalf
          go_enter Try.func28, Try.ntmps28
          go_wp2_with fail
          refine (HC1.out _).mono ?_
          rintro e w2 ⟨b', rfl, hpt, hc2⟩
          have HPT := hideP hpt
          have HC2 := hideP hc2
          obtain ⟨_, ⟨z0, z1, z2⟩, hlw⟩ := box3 (hc2.obj (heap_alloc_last w _) fun h => h)
          clear hpt hc2
          go_wp2_with fail
          go_ret
          exact put_done (by omega) hq F1.out G2.out G3.out (World.size_alloc _ _) ((Ch.refl _ w).alloc _) (heap_alloc_last w _) HLT.out 1 hpar b' HPT.out HC2.out
/-- A tree of places, deep enough for every number. -/
structure PT (G : Nat → Prop) (w : World) (v : Value) (f : Nat → Option Nat) : Prop where
  ex : ∃ d, 1000002 ≤ 2 ^ d ∧ PAt G w d v f
section
variable {G G' S : Nat → Prop} {w w' : World} {v : Value} {f g : Nat → Option Nat}
theorem PT.ch (h : PT G w v f) (hc : Ch S w w') (hs : ∀ b, G b → ¬ S b) : PT G w' v f := by
  obtain ⟨d, h1, h2⟩ := h.ex
  exact ⟨d, h1, h2.ch hc hs⟩
theorem PT.ch' (h : PT G w v f) (hc : Ch S w w') (hs : ∀ b cs, S b → w.heap[b]? ≠ some (.cells cs 70)) : PT G w' v f := by
  obtain ⟨d, h1, h2⟩ := h.ex
  exact ⟨d, h1, h2.ch' hc hs⟩
theorem PT.mono (h : PT G w v f) (hG : ∀ b, b < w.heap.size → G b → G' b) : PT G' w v f := by
  obtain ⟨d, h1, h2⟩ := h.ex
  exact ⟨d, h1, h2.mono hG⟩
theorem PT.ext (h : PT G w v f) (hfg : ∀ n, 1 ≤ n → f n = g n) : PT G w v g := by
  obtain ⟨d, h1, h2⟩ := h.ex
  exact ⟨d, h1, h2.ext hfg⟩
theorem PT.ptr (h : PT G w v f) : ∃ ao, v = .pointer ao := by
  obtain ⟨d, h1, h2⟩ := h.ex
  exact h2.ptr
theorem pT_nil (h : ∀ n, 1 ≤ n → f n = none) : PT G w (.pointer none) f := ⟨20, by decide, PAt.nil h⟩
end
/-- What with leaves. -/
def PutT (G : Nat → Prop) (f : Nat → Option Nat) (m p : Nat) (w : World) (e : Ending) (w' : World) : Prop := ∃ b, e = .returned (.pointer (some ⟨b, 0, none⟩)) ∧ PT (fun b => G b ∨ (w.heap.size ≤ b ∧ b < w'.heap.size)) w' (.pointer (some ⟨b, 0, none⟩)) (putF f m p) ∧ Ch (fun _ => False) w w'
set_option maxHeartbeats 4000000 in
theorem with_c (G : Nat → Prop) (v : Value) (f : Nat → Option Nat) (n place : Nat) (w : World) (h : PT G w v f) (hn : n ≤ 1000000) (hp : place ≤ 1000000) (hG : ∀ b, G b → b < w.heap.size) :
    Calls Try.prog 26 #[v, .int .i64 n, .int .i64 place] w (PutT G f (n + 1) (place + 1) w) := by
  obtain ⟨d, hd, h⟩ := h.ex
  have HC := hideP (put_c G (place + 1) (by omega) (by omega) d v f (n + 1) w h (by omega) (by omega) (by omega) hG)
  have e1 : (((n + 1 : Nat)) : Int) = (n : Int) + 1 := by omega
  have e2 : (((place + 1 : Nat)) : Int) = (place : Int) + 1 := by omega
  rw [e1, e2] at HC
  have HD := hideP hd
  clear h hG e1 e2 hd
  go_enter Try.func26, Try.ntmps26
  go_wp2_with fail
  refine HC.out.mono ?_
  rintro e w2 ⟨b', rfl, hpt, hc2⟩
  have HPT := hideP hpt
  have HC2 := hideP hc2
  clear hpt hc2
  go_wp2_with fail
  go_ret
  exact ⟨b', rfl, ⟨d, HD.out, HPT.out⟩, HC2.out⟩
end Go.Proofs.Ytldcfglkcifklaa
