/- The program's arena: mark. -/
import Derived.Test.YtcpmdbdppdnkkaaHcX
import Derived.Lib.SliceRun
namespace Go.Proofs.Ytcpmdbdppdnkkaa
open Go.RowKit

theorem reach_c (B : Nat) (F : Nat → Prop) (w0 : World) (kb : Nat) (room free used : Int) (os : List Int) (C : List CellV) (Q : List Ob) (fr : List Nat) (bx lb rb : Nat) (hB : MkB F w0.heap.size bx lb rb) (hk : Kp C free Q fr []) (hg : GoodM (hpO Q)) (hC : C.length ≤ 2000000000) : ∀ f, ReachOk B F w0 kb room free used os C Q bx lb rb f
  | 0 => rch_step B F w0 kb room free used os C Q fr bx lb rb 0 hB hk hg hC fun _ h => (nomatch h)
  | f + 1 => rch_step B F w0 kb room free used os C Q fr bx lb rb (f + 1) hB hk hg hC fun f' h => by
    injection h with h
    subst h
    exact reach_c B F w0 kb room free used os C Q fr bx lb rb hB hk hg hC f
set_option maxRecDepth 100000 in
set_option maxHeartbeats 4000000 in
theorem kclone_c (FA : Nat → Prop) (v : Value) (ns : List Int) (w : World) (hv : IntV FA w v ns) (hl : ns.length ≤ 1000000) :
    Calls Try.prog 30 #[v] w fun e w' => ∃ v', e = .returned v' ∧ w'.ownsRow w.heap.size 3 1 v' ns.length (ns.map (Value.int .i64)) ∧ Ch noB w w' := by
  obtain ⟨i0, hi, hz0, hz1, hz2⟩ := info_parts info_intC
  have q22 : ∀ (w : World) (a : Option Addr) (n c n' c' : Nat), (binOp .eql 31 (.slice a n c) (.slice none n' c')).run Try.prog w = .ok (.bool a.isNone) w := fun w a n c n' c' => Lib.run_eql_slice_nil w _ _ a n c n' c' Try.underlying31
  have key : ∃ ao c, v = .slice ao ns.length c ∧ (ao = none → ns.length = 0 ∧ c = 0) ∧ (∀ ad, ao = some ad → ∀ j u, (ns.map (Value.int .i64))[j]? = some u → w.cell? (ad.add j) = some u) := by
    rcases hv with ⟨ao, cap, rfl, rfl, h⟩ | ⟨b, o, cap, rfl, _, _, h⟩
    · exact ⟨ao, cap, rfl, fun e => ⟨rfl, h e⟩, fun _ _ j u hu => by simp at hu⟩
    · refine ⟨_, cap, rfl, fun e => (nomatch e), fun ad e j u hj => ?_⟩
      injection e with e
      subst e
      rw [add0]
      rw [List.getElem?_map, Option.map_eq_some_iff] at hj
      obtain ⟨s, hs, rfl⟩ := hj
      obtain ⟨hi, rfl⟩ := List.getElem?_eq_some_iff.1 hs
      exact h j hi
  obtain ⟨ao, c, rfl, h1, h2⟩ := key
  have HV := hideP h2
  have H1 := hideP h1
  obtain ⟨n, hn⟩ : ∃ n, n = ns.length := ⟨_, rfl⟩
  obtain ⟨ms, hms⟩ : ∃ ms, ms = ns.map (Value.int .i64) := ⟨_, rfl⟩
  rw [← hn] at hl H1 ⊢
  rw [← hms] at HV ⊢
  have hml : ms.length = n * 1 := by rw [hms, List.length_map, hn, Nat.mul_one]
  have hone : ∀ u ∈ ms, u.oneCell' = true := fun u hu => by
    rw [hms] at hu
    obtain ⟨s, _, rfl⟩ := List.mem_map.1 hu
    rfl
  clear h1 h2 hv hn hms
  cases ao with
  | none =>
    obtain ⟨rfl, rfl⟩ := H1.out rfl
    obtain rfl : ms = [] := List.eq_nil_of_length_eq_zero (by omega)
    go_enter Try.func30, Try.ntmps30
    go_wp2_with fail
    go_ret
    exact ⟨_, rfl, World.ownsRow_nil _ _ _ _, Ch.refl _ _⟩
  | some ad =>
    have HA : Hid (∀ W, Ch noB w W → ∀ j u, ms[j]? = some u → W.cell? (ad.add j) = some u) := fun W hW j u hu => hW.cell (HV.out ad rfl j u hu) fun h => h
    clear HV H1
    have HO : Hid ((w.alloc (.cells #[] 3)).ownsRow w.heap.size 3 1 (.slice (some ⟨w.heap.size, 0, none⟩) 0 0) 0 []) := World.ownsRow_lit w #[] 0 (Nat.le_refl _) (by unfold maxLen; omega) rfl
    go_enter Try.func30, Try.ntmps30
    go_wp2_with (at_builtin; refine wpList_append_own_at _ rfl (.tmp 5) (.tmp 6) 31 rfl w.heap.size 3 i0 _ 1 8 Try.underlying31 hi hz0 hz1 hz2 rfl (by decide) _ 0 _ rfl HO.out ad n c ms rfl hml (HA.out _ ((Ch.refl noB w).alloc _)) hone (by unfold maxLen; omega) (by omega) (by rw [World.size_alloc]; omega) ?_)
    intro v3 w5 hown3 hgr3 _ _
    have HC : Hid (Ch noB w w5) := ((Ch.refl noB w).alloc _).grown hgr3 fun q hq hlt => by
      injection hq with hq
      have : w.heap.size = q := hq
      omega
    obtain ⟨a6, c6, rfl⟩ := row_shape hown3
    have ho5 : w5.ownsRow w.heap.size 3 1 (.slice a6 n c6) n ms := by simpa using hown3
    have HO5 := hideP ho5
    clear hown3 hgr3 ho5
    go_wp2_with fail
    go_ret
    exact ⟨_, rfl, by simpa using HO5.out, HC.out⟩
section
variable {B kb bx lb rb : Nat} {F : Nat → Prop} {w0 W : World} {room free used : Int} {os : List Int} {C : List CellV} {Q : List Ob} {m : Int → Bool} {L : List Int}
theorem own_cut {w : World} {B et n k cap : Nat} {ao : Option Addr} {xs : List Value} (h : w.ownsRow B et 1 (.slice ao n cap) n xs) (hk : k ≤ n) : w.ownsRow B et 1 (.slice ao k cap) k (xs.take k) := by
  have hl := h.1
  refine ⟨by rw [List.length_take]; omega, ?_⟩
  rcases h.2 with ⟨e, h0⟩ | ⟨g, cap', cur, e, hg, hb, hc1, hc2, hc3, hc4⟩
  · injection e with e1 e2 e3
    subst e1 e3
    have : k = 0 := by omega
    subst this
    exact .inl ⟨rfl, rfl⟩
  · injection e with e1 e2 e3
    subst e1 e3
    refine .inr ⟨g, cap, cur, rfl, hg, hb, by omega, hc2, hc3, ?_⟩
    rw [Nat.mul_one] at hc4 ⊢
    rw [← hc4, List.take_take, Nat.min_eq_left hk]
/-- The last that comes later is taken. -/
theorem MkS.pop (hB : MkB F w0.heap.size bx lb rb) {x : Int} (h : MkS B F w0 kb room free used os C Q bx lb rb W m (L ++ [x])) {ao : Option Addr} {c : Nat} (hl : W.heap[lb]? = some (.cells #[.slice ao (L.length + 1) c] 31)) : MkS B F w0 kb room free used os C Q bx lb rb (W.setCell ⟨lb, 0, none⟩ (.slice ao L.length c)) m L := by
  obtain ⟨⟨C1, h1, h2, h3⟩, h4, h5, ⟨v3', h6, h7, h8⟩, h9, h10⟩ := h
  obtain ⟨_, _, _, _, ⟨x0, _⟩, _⟩ := KR.look h3
  rw [hl] at h6
  injection h6 with h6
  injection h6 with h6 _
  have e3 : (.slice ao (L.length + 1) c) = v3' := by simpa using h6
  subst e3
  have hc : Ch (fun b => b = lb) W (W.setCell ⟨lb, 0, none⟩ (.slice ao L.length c)) := (Ch.refl (fun b => b = lb) W).set (fun _ => rfl) _ _
  have e2 := hB.b2
  have hS : ∀ b, b < w0.heap.size → ¬ (b = lb) := fun b hb2 hs => by omega
  have hob := cells_setCell (o := 0) (u := .slice ao L.length c) hl
  simp only [List.setIfInBounds_toArray, List.set_cons_zero] at hob
  have h8' : ∀ q, (Value.slice ao L.length c).ownBlock = some q → q ≠ bx ∧ q ≠ lb ∧ q ≠ rb := fun q hq => h8 q (by cases ao with | none => cases hq | some ad => exact hq)
  rw [show (L ++ [x]).length = L.length + 1 by simp] at h7
  have h7' := own_cut h7 (Nat.le_succ L.length)
  rw [show ((L ++ [x]).map (Value.int .i64)).take L.length = L.map (Value.int .i64) by rw [List.map_append, List.take_left' (by simp)]] at h7'
  refine ⟨⟨C1, h1, h2, KR.ch h3 hc fun b hb2 => hS b (hB.low b hb2)⟩, hc.cell h4 hB.n1, hc.cell h5 hB.n2, ⟨_, hob, hc.row h7' fun q hq e => (h8' q hq).2.1 e, h8'⟩, h9.trans hc fun b hb2 hs => absurd hs (hS b hb2), by rw [hc.cell x0 (hS kb (hB.low kb (KR.self h3))), ← x0]; exact h10⟩
/-- What is left to be marked, as memory has it. -/
def potOf (kb : Nat) (W : World) (o : Ob) : Nat := match W.cell? ⟨kb, 0, none⟩ with
  | some (.slice (some a) _ _) => (match W.cell? ⟨a.block, o.p * 5 + 4, none⟩ with | some (.bool true) => 0 | _ => o.l.length + 1)
  | _ => 0
def potAt (Q : List Ob) (kb lb : Nat) (W : World) : Nat := sliceLen ((W.cell? ⟨lb, 0, none⟩).getD (.slice none 0 0)) + (Q.map (potOf kb W)).sum
theorem MkS.potAt (hk : ∀ o ∈ Q, ObjC C o) (h : MkS B F w0 kb room free used os C Q bx lb rb W m L) : potAt Q kb lb W = L.length + potQ Q m := by
  obtain ⟨⟨C1, h1, h2, h3⟩, h4, h5, ⟨v3, h6, h7, h8⟩, h9, h10⟩ := h
  obtain ⟨a3, c3, rfl⟩ := row_shape h7
  obtain ⟨a1, c1, _, _, ⟨x0, _⟩, _⟩ := KR.look h3
  unfold Go.Proofs.Ytcpmdbdppdnkkaa.potAt
  rw [(box1 h6).1]
  show L.length + (Q.map (potOf kb W)).sum = L.length + potQ Q m
  congr 1
  unfold potQ
  congr 1
  apply List.map_congr_left
  intro o ho
  obtain ⟨c, g1, _⟩ := hk o ho
  obtain ⟨b, hb⟩ := h1.2 _ _ g1
  obtain ⟨q, rfl, _, _, ⟨_, _, _, _, y4⟩, _⟩ := KeptT.at h3 hb x0
  have := h2 o ho _ hb
  simp only at y4 this
  rw [this] at y4
  unfold potOf
  rw [x0]
  simp only [y4]
  cases m (o.p : Int) <;> rfl
end
/-- How far the marking has got. -/
def MarkI (B : Nat) (F : Nat → Prop) (w0 : World) (kb : Nat) (room free used : Int) (os : List Int) (C : List CellV) (Q : List Ob) (bx lb rb : Nat) (roots : List Int) (W : World) (m : Int → Bool) (L : List Int) : Prop :=
  MkS B F w0 kb room free used os C Q bx lb rb W m L ∧ MkW Q roots m L ∧ L.length + potQ Q m ≤ 2000000000 ∧ ∀ x ∈ L, x ≤ 9223372036854775807
theorem pot_none {Q : List Ob} {C : List CellV} (h : ∀ o ∈ Q, ObjC C o) : potQ Q (fun _ => false) = (allO Q).length := by
  rw [← used_all h]
  unfold potQ usedM hpO
  rw [List.map_map]
  congr 1
set_option maxRecDepth 100000 in
set_option maxHeartbeats 8000000 in
theorem mark_c (B kb : Nat) (F FA : Nat → Prop) (room free used : Int) (os : List Int) (C : List CellV) (Q : List Ob) (fr : List Nat) (v : Value) (roots : List Int) (w : World) (h : KeptT B F w kb room C free used os) (hk : Kp C free Q fr []) (hg : GoodM (hpO Q)) (hst : StQ C Q fun _ => false) (hC : C.length ≤ 2000000000) (hv : IntV FA w v roots) (hok : ∀ q ∈ roots, -9223372036854775808 ≤ q ∧ q ≤ 9223372036854775807) (hl : roots.length ≤ 1000000) (hu : (allO Q).length ≤ 1000000000) :
    Calls Try.prog 23 #[.pointer (some ⟨kb, 0, none⟩), v] w fun e w' => e = .returned (.tuple #[]) ∧ ∃ C1 m, Like C C1 ∧ StQ C1 Q m ∧ KeptT B F w' kb room C1 free used os ∧ (∀ x, m x = true ↔ Reach (hpO Q) roots x) ∧ Ch F w w' := by
  have H := hideP h
  have HK := hideP hk
  have HG := hideP hg
  have HST := hideP hst
  have HOK := hideP hok
  have HV : Hid (∀ W, Ch noB w W → IntV FA W v roots) := fun W hW => hv.ch hW fun _ _ _ h => h
  have HCL : Hid (∀ W, Ch noB w W → Calls Try.prog 30 #[v] W fun e w' => ∃ v', e = .returned v' ∧ Hid (w'.ownsRow W.heap.size 3 1 v' roots.length (roots.map (Value.int .i64))) ∧ Hid (Ch noB W w')) := fun W hW => (kclone_c FA v roots W (HV.out W hW) hl).mono fun e w' ⟨v', h1, h2, h3⟩ => ⟨v', h1, h2, h3⟩
  have hsf : ∀ (W : World) (a : Addr) (f : Fn) (x y : Array Value) (m : Mode), (store a (.func f x y) m).run Try.prog W = stored Try.prog W a (.func f x y) m := fun W a f x y m => run_store Try.prog W a (.func f x y) m rfl
  clear h hk hg hst hok hv
  go_enter Try.func23, Try.ntmps23
  go_wp2_with fail
  refine (HCL.out _ ((Ch.refl noB w).alloc _)).mono ?_
  rintro e w1 ⟨v1, rfl, HO, HC1⟩
  obtain ⟨a1, c1, rfl⟩ := row_shape HO.out
  have hz1 := HC1.out.size
  rw [World.size_alloc] at hz1
  have HB : Hid (MkB F w.heap.size w.heap.size w1.heap.size (w1.heap.size + 1)) := ⟨fun b hb => (H.out.lt b hb).2, Nat.le_refl _, by omega, by omega, by omega, by omega, by omega⟩
  have HI0 : Hid (∃ m L, MarkI B F w kb room free used os C Q w.heap.size w1.heap.size (w1.heap.size + 1) roots ((w1.alloc (.cells #[.slice a1 roots.length c1] 31)).alloc (.cells #[reachFn w.heap.size w1.heap.size (w1.heap.size + 1)] 68)) m L) := by
    obtain ⟨W2, hW2⟩ : ∃ W2, W2 = w1.alloc (.cells #[.slice a1 roots.length c1] 31) := ⟨_, rfl⟩
    have hs2 : W2.heap.size = w1.heap.size + 1 := by rw [hW2, World.size_alloc]
    have hl2 : W2.heap[w1.heap.size]? = some (.cells #[.slice a1 roots.length c1] 31) := by rw [hW2]; exact heap_alloc_last _ _
    have hk1 : w1.heap[w.heap.size]? = some (.cells #[.pointer (some ⟨kb, 0, none⟩)] 53) := HC1.out.obj (heap_alloc_last w _) fun h => h
    have c02 : Ch noB w W2 := by rw [hW2]; exact (((Ch.refl noB w).alloc _).trans HC1.out fun _ _ h => h).alloc _
    have c12 : Ch noB w1 W2 := by rw [hW2]; exact (Ch.refl noB w1).alloc _
    rw [← hW2]
    have c23 : Ch noB W2 (W2.alloc (.cells #[reachFn w.heap.size w1.heap.size (w1.heap.size + 1)] 68)) := (Ch.refl noB W2).alloc _
    have c03 := c02.trans c23 fun _ _ h => h
    obtain ⟨_, _, _, _, ⟨x0, _⟩, _⟩ := KR.look H.out
    refine ⟨fun _ => false, roots, ⟨⟨C, Like.refl C, HST.out, KR.ch H.out c03 fun _ _ h => h⟩, c23.cell (c12.cell (box1 hk1).1 fun h => h) fun h => h, ?_, ⟨_, c23.obj hl2 fun h => h, c23.row (c12.row (own_base HO.out (by rw [World.size_alloc]; omega)) fun _ _ h => h) fun _ _ h => h, fun q hq => ?_⟩, c03.mono fun _ _ h => h.elim, by rw [c03.cell x0 fun h => h, x0]⟩, MkW.start Q roots, ?_, fun x hx => (HOK.out x hx).2⟩
    · have := (box1 (heap_alloc_last W2 (.cells #[reachFn w.heap.size w1.heap.size (w1.heap.size + 1)] 68))).1
      rw [hs2] at this
      exact this
    · have := HO.out.lt q hq
      rw [World.size_alloc] at this
      exact ⟨by omega, by omega, by omega⟩
    · rw [pot_none HK.out.objs]
      omega
  obtain ⟨bx, hbx⟩ : ∃ bx, bx = w.heap.size := ⟨_, rfl⟩
  obtain ⟨lb, hlb⟩ : ∃ lb, lb = w1.heap.size := ⟨_, rfl⟩
  have HBX : Hid (∀ b, b < w.heap.size → b ≠ bx) := fun b h e => by omega
  go_wp2_with fail
  rw [← hlb, ← hbx] at HI0 ⊢
  rw [← hlb] at HB
  have HB2 : Hid (MkB F w.heap.size bx lb (lb + 1)) := by rw [hbx]; exact HB.out
  clear hbx hlb HB hz1
  go_loopw [6] (fun _ wr => Hid (∃ m L, MarkI B F w kb room free used os C Q bx lb (lb + 1) roots wr m L)) (fun _ wr => potAt Q kb lb wr)
  case atStart => exact HI0.out
  case round =>
    clear HI0
    obtain ⟨m, L, hI⟩ := hrel.out
    obtain ⟨v3, h6, h7, h8⟩ := hI.1.l
    obtain ⟨a3, c3, rfl⟩ := row_shape h7
    obtain ⟨l0, l1, l2⟩ := box1 h6
    have HI := hideP hI
    rcases List.eq_nil_or_concat L with rfl | ⟨L0, x, rfl⟩
    · clear h6 h7 h8 hI hrel
      go_wp2_with fail
      obtain ⟨⟨⟨C1, k1, k2, k3⟩, k4, k5, k6, k7, _⟩, k8, _⟩ := HI.out
      exact bodyPost_end (results_none rfl _ _ _) rfl ⟨rfl, C1, m, k1, k2, k3, k8.done, k7⟩
    · rw [List.concat_eq_append] at h6 h7 l0 HI hI
      have hlen : (L0 ++ [x]).length = L0.length + 1 := by simp
      rw [hlen] at h6 h7 l0
      obtain ⟨n0, hn0⟩ : ∃ n0, n0 = L0.length := ⟨_, rfl⟩
      have hcap : n0 + 1 ≤ c3 := by
        rcases h7.2 with ⟨_, h0⟩ | ⟨g, cap, cur, e, hg, hb, hc1, _⟩
        · omega
        · injection e with _ _ e
          omega
      have hcell : ∃ g, a3 = some ⟨g, 0, none⟩ ∧ wr.cell? ⟨g, n0, none⟩ = some (.int .i64 x) := by
        have hh := h7
        rcases h7.2 with ⟨_, h0⟩ | ⟨g, cap, cur, e, hg, hb, hc1, _⟩
        · omega
        · injection e with e _ _
          subst e
          refine ⟨g, rfl, ?_⟩
          rw [hh.cellAt n0 (by omega), hn0]
          simp
      obtain ⟨g, rfl, hgc⟩ := hcell
      have c2 := hI.1.r
      have hx := hI.2.2.2 x (List.mem_append_right _ (List.mem_singleton.2 rfl))
      have hb := hI.2.2.1
      rw [hlen] at hb
      have HCall : Hid (Calls Try.prog 31 #[.int .i64 x, .int .i64 0, .pointer (some ⟨bx, 0, none⟩), .pointer (some ⟨lb, 0, none⟩), .pointer (some ⟨lb + 1, 0, none⟩)] (wr.setCell ⟨lb, 0, none⟩ (.slice (some ⟨g, 0, none⟩) n0 c3)) fun e w2 => e = .returned (.tuple #[]) ∧ Hid (∃ m L, MarkI B F w kb room free used os C Q bx lb (lb + 1) roots w2 m L) ∧ potAt Q kb lb w2 < potAt Q kb lb wr) := by
        have hp := MkS.pop HB2.out hI.1 h6
        rw [← hn0] at hp
        refine (reach_c B F w kb room free used os C Q fr bx lb (lb + 1) HB2.out HK.out HG.out hC 1024 0 x m L0 _ (by omega) hx (by omega) hp).mono ?_
        rintro e w2 ⟨rfl, m', E, hr, hs⟩
        have hpot := hr.pot
        rw [if_neg (by decide)] at hpot
        refine ⟨rfl, ⟨m', L0 ++ E, hs, hI.2.1.step HG.out hr, by rw [List.length_append]; omega, fun y hy => ?_⟩, ?_⟩
        · rcases List.mem_append.1 hy with hy | hy
          · exact hI.2.2.2 y (List.mem_append_left _ hy)
          · obtain ⟨_, a2⟩ := hr.new (fun _ => True) (fun _ _ _ => trivial) fun _ _ _ _ _ _ _ => trivial
            obtain ⟨o', ho', e⟩ := hp_has.1 (a2 y hy).1
            have h1 := objC_lt (HK.out.objs o' ho') o'.p (List.mem_cons_self ..)
            omega
        · rw [hs.potAt HK.out.objs, hI.1.potAt HK.out.objs, List.length_append, hlen]
          omega
      rw [← hn0] at l0 h6
      have hn1 : (0 : Int) ≤ (n0 : Int) := by omega
      have hn2 : (n0 : Int) ≤ 3000000000 := by omega
      clear h7 h8 hI hrel hlen hn0 hb hx
      go_wp2_with fail
      refine HCall.out.mono ?_
      rintro e w2 ⟨rfl, HI2, hlt⟩
      have HLT := hideP hlt
      clear hlt HCall
      go_wp2_with fail
      exact ⟨HI2.out, HLT.out⟩
end Go.Proofs.Ytcpmdbdppdnkkaa
