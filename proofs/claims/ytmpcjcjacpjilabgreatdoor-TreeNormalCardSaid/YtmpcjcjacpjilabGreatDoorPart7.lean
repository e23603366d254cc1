/- Part of the proof of TreeNormal: the texts that follow, in build order. -/
import Derived.Test.YtmpcjcjacpjilabGreatDoorPart5
import Derived.Test.YtmpcjcjacpjilabGreatDoorPart3
import Derived.Deep.RegionWith
import Derived.RegionTactic
import Derived.Deep.Cut
import Derived.Deep.CutRange
import Derived.Test.YtmpcjcjacpjilabGreatDoorPart6
import Derived.Deep.DeepCutAuto

/- types.same, types.Same by contracts, of types whose rows bear no mark. -/
namespace Go.Proofs.YtmpcjcjacpjilabGreatDoor
open Go.RowKit

theorem bytes_inj {a b : List UInt8} (h : (⟨a.toArray⟩ : ByteArray) = ⟨b.toArray⟩) : a = b := by
  have := congrArg (fun s : ByteArray => s.data.toList) h
  simpa using this

theorem names_eq_c (w : World) (na nb : Option Addr) (c d : Nat) (ns ms : List (List UInt8)) (h1 : NamesAt w na ns) (h2 : NamesAt w nb ms) (l1 : ns.length ≤ 140737488351232) (l2 : ms.length ≤ 140737488351232) :
    Calls Tryz.prog 58 #[.slice na ns.length c, .slice nb ms.length d] w fun e w' => e = .returned (.bool (decide (ns = ms))) ∧ ∃ q, w' = w.drewN q := by
  by_cases hl : ns.length = ms.length
  · by_cases h0 : ns.length = 0
    · have e1 := List.length_eq_zero_iff.1 h0
      have e2 := List.length_eq_zero_iff.1 (hl.symm.trans h0)
      subst e1 e2
      exact (Tryz.slices_Equal_string_empty na nb c 0 d w (by omega)).mono fun e w' ⟨h, h'⟩ => ⟨by simpa using h, 0, h'⟩
    · rcases h1 with rfl | ⟨b1, o1, rfl, _, c1⟩
      · exact absurd rfl h0
      · rcases h2 with rfl | ⟨b2, o2, rfl, _, c2⟩
        · exact absurd hl h0
        · have hc := Tryz.slices_Equal_string b1 o1 ns.length c b2 o2 ms.length d (ns.map fun s => ⟨s.toArray⟩) (ms.map fun s => ⟨s.toArray⟩) w (by simp) (by simp) (by omega) (by omega)
            (fun j hj => by
              have hj' : j < ns.length := by simpa using hj
              rw [c1 j hj']
              simp [List.getD_eq_getElem?_getD, hj'])
            (fun j hj => by
              have hj' : j < ms.length := by simpa using hj
              rw [c2 j hj']
              simp [List.getD_eq_getElem?_getD, hj'])
          refine hc.mono fun e w' ⟨he, hw⟩ => ⟨?_, hw⟩
          rw [he]
          congr 2
          rw [List.take_of_length_le (by simp), List.take_of_length_le (by simp), decide_eq_decide]
          constructor
          · intro h
            have h3 := congrArg (List.map fun s : ByteArray => s.data.toList) h
            simpa [List.map_map, Function.comp_def] using h3
          · intro h
            rw [h]
  · refine (Tryz.slices_Equal_string_lens na nb _ c _ d w hl).mono fun e w' ⟨he, hw⟩ => ⟨?_, 0, hw⟩
    rw [he, decide_eq_false fun h => hl (by rw [h])]

def pairK : Value → Value → Value
  | .slice (some a) l _, .slice (some b) m _ => key2V a l b m
  | v, _ => v

/-- Two lists that are the same, if they are lower than that. -/
def PairOK (W0 : World) (N h : Nat) (y : Value) : Prop := ∃ xa xb ka kb, y = pairK xa xb ∧ LstAt W0 true N xa ka ∧ LstAt W0 true N xb kb ∧ (maxL (ka.map (heightT N)) < h → ka = kb)
/-- Two lists that are the same. -/
def SameP (W0 : World) (N : Nat) (y : Value) : Prop := ∃ xa xb ka, y = pairK xa xb ∧ LstAt W0 true N xa ka ∧ LstAt W0 true N xb ka

section
variable {W0 w : World} {N h h' : Nat} {y : Value}
theorem SameP.ok (hs : SameP W0 N y) : PairOK W0 N h y := by
  obtain ⟨xa, xb, ka, e, h1, h2⟩ := hs
  exact ⟨xa, xb, ka, ka, e, h1, h2, fun _ => rfl⟩
theorem PairOK.mono (hp : PairOK W0 N h y) (hh : h' ≤ h) : PairOK W0 N h' y := by
  obtain ⟨xa, xb, ka, kb, e, h1, h2, h3⟩ := hp
  exact ⟨xa, xb, ka, kb, e, h1, h2, fun hl => h3 (Nat.lt_of_lt_of_le hl hh)⟩
theorem PairOK.plain (hp : PairOK W0 N h y) (hb : Below W0.heap.size W0 w) : PlainK2 w y := by
  obtain ⟨xa, xb, ka, kb, e, h1, h2, _⟩ := hp
  obtain ⟨b, o, c, rfl, _, _, p1, _⟩ := h1.good
  obtain ⟨b', o', c', rfl, _, _, p2, _⟩ := h2.good
  exact ⟨_, _, _, _, e, clean_below (p1 rfl) hb, clean_below (p2 rfl) hb⟩
theorem PlainK2.good {v : Value} (hp : PlainK2 w v) : GoodK2 w v := by
  obtain ⟨a, m, b, l, e, h1, h2⟩ := hp
  exact ⟨a, m, b, l, e, h1.good, h2.good⟩
end

/-- What same leaves. -/
def SamePost (W0 w : World) (N mb : Nat) (vs : List Value) (Da Db : Ty) (e : Ending) (w' : World) : Prop :=
  ∃ r vs', e = .returned (.bool r) ∧ (r = true ↔ Da = Db) ∧ SetAt w' mb vs' ∧ w.grownBy w' (some mb) ∧ (r = true → ∀ y ∈ vs', y ∈ vs ∨ SameP W0 N y)

theorem mk_ne {k k' : Int} {nm nm' : List UInt8} {ns ns' : List (List UInt8)} {ks ks' : List Ty} (h : k ≠ k' ∨ nm ≠ nm' ∨ ns ≠ ns' ∨ ks ≠ ks') : mkT k nm ns ks ≠ mkT k' nm' ns' ks' := fun e => by
  obtain ⟨e1, e2, e3, e4⟩ := mkT_inj e
  rcases h with h | h | h | h
  · exact h e1
  · exact h e2
  · exact h e3
  · exact h e4

theorem grown_alloc2 (w : World) (o1 o2 : Obj) (q : Nat) (row : Option Nat) : w.grownBy (((w.alloc o1).alloc o2).drewN q) row :=
  ⟨rfl, rfl, rfl, by simp; omega, fun k hk _ => by rw [World.heap_drewN, Below.heap_alloc _ _ _ (by simp; omega), Below.heap_alloc _ _ _ hk]⟩

theorem bytes_ne {a b : ByteArray} (h : a.data.toList ≠ b.data.toList) : (a.toList == b.toList) = false := by
  cases hh : (a.toList == b.toList)
  · rfl
  · exact absurd (congrArg (fun s : ByteArray => s.data.toList) (str_eq.1 hh)) h

theorem grown_of_below {w w' : World} (row : Option Nat) (h : Below w.heap.size w w') : w.grownBy w' row := ⟨h.os, h.tape, h.output, h.size, fun k hk _ => h.block k hk⟩
theorem grown_trans {a b c : World} {row : Option Nat} (h : a.grownBy b row) (k : b.grownBy c row) : a.grownBy c row :=
  ⟨k.os.trans h.os, k.tape.trans h.tape, k.output.trans h.output, Nat.le_trans h.size k.size, fun i hi hne => (k.block i (Nat.lt_of_lt_of_le hi h.size) hne).trans (h.block i hi hne)⟩
theorem below_of_grown {W0 a b : World} {mb : Nat} (h : Below W0.heap.size W0 a) (k : a.grownBy b (some mb)) (hm : W0.heap.size ≤ mb) : Below W0.heap.size W0 b :=
  h.grown k h.size fun j e => by injection e with e; omega

theorem kids_height {w : World} {u : Bool} {N : Nat} {ka : Option Addr} {ks : List Ty} (h : KidsAt w u N ka ks) : ks.map (heightT (N + 1)) = ks.map (heightT N) := by
  refine List.map_congr_left fun x hx => ?_
  rcases h with rfl | ⟨_, _, _, _, _, _, hc⟩
  · cases hx
  · obtain ⟨i, hi, rfl⟩ := List.mem_iff_getElem.1 hx
    obtain ⟨_, _, _, _, _, _, _, _, ht⟩ := hc i hi
    exact height_more (ty_is ht) (Nat.le_succ _)

theorem pair_hit {W0 : World} {N h : Nat} {y xa xb : Value} {ks ks' : List Ty} (hp : PairOK W0 N h y) (e : y = pairK xa xb) (ha : LstAt W0 true N xa ks) (hb : LstAt W0 true N xb ks') (hl : maxL (ks.map (heightT N)) < h) : ks = ks' := by
  obtain ⟨ya, yb, ka, kb, e2, h1, h2, h3⟩ := hp
  rw [e] at e2
  have g1 := ha
  have g2 := hb
  have g3 := h1
  have g4 := h2
  obtain ⟨b1, o1, c1, rfl, _⟩ := g1
  obtain ⟨b2, o2, c2, rfl, _⟩ := g2
  obtain ⟨b3, o3, c3, rfl, _⟩ := g3
  obtain ⟨b4, o4, c4, rfl, _⟩ := g4
  obtain ⟨q1, q2, q3, q4⟩ := key2V_inj e2
  have e5 : ks = ka := lst_det ha h1 (by show keyV _ _ = keyV _ _; rw [q1, q2])
  have e6 : ks' = kb := lst_det hb h2 (by show keyV _ _ = keyV _ _; rw [q3, q4])
  subst e5 e6
  exact h3 hl

theorem pair_new (w : World) (a b o1 o2 p : Obj) (q : Nat) :
    ((((((w.alloc a).alloc b).drewN q).alloc o1).alloc o2).alloc p).heap[w.heap.size + 1 + 1 + 1 + 1]? = some p ∧
    ((((((w.alloc a).alloc b).drewN q).alloc o1).alloc p).alloc o2).heap[w.heap.size + 1 + 1 + 1]? = some p ∧
    ((((((w.alloc a).alloc b).drewN q).alloc p).alloc o1).alloc o2).heap[w.heap.size + 1 + 1]? = some p := by
  refine ⟨?_, ?_, ?_⟩
  · have := heap_alloc_last (((((w.alloc a).alloc b).drewN q).alloc o1).alloc o2) p
    simpa using this
  · rw [Below.heap_alloc _ _ _ (by simp)]
    have := heap_alloc_last ((((w.alloc a).alloc b).drewN q).alloc o1) p
    simpa using this
  · rw [Below.heap_alloc _ _ _ (by simp), Below.heap_alloc _ _ _ (by simp)]
    have := heap_alloc_last (((w.alloc a).alloc b).drewN q) p
    simpa using this

theorem pair_below (w : World) (a b x y z : Obj) (q q' : Nat) : Below (((w.alloc a).alloc b).drewN q).heap.size (((w.alloc a).alloc b).drewN q) ((((((w.alloc a).alloc b).drewN q').alloc x).alloc y).alloc z) :=
  ⟨rfl, rfl, rfl, by simp, fun k hk => by
    have hk' : k < w.heap.size + 1 + 1 := by simpa using hk
    rw [Below.heap_alloc _ _ _ (by simp; omega), Below.heap_alloc _ _ _ (by simp; omega), Below.heap_alloc _ _ _ (by simpa using hk')]
    rfl⟩

theorem cell_up (w : World) (nd : Nat) (o : Obj) {g i : Nat} (h : g < w.heap.size) : ((w.drewN nd).alloc o).cell? ⟨g, i, none⟩ = w.cell? ⟨g, i, none⟩ :=
  World.cell?_of_block (w := w) (show ((w.drewN nd).alloc o).heap[g]? = w.heap[g]? from Below.heap_alloc (w.drewN nd) o g h)

set_option maxHeartbeats 4000000 in
set_option maxRecDepth 100000 in
theorem same_c (W0 : World) (N : Nat) (n : Nat) : ∀ (va vb : Value) (Da Db : Ty) (w : World) (mb : Nat) (vs : List Value), TyAt W0 true N va Da → TyAt W0 true N vb Db → heightT N Da ≤ n → Below W0.heap.size W0 w → W0.heap.size ≤ mb → SetAt w mb vs →
    (∀ y ∈ vs, PairOK W0 N (heightT N Da) y) → Calls Tryz.prog 32 #[va, vb, .map (some mb)] w (SamePost W0 w N mb vs Da Db) := by
  induction n with
  | zero =>
    intro va vb Da Db w mb vs ha hb hh
    cases N with
    | zero => exact ha.elim
    | succ N => rw [heightT] at hh; omega
  | succ n ih =>
    intro va vb Da Db w mb vs ha hb hh hbl hmb hst hok
    cases N with
    | zero => exact ha.elim
    | succ N =>
    have ha' := ha
    have hb' := hb
    obtain ⟨k, nm, na, nc, ka, kc, ns, ks, rfl, rfl, _, hnm, _, ⟨_, hnl⟩, ⟨_, hkl⟩, hns, hks⟩ := ha'
    obtain ⟨k', nm', na', nc', ka', kc', ns', ks', rfl, rfl, _, hnm', _, ⟨_, hnl'⟩, ⟨_, hkl'⟩, hns', hks'⟩ := hb'
    have l1 : ns.length ≤ 140737488351232 := hnl
    have l2 : ns'.length ≤ 140737488351232 := hnl'
    have l3 : ks.length ≤ 140737488351232 := hkl
    have l4 : ks'.length ≤ 140737488351232 := hkl'
    have l5 : nm.size ≤ 140737488351232 := hnm
    have l6 : nm'.size ≤ 140737488351232 := hnm'
    have hsz := hbl.size
    have hmlt := set_lt hst
    have hgr := fun q => grown_alloc2 w (tyO k nm na ns.length nc ka ks.length kc) (tyO k' nm' na' ns'.length nc' ka' ks'.length kc') q (some mb)
    have hst2 : ∀ q, SetAt (((w.alloc (tyO k nm na ns.length nc ka ks.length kc)).alloc (tyO k' nm' na' ns'.length nc' ka' ks'.length kc')).drewN q) mb vs := fun q => set_block hst ((grown_alloc2 w _ _ q none).block _ hmlt (by simp))
    have hno : ∀ q, mkT k nm.data.toList ns ks ≠ mkT k' nm'.data.toList ns' ks' → SamePost W0 w (N + 1) mb vs (mkT k nm.data.toList ns ks) (mkT k' nm'.data.toList ns' ks') (.returned (.bool false))
        (((w.alloc (tyO k nm na ns.length nc ka ks.length kc)).alloc (tyO k' nm' na' ns'.length nc' ka' ks'.length kc')).drewN q) := fun q hne =>
      ⟨false, vs, rfl, ⟨fun h => (by cases h), fun h => absurd h hne⟩, hst2 q, hgr q, fun h => by cases h⟩
    have HNO := hideP hno
    have HST2 := hideP hst2
    have HGR := hideP hgr
    have HST := hideP hst
    have HOK := hideP hok
    have HBL := hideP hbl
    have HA := hideP ha
    have HB := hideP hb
    have HKS := hideP hks
    have HKS' := hideP hks'
    have HH := hideP hh
    have hbx : Below W0.heap.size W0 ((w.alloc (tyO k nm na ns.length nc ka ks.length kc)).alloc (tyO k' nm' na' ns'.length nc' ka' ks'.length kc')) := (hbl.alloc hsz _).alloc (by simp; omega) _
    have HNE := hideP (names_eq_c _ na na' nc nc' ns ns' (names_below hns hbx) (names_below hns' hbx) l1 l2)
    clear hno hst2 hgr hst hok hbl ha hb hks hks' hnl hnl' hkl hkl' hnm hnm' hns hns' hbx hh
    by_cases c1 : k ≠ k'
    · have e1 : (k != k') = true := by simpa using c1
      have hd := HNO.out 0 (mk_ne (.inl c1))
      have HD := hideP hd
      clear hd c1
      go_enter Tryz.func32, Tryz.ntmps32
      go_wp2_with fail
      go_ret
      exact HD.out
    have c1 : k = k' := by simpa using c1
    subst c1
    by_cases c2 : nm.data.toList ≠ nm'.data.toList
    · have e1 := bytes_ne c2
      have HD := hideP (HNO.out 0 (mk_ne (.inr (.inl c2))))
      clear c2
      go_enter Tryz.func32, Tryz.ntmps32
      go_wp2_with fail
      go_ret
      exact HD.out
    have c2 : nm = nm' := by
      have c2 : nm.data.toList = nm'.data.toList := Classical.not_not.1 c2
      cases nm
      cases nm'
      simp at c2
      rw [c2]
    subst c2
    have e1 : (nm.toList == nm.toList) = true := by simp
    by_cases c3 : ns ≠ ns'
    · have HNE2 : Hid (Calls Tryz.prog 58 #[.slice na ns.length nc, .slice na' ns'.length nc'] ((w.alloc (tyO k nm na ns.length nc ka ks.length kc)).alloc (tyO k nm na' ns'.length nc' ka' ks'.length kc')) fun e w' => e = .returned (.bool false) ∧ ∃ q, w' = ((w.alloc (tyO k nm na ns.length nc ka ks.length kc)).alloc (tyO k nm na' ns'.length nc' ka' ks'.length kc')).drewN q) := by
        have := HNE.out
        rw [decide_eq_false c3] at this
        exact this
      have HD := hideP fun q => HNO.out q (mk_ne (.inr (.inr (.inl c3))))
      clear c3 HNE HNO
      go_enter Tryz.func32, Tryz.ntmps32
      go_wp2_with fail
      refine HNE2.out.mono ?_
      rintro e w1 ⟨rfl, q, rfl⟩
      go_wp2_with fail
      go_ret
      exact HD.out q
    have c3 : ns = ns' := Classical.not_not.1 c3
    subst c3
    have HNE2 : Hid (Calls Tryz.prog 58 #[.slice na ns.length nc, .slice na' ns.length nc'] ((w.alloc (tyO k nm na ns.length nc ka ks.length kc)).alloc (tyO k nm na' ns.length nc' ka' ks'.length kc')) fun e w' => e = .returned (.bool true) ∧ ∃ q, w' = ((w.alloc (tyO k nm na ns.length nc ka ks.length kc)).alloc (tyO k nm na' ns.length nc' ka' ks'.length kc')).drewN q) := by
      have := HNE.out
      rw [decide_eq_true rfl] at this
      exact this
    clear HNE
    by_cases c4 : ks.length ≠ ks'.length
    · have e4 : ((ks.length : Int) != (ks'.length : Int)) = true := by simp; omega
      have HD := hideP fun q => HNO.out q (mk_ne (.inr (.inr (.inr fun e => c4 (by rw [e])))))
      clear c4 HNO
      go_enter Tryz.func32, Tryz.ntmps32
      go_wp2_with fail
      refine HNE2.out.mono ?_
      rintro e w1 ⟨rfl, q, rfl⟩
      go_wp2_with fail
      go_ret
      exact HD.out q
    have c4 : ks.length = ks'.length := by omega
    have e4 : ((ks.length : Int) != (ks'.length : Int)) = false := by simp; omega
    by_cases c5 : ks = []
    · subst c5
      have e5 : ks' = [] := List.length_eq_zero_iff.1 c4.symm
      subst e5
      clear c4 HNO
      go_enter Tryz.func32, Tryz.ntmps32
      go_wp2_with fail
      refine HNE2.out.mono ?_
      rintro e w1 ⟨rfl, q, rfl⟩
      go_wp2_with fail
      go_ret
      exact ⟨true, vs, rfl, ⟨fun _ => rfl, fun _ => rfl⟩, HST2.out q, HGR.out q, fun _ y hy => .inl hy⟩
    have hk1 : 1 ≤ ks.length := List.length_pos_iff.2 c5
    have e5 : ((ks.length : Int) == 0) = false := by rw [beq_eq_false_iff_ne]; omega
    have HC4 := hideP c4
    have hlA : LstAt W0 true (N + 1) (.slice ka ks.length kc) ks := by
      rcases HKS.out with h0 | ⟨b, o, rfl, h3⟩
      · exact absurd h0 c5
      · exact ⟨b, o, kc, rfl, c5, by unfold reachBytes; omega, kids_mono (.inr ⟨b, o, rfl, h3⟩) (Nat.le_succ _)⟩
    have hlB : LstAt W0 true (N + 1) (.slice ka' ks'.length kc') ks' := by
      have c5' : ks' ≠ [] := fun e => c5 (List.length_eq_zero_iff.1 (by rw [c4, e]; rfl))
      rcases HKS'.out with h0 | ⟨b, o, rfl, h3⟩
      · exact absurd h0 c5'
      · exact ⟨b, o, kc', rfl, c5', by unfold reachBytes; omega, kids_mono (.inr ⟨b, o, rfl, h3⟩) (Nat.le_succ _)⟩
    obtain ⟨b1, o1, cA, e6, hb1, _, hp1, _, _⟩ := hlA.good
    obtain ⟨b2, o2, cB, e7, hb2, _, hp2, _, _⟩ := hlB.good
    injection e6 with e6 _ e8
    injection e7 with e7 _ e9
    subst e6 e7 e8 e9
    have HLA := hideP hlA
    have HLB := hideP hlB
    have hk2 : 1 ≤ ks'.length := by omega
    clear hlA hlB hp1 hp2 HNO c5 c4
    go_enter Tryz.func32, Tryz.ntmps32
    go_wp2_with fail
    refine HNE2.out.mono ?_
    rintro e w1 ⟨rfl, q, rfl⟩
    go_wp2_with fail
    obtain ⟨W, hW⟩ : ∃ W, W = (((w.alloc (tyO k nm na ns.length nc (some ⟨b1, o1, none⟩) ks.length kc)).alloc (tyO k nm na' ns.length nc' (some ⟨b2, o2, none⟩) ks'.length kc')).drewN q) := ⟨_, rfl⟩
    have HW := hideP hW
    clear hW
    go_cut [7] from 45 to 51 (fun s7 wx => ∃ g, s7 = .pointer (some ⟨g, 0, none⟩) ∧ W.heap.size ≤ g ∧ wx.heap[g]? = some (.cells #[.pointer (some ⟨b1, o1, none⟩), .int .i64 ks.length, .pointer (some ⟨b2, o2, none⟩), .int .i64 ks'.length] 90) ∧ Below W.heap.size W wx)
    case first =>
      go_region_with (go_at_call 43; refine (listOf_c _ _ _ _ (by assumption) (by assumption) _).mono ?_; rintro e w' ⟨rfl, rfl⟩)
      all_goals (go_wp2_with fail; go_meet)
      all_goals
        refine ⟨_, rfl, ?_, ?_, ?_⟩
        · rw [HW.out]; simp <;> omega
        · first | exact (pair_new _ _ _ _ _ _ _).1 | exact (pair_new _ _ _ _ _ _ _).2.1 | exact (pair_new _ _ _ _ _ _ _).2.2
        · rw [HW.out]; exact pair_below _ _ _ _ _ _ _ _
    case rest =>
      obtain ⟨g, rfl, hg, hgc, hbW⟩ := hcut
      -- the pair, whole
      obtain ⟨K, hK⟩ : ∃ K, K = key2V ⟨b1, o1, none⟩ ks.length ⟨b2, o2, none⟩ ks'.length := ⟨_, rfl⟩
      have hWw : w.grownBy W (some mb) := by rw [HW.out]; exact HGR.out q
      have hWs : SetAt W mb vs := by rw [HW.out]; exact HST2.out q
      have hB0 : Below W0.heap.size W0 W := ⟨hWw.os.trans HBL.out.os, hWw.tape.trans HBL.out.tape, hWw.output.trans HBL.out.output, Nat.le_trans hsz hWw.size, fun i hi => by rw [HW.out, World.heap_drewN, Below.heap_alloc _ _ _ (by simp; omega), Below.heap_alloc _ _ _ (by omega)]; exact HBL.out.block i hi⟩
      have hB1 : Below W0.heap.size W0 wc := below_next hB0 hbW
      have hS1 : SetAt wc mb vs := set_block hWs (hbW.block _ (set_lt hWs))
      have hPK : PlainK2 wc K := by
        obtain ⟨_, _, _, e1, _, _, p1, _⟩ := HLA.out.good
        obtain ⟨_, _, _, e2, _, _, p2, _⟩ := HLB.out.good
        injection e1 with e1 _ _
        injection e1 with e1
        injection e2 with e2 _ _
        injection e2 with e2
        rw [← e1] at p1
        rw [← e2] at p2
        exact ⟨_, _, _, _, hK, clean_below (p1 rfl) hB1, clean_below (p2 rfl) hB1⟩
      have hPV : ∀ y ∈ vs, PlainK2 wc y := fun y hy => (HOK.out y hy).plain hB1
      have hgl := lt_of_block hgc
      have gc : ∀ i u, (#[.pointer (some ⟨b1, o1, none⟩), .int .i64 ks.length, .pointer (some ⟨b2, o2, none⟩), .int .i64 ks'.length] : Array Value)[i]? = some u → wc.cell? ⟨g, i, none⟩ = some u := fun i u h => by rw [cell_of_row _ _ _ _ _ _ hgc]; exact h
      have g0 := gc 0 _ rfl
      have g1 := gc 1 _ rfl
      have g2 := gc 2 _ rfl
      have g3 := gc 3 _ rfl
      have HS1 := hideP hS1
      have HB1 := hideP hB1
      have HPK := hideP hPK
      have HPV := hideP hPV
      have HKD := hideP hK
      have HGC := hideP hgc
      have HBW := hideP hbW
      have HWW := hideP hWw
      clear gc hgc hS1 hB1 hPK hPV hK hB0 hWs hWw hbW
      unfold key2V at HKD
      have HS2 : Hid (∀ nd, SetAt ((wc.drewN nd).alloc (.cells #[] 61)) mb vs) := fun nd => set_block HS1.out (Below.heap_alloc (wc.drewN nd) _ _ (set_lt HS1.out))
      have hb2' : ∀ nd, Below wc.heap.size wc ((wc.drewN nd).alloc (.cells #[] 61)) := fun nd => below_next (w1 := wc.drewN nd) (below_drewN (Below.refl _ _) nd) (bl_alloc _ _)
      have HB2 := hideP fun nd => below_next HB1.out (hb2' nd)
      have HPK2 : Hid (∀ nd, PlainK2 ((wc.drewN nd).alloc (.cells #[] 61)) K) := fun nd => by
        obtain ⟨a, m, b, l, e, p1, p2⟩ := HPK.out
        exact ⟨a, m, b, l, e, clean_below p1 (hb2' nd), clean_below p2 (hb2' nd)⟩
      have HPV2 : Hid (∀ nd, ∀ y ∈ vs, PlainK2 ((wc.drewN nd).alloc (.cells #[] 61)) y) := fun nd y hy => (HOK.out y hy).plain (HB2.out nd)
      have HGW : Hid (∀ nd, W.grownBy ((wc.drewN nd).alloc (.cells #[] 61)) (some mb)) := fun nd => grown_trans (grown_of_below _ HBW.out) (grown_trans (grown_drewN _ nd _) (World.grownBy_alloc _ _ _))
      clear hb2'
      have hA : W.cell? ⟨w.heap.size, 3, none⟩ = some (.slice (some ⟨b1, o1, none⟩) ks.length kc) := by
        rw [HW.out]
        simp
      have hB : W.cell? ⟨w.heap.size + 1, 3, none⟩ = some (.slice (some ⟨b2, o2, none⟩) ks'.length kc') := by
        rw [HW.out]
        simp
      have HAB : Hid (∀ wx, W.grownBy wx (some mb) → wx.cell? ⟨w.heap.size, 3, none⟩ = some (.slice (some ⟨b1, o1, none⟩) ks.length kc) ∧ wx.cell? ⟨w.heap.size + 1, 3, none⟩ = some (.slice (some ⟨b2, o2, none⟩) ks'.length kc')) :=
        fun wx hg => ⟨hg.cell hA (by simp; omega), hg.cell hB (by simp; omega)⟩
      clear hA hB
      go_wp2_with (first | (at_lookup; refine wpList_set_look rfl _ _ 52 rfl key2_ok Tryz.underlying52 unit_zero mb vs rfl HS1.out K (by rw [HKD.out]; rfl) HPK.out.good (fun y hy => (HPV.out y hy).good) ?_; intro r nd hno hyes; have HNO := hideP hno; have HYES := hideP hyes; clear hno hyes; have g0' := (cell_up wc nd (.cells #[] 61) (i := 0) hgl).trans g0; have g1' := (cell_up wc nd (.cells #[] 61) (i := 1) hgl).trans g1; have g2' := (cell_up wc nd (.cells #[] 61) (i := 2) hgl).trans g2; have g3' := (cell_up wc nd (.cells #[] 61) (i := 3) hgl).trans g3) | (at_mapUpdate; refine wpList_set_store rfl _ _ _ 52 rfl key2_ok Tryz.underlying52 mb vs rfl (HS2.out nd) K (by rw [HKD.out]; rfl) rfl (HPK2.out nd).good (fun y hy => (HPV2.out nd y hy).good) ?_; intro w3 vs3 hst3 hgr3 hsub3 hall3; have HST3 := hideP hst3; have HG3 := hideP (grown_trans (HGW.out nd) hgr3); have HSUB3 := hideP hsub3; have HB3 := hideP (below_of_grown (HB2.out nd) hgr3 hmb); have a3 := (HAB.out w3 (grown_trans (HGW.out nd) hgr3)).1; clear hst3 hgr3 hsub3 hall3))
      · rename_i hr
        go_ret
        have heq : ks = ks' := by
          obtain ⟨y, hy, hye⟩ := HYES.out hr
          have hyK := hye HPK.out HPV.out
          refine pair_hit (HOK.out y hy) (show y = pairK (.slice (some ⟨b1, o1, none⟩) ks.length kc) (.slice (some ⟨b2, o2, none⟩) ks'.length kc') from hyK.trans HKD.out) HLA.out HLB.out ?_
          rw [kids_height HKS.out]
          show _ < 1 + maxL (ks.map (heightT N))
          omega
        refine ⟨true, vs, rfl, ⟨fun _ => by rw [heq], fun _ => rfl⟩, set_block HS1.out ?_, ?_, fun _ y hy => .inl hy⟩
        · exact Below.heap_alloc (wc.drewN nd) _ _ (set_lt HS1.out)
        · exact grown_trans HWW.out (grown_trans (grown_of_below _ HBW.out) (grown_trans (grown_drewN _ nd _) (World.grownBy_alloc _ _ _)))
      · clear HS1 HB1 HPK HPV HNO HYES HGC HBW HS2 HB2 HPK2 HPV2 HGW g0 g1 g2 g3 g0' g1' g2' g3'
        go_loopw [65] (fun i wr => ∃ (j : Nat) (vs2 : List Value), i = .int .i64 j ∧ j ≤ ks.length ∧ Hid (ks.take j = ks'.take j) ∧ Hid (SetAt wr mb vs2) ∧ Hid (∀ y ∈ vs2, y ∈ vs ∨ y = K ∨ SameP W0 (N + 1) y) ∧ Hid (W.grownBy wr (some mb)) ∧ Hid (Below W0.heap.size W0 wr)) (fun i _ => ks.length - (intOf i).toNat)
        case atStart => exact ⟨0, vs3, rfl, Nat.zero_le _, rfl, HST3, fun y hy => (HSUB3.out y hy).imp id .inl, HG3, HB3⟩
        case round =>
          obtain ⟨j, vs2, rfl, hj, htk, hst2, hin2, hg2, hb2r⟩ := hrel
          clear HST3 HSUB3 HG3 HB3 a3
          by_cases hlt : j < ks.length
          · have hjl : (j : Int) < (ks.length : Int) := by omega
            have hlt' : j < ks'.length := by have := HC4.out; omega
            have hjl' : (j : Int) < (ks'.length : Int) := by omega
            obtain ⟨_, _, k1, n1, na1, nl1, nc1, la1, ll1, lc1, e10, _, q0, q1, q2, q3, ht1⟩ := kid_at HKS.out hlt
            injection e10 with e10
            injection e10 with e11 e12
            subst e11 e12
            obtain ⟨_, _, k2, n2, na2, nl2, nc2, la2, ll2, lc2, e10, _, p0, p1, p2, p3, ht2⟩ := kid_at HKS'.out hlt'
            injection e10 with e10
            injection e10 with e11 e12
            subst e11 e12
            have r0 := (hb2r.out.cell (p := ⟨b1, o1 + j * 4, none⟩) hb1).trans q0
            have r1 := (hb2r.out.cell (p := ⟨b1, o1 + j * 4 + 1, none⟩) hb1).trans q1
            have r2 := (hb2r.out.cell (p := ⟨b1, o1 + j * 4 + 2, none⟩) hb1).trans q2
            have r3 := (hb2r.out.cell (p := ⟨b1, o1 + j * 4 + 3, none⟩) hb1).trans q3
            have hbb := hb2r.out.alloc hb2r.out.size (tyO k1 n1 na1 nl1 nc1 la1 ll1 lc1)
            have s0 := (hbb.cell (p := ⟨b2, o2 + j * 4, none⟩) hb2).trans p0
            have s1 := (hbb.cell (p := ⟨b2, o2 + j * 4 + 1, none⟩) hb2).trans p1
            have s2 := (hbb.cell (p := ⟨b2, o2 + j * 4 + 2, none⟩) hb2).trans p2
            have s3 := (hbb.cell (p := ⟨b2, o2 + j * 4 + 3, none⟩) hb2).trans p3
            have hgb : W.grownBy (wr.alloc (tyO k1 n1 na1 nl1 nc1 la1 ll1 lc1)) (some mb) := grown_trans hg2.out (World.grownBy_alloc _ _ _)
            have bB := (HAB.out _ hgb).2
            have hsetb : SetAt (wr.alloc (tyO k1 n1 na1 nl1 nc1 la1 ll1 lc1)) mb vs2 := set_block hst2.out (Below.heap_alloc wr _ _ (set_lt hst2.out))
            have HT1 := hideP (ty_mono ht1 (Nat.le_succ N))
            have HT2 := hideP (ty_mono ht2 (Nat.le_succ N))
            have HSB := hideP hsetb
            have HBB := hideP hbb
            have HGB := hideP hgb
            clear q0 q1 q2 q3 p0 p1 p2 p3 ht1 ht2 hsetb hbb hgb
            have HHT : Hid (heightT (N + 1) ks[j] ≤ maxL (ks.map (heightT (N + 1)))) := le_maxL (List.mem_map.2 ⟨_, List.getElem_mem hlt, rfl⟩)
            have HKH := hideP (kids_height HKS.out)
            have HHD : Hid (heightT (N + 1) (mkT k nm.data.toList ns ks) = 1 + maxL (ks.map (heightT N))) := rfl
            have HIH : Hid (∀ wx, wx.heap = (wr.alloc (tyO k1 n1 na1 nl1 nc1 la1 ll1 lc1)).heap → Below W0.heap.size W0 wx → Calls Tryz.prog 32 #[.agg #[.int .i64 k1, .string n1, .slice na1 nl1 nc1, .slice la1 ll1 lc1], .agg #[.int .i64 k2, .string n2, .slice na2 nl2 nc2, .slice la2 ll2 lc2], .map (some mb)] wx (SamePost W0 wx (N + 1) mb vs2 ks[j] ks'[j])) := by
              intro wx hx hbx
              refine ih _ _ _ _ wx mb vs2 HT1.out HT2.out ?_ hbx hmb (set_block HSB.out (by rw [hx])) fun y hy => ?_
              · have h1 := HHT.out
                have h2 := HH.out
                rw [HHD.out] at h2
                rw [HKH.out] at h1
                omega
              · rcases hin2.out y hy with h | h | h
                · refine (HOK.out y h).mono ?_
                  have h1 := HHT.out
                  rw [HKH.out] at h1
                  rw [HHD.out]
                  omega
                · exact ⟨.slice (some ⟨b1, o1, none⟩) ks.length kc, .slice (some ⟨b2, o2, none⟩) ks'.length kc', ks, ks', h.trans HKD.out, HLA.out, HLB.out, fun hl => absurd hl (Nat.not_lt.2 HHT.out)⟩
                · exact h.ok
            clear HHT HKH HHD
            go_wp2_with fail
            go_cut [65, 78] from 65 to 79 (fun s65 s78 wx => ∃ (r : Bool) (vs4 : List Value), s65 = .int .i64 j ∧ s78 = .bool (!r) ∧ (r = true ↔ ks[j] = ks'[j]) ∧ SetAt wx mb vs4 ∧ (wr.alloc (tyO k1 n1 na1 nl1 nc1 la1 ll1 lc1)).grownBy wx (some mb) ∧ (r = true → ∀ y ∈ vs4, y ∈ vs2 ∨ SameP W0 (N + 1) y))
            case first =>
              go_region_with (go_at_call 32; refine (HIH.out _ (by first | rfl | simp) (by first | exact HBB.out | exact below_drewN HBB.out _ | exact HBB.out.drew)).mono ?_; rintro e w5 ⟨r, vs4, rfl, hr1, hr2, hr3, hr4⟩)
              all_goals (go_wp2_with fail; go_meet; exact ⟨r, vs4, rfl, rfl, hr1, hr2, ⟨hr3.os, hr3.tape, hr3.output, hr3.size, hr3.block⟩, hr4⟩)
            case rest =>
              obtain ⟨r, vs4, rfl, rfl, hr1, hr2, hr3, hr4⟩ := hcut
              have HR1 := hideP hr1
              have HR2 := hideP hr2
              have HR3 := hideP hr3
              have HR4 := hideP hr4
              clear hr1 hr2 hr3 hr4
              cases r
              · go_wp2_with fail
                go_ret
                refine ⟨false, vs4, rfl, ⟨fun h => (by cases h), fun h => ?_⟩, HR2.out, grown_trans HWW.out (grown_trans HGB.out HR3.out), fun h => (by cases h)⟩
                have hk := (mkT_inj h).2.2.2
                exact HR1.out.2 (by subst hk; rfl)
              · go_wp2_with fail
                refine ⟨⟨j + 1, vs4, by go_num, by omega, ?_, HR2, fun y hy => ?_, grown_trans HGB.out HR3.out, below_of_grown HBB.out HR3.out hmb⟩, by simp [intOf]; omega⟩
                · show _ = _
                  rw [List.take_succ_eq_append_getElem hlt, List.take_succ_eq_append_getElem hlt', htk.out, HR1.out.1 rfl]
                · rcases HR4.out rfl y hy with h | h
                  · exact hin2.out y h
                  · exact .inr (.inr h)
          · have hjl : ¬ (j : Int) < (ks.length : Int) := by omega
            go_wp2_with fail
            go_ret
            have heq : ks = ks' := by
              have h1 := htk.out
              have := HC4.out
              rwa [List.take_of_length_le (by omega), List.take_of_length_le (by omega)] at h1
            refine ⟨true, vs2, rfl, ⟨fun _ => by rw [heq], fun _ => rfl⟩, hst2.out, grown_trans HWW.out hg2.out, fun _ y hy => ?_⟩
            rcases hin2.out y hy with h | h | h
            · exact .inl h
            · refine .inr ⟨.slice (some ⟨b1, o1, none⟩) ks.length kc, .slice (some ⟨b2, o2, none⟩) ks'.length kc', ks, h.trans HKD.out, HLA.out, ?_⟩
              exact (congrArg (LstAt W0 true (N + 1) (.slice (some ⟨b2, o2, none⟩) ks'.length kc')) heq).mpr HLB.out
            · exact .inr h
end Go.Proofs.YtmpcjcjacpjilabGreatDoor

/- types.Same by a contract. -/
namespace Go.Proofs.YtmpcjcjacpjilabGreatDoor
open Go.RowKit

set_option maxHeartbeats 1000000 in
/-- types.Same, of types whose rows bear no mark. -/
theorem tsame_c (N : Nat) (va vb : Value) (Da Db : Ty) (w : World) (ha : TyAt w true N va Da) (hb : TyAt w true N vb Db) :
    Calls Tryz.prog 15 #[va, vb] w fun e w' => (∃ r, e = .returned (.bool r) ∧ (r = true ↔ Da = Db)) ∧ Below w.heap.size w w' := by
  cases N with
  | zero => exact ha.elim
  | succ N =>
    have ha' := ha
    have hb' := hb
    obtain ⟨k, nm, na, nc, ka, kc, ns, ks, rfl, rfl, _⟩ := ha'
    obtain ⟨k', nm', na', nc', ka', kc', ns', ks', rfl, rfl, _⟩ := hb'
    have hmm := @run_makeMap Tryz.prog
    have HA := hideP ha
    have HB := hideP hb
    clear ha hb
    go_enter Tryz.func15, Tryz.ntmps15
    go_wp2_with fail
    have hs := set_made ((w.alloc (tyO k nm na ns.length nc ka ks.length kc)).alloc (tyO k' nm' na' ns'.length nc' ka' ks'.length kc'))
    rw [show ((w.alloc (tyO k nm na ns.length nc ka ks.length kc)).alloc (tyO k' nm' na' ns'.length nc' ka' ks'.length kc')).heap.size = w.heap.size + 1 + 1 by simp] at hs
    have hb3 : Below w.heap.size w (((w.alloc (tyO k nm na ns.length nc ka ks.length kc)).alloc (tyO k' nm' na' ns'.length nc' ka' ks'.length kc')).alloc (.map #[] 0)) := ((bl_alloc w _).alloc (by simp) _).alloc (by simp; omega) _
    refine (same_c w (N + 1) _ _ _ _ _ _ _ [] HA.out HB.out (Nat.le_refl _) hb3 (by omega) hs (by simp)).mono ?_
    rintro e w1 ⟨r, vs', rfl, hr, _, hg, _⟩
    have HR := hideP hr
    have HB1 := hideP (below_of_grown hb3 hg (by omega))
    clear hr hg hs hb3
    go_wp2_with fail
    go_ret
    exact ⟨⟨r, rfl, HR.out⟩, HB1.out⟩
end Go.Proofs.YtmpcjcjacpjilabGreatDoor

/- types.normUnion by a contract. -/
namespace Go.Proofs.YtmpcjcjacpjilabGreatDoor
open Go.RowKit

abbrev zO : Obj := .cells #[.int .i64 0, .string ⟨#[]⟩, .slice none 0 0, .slice none 0 0] 25

/-- What the loop of normUnion keeps: the box, the result's row, the members by their tags, and which there are. -/
structure UInv (w wr : World) (n : Nat) (box : Obj) (L : List Ty) : Prop where
  bl : Below w.heap.size w wr
  bx : wr.heap[w.heap.size]? = some box
  rs : wr.heap[w.heap.size + 1]? = some zO
  mm : ∃ cs : Array Value, wr.heap[w.heap.size + 2]? = some (.cells cs 75) ∧ cs.size = 24 ∧ ∀ t : Nat, t < 6 → ∃ c : Cells, (∀ j : Nat, j < 4 → cs[t * 4 + j]? = c.list[j]?) ∧ ∀ E, firstK L ((t : Int) + 1) = some E → TyF wr (w.heap.size + 4) n c.val E
  fd : ∃ fs : Array Value, wr.heap[w.heap.size + 3]? = some (.cells fs 76) ∧ fs.size = 6 ∧ ∀ t : Nat, t < 6 → fs[t]? = some (.bool (firstK L ((t : Int) + 1)).isSome)
  gd : ∀ x ∈ L, 1 ≤ kindT x ∧ kindT x ≤ 6 ∧ firstK L (kindT x) = some x

section
variable {w wr wr' : World} {n : Nat} {box : Obj} {L : List Ty}

theorem UInv.sz (h : UInv w wr n box L) : w.heap.size + 4 ≤ wr.heap.size := by
  obtain ⟨fs, hf, _⟩ := h.fd
  have := lt_of_block hf
  omega

theorem UInv.grow (h : UInv w wr n box L) (hb : Below wr.heap.size wr wr') : UInv w wr' n box L where
  bl := below_next h.bl hb
  bx := (hb.block _ (lt_of_block h.bx)).trans h.bx
  rs := (hb.block _ (lt_of_block h.rs)).trans h.rs
  mm := by
    obtain ⟨cs, h1, h2, h3⟩ := h.mm
    refine ⟨cs, (hb.block _ (lt_of_block h1)).trans h1, h2, fun t ht => ?_⟩
    obtain ⟨c, h4, h5⟩ := h3 t ht
    exact ⟨c, h4, fun E hE => tyF_below (h5 E hE) hb⟩
  fd := by
    obtain ⟨fs, h1, h2, h3⟩ := h.fd
    exact ⟨fs, (hb.block _ (lt_of_block h1)).trans h1, h2, h3⟩
  gd := h.gd

/-- Four cells at a place, and a mark. -/
def putM (wr : World) (M F t : Nat) (c : Cells) : World :=
  ((((wr.setCell ⟨M, t * 4, none⟩ (.int .i64 c.1)).setCell ⟨M, t * 4 + 1, none⟩ (.string c.2.1)).setCell ⟨M, t * 4 + 2, none⟩ (.slice c.2.2.1 c.2.2.2.1 c.2.2.2.2.1)).setCell ⟨M, t * 4 + 3, none⟩ (.slice c.2.2.2.2.2.1 c.2.2.2.2.2.2.1 c.2.2.2.2.2.2.2)).setCell ⟨F, t, none⟩ (.bool true)

theorem putM_other (wr : World) (M F t : Nat) (c : Cells) (i : Nat) (h1 : i ≠ M) (h2 : i ≠ F) : (putM wr M F t c).heap[i]? = wr.heap[i]? := by
  unfold putM
  rw [Below.heap_setCell _ _ _ _ h2, Below.heap_setCell _ _ _ _ h1, Below.heap_setCell _ _ _ _ h1, Below.heap_setCell _ _ _ _ h1, Below.heap_setCell _ _ _ _ h1]

theorem putM_size (wr : World) (M F t : Nat) (c : Cells) : (putM wr M F t c).heap.size = wr.heap.size := by
  unfold putM
  simp [World.setCell]

theorem UInv.put (h : UInv w wr n box L) {t : Nat} (ht : t < 6) {c : Cells} {x : Ty} (hk : kindT x = (t : Int) + 1) (hF : TyF wr (w.heap.size + 4) n c.val x) (hf : firstK L ((t : Int) + 1) = none ∨ firstK L ((t : Int) + 1) = some x) :
    UInv w (putM wr (w.heap.size + 2) (w.heap.size + 3) t c) n box (L ++ [x]) := by
  have hsz := h.sz
  have hfx : firstK (L ++ [x]) ((t : Int) + 1) = some x := by
    rw [first_snoc]
    rcases hf with hf | hf <;> rw [hf]
    simp [hk]
  have hfo : ∀ k, k ≠ (t : Int) + 1 → firstK (L ++ [x]) k = firstK L k := fun k hne => by
    rw [first_snoc]
    cases firstK L k with
    | some y => rfl
    | none => simp [hk]; omega
  have hkeep : ∀ b, w.heap.size + 4 ≤ b → b < wr.heap.size → (putM wr (w.heap.size + 2) (w.heap.size + 3) t c).heap[b]? = wr.heap[b]? := fun b hb _ => putM_other _ _ _ _ _ _ (by omega) (by omega)
  refine ⟨?_, ?_, ?_, ?_, ?_, ?_⟩
  · unfold putM
    exact ((((h.bl.setCell (by simp) _).setCell (by simp) _).setCell (by simp) _).setCell (by simp) _).setCell (by simp) _
  · rw [putM_other _ _ _ _ _ _ (by omega) (by omega)]
    exact h.bx
  · rw [putM_other _ _ _ _ _ _ (by omega) (by omega)]
    exact h.rs
  · obtain ⟨cs, h1, h2, h3⟩ := h.mm
    refine ⟨(((cs.setIfInBounds (t * 4) (.int .i64 c.1)).setIfInBounds (t * 4 + 1) (.string c.2.1)).setIfInBounds (t * 4 + 2) (.slice c.2.2.1 c.2.2.2.1 c.2.2.2.2.1)).setIfInBounds (t * 4 + 3) (.slice c.2.2.2.2.2.1 c.2.2.2.2.2.2.1 c.2.2.2.2.2.2.2), ?_, by simpa using h2, fun s hs => ?_⟩
    · unfold putM
      rw [Below.heap_setCell _ _ _ _ (by simp)]
      exact cells_setCell (cells_setCell (cells_setCell (cells_setCell h1)))
    · by_cases hst : s = t
      · subst hst
        refine ⟨c, fun j hj => ?_, fun E hE => by rw [hfx] at hE; obtain rfl := Option.some.inj hE; exact tyF_keep hF (by rw [putM_size]; exact Nat.le_refl _) hkeep⟩
        have : j = 0 ∨ j = 1 ∨ j = 2 ∨ j = 3 := by omega
        rcases this with rfl | rfl | rfl | rfl <;> simp [Array.getElem?_setIfInBounds, Cells.list] <;> omega
      · obtain ⟨c', h4, h5⟩ := h3 s hs
        refine ⟨c', fun j hj => ?_, fun E hE => by rw [hfo _ (by omega)] at hE; exact tyF_keep (h5 E hE) (by rw [putM_size]; exact Nat.le_refl _) hkeep⟩
        rw [← h4 j hj]
        simp only [Array.getElem?_setIfInBounds]
        rw [if_neg (by omega), if_neg (by omega), if_neg (by omega), if_neg (by omega)]
  · obtain ⟨fs, h1, h2, h3⟩ := h.fd
    refine ⟨fs.setIfInBounds t (.bool true), ?_, by simpa using h2, fun s hs => ?_⟩
    · unfold putM
      refine cells_setCell ?_
      rw [Below.heap_setCell _ _ _ _ (by simp), Below.heap_setCell _ _ _ _ (by simp), Below.heap_setCell _ _ _ _ (by simp), Below.heap_setCell _ _ _ _ (by simp)]
      exact h1
    · by_cases hst : s = t
      · subst hst
        rw [hfx, Array.getElem?_setIfInBounds, if_pos rfl, if_pos (by omega)]
        rfl
      · rw [hfo _ (by omega), Array.getElem?_setIfInBounds, if_neg (by omega)]
        exact h3 s hs
  · intro y hy
    rcases List.mem_append.1 hy with hy | hy
    · obtain ⟨g1, g2, g3⟩ := h.gd y hy
      exact ⟨g1, g2, first_prefix g3⟩
    · rw [List.mem_singleton.1 hy, hk]
      exact ⟨by omega, by omega, hfx⟩
end
end Go.Proofs.YtmpcjcjacpjilabGreatDoor
