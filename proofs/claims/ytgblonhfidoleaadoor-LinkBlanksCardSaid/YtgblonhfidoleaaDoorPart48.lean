/- Part. -/
import Derived.Test.YtgblonhfidoleaaDoorPart47
set_option maxRecDepth 100000
set_option maxHeartbeats 4000000
/- The statements of layer 7: what they have in common. -/
namespace Go.Proofs.YtgblonhfidoleaaDoor
open Go.Proofs.Tryd
open Go.RowKit Go.Maps
def FewP (n : Nat) (e : Ending) : Prop := ∃ b : Bool, e = .returned (.bool b) /\ (b = true -> n <= 20)
theorem few_c (B : Nat) (a : Option Addr) (cap : Nat) (l : List Src) (w : World) (hs : SrcAt B w a l) (hl : (l.length : Int) <= 9223372036854775807) (hz : ∀ p ∈ l, p.1.size <= 140737488351232 /\ p.2.size <= 140737488351232) :
    Calls prog 8 #[.slice a l.length cap] w fun e w' => w' = w /\ FewP l.length e := by
  have HZ := hideP hz
  have HS := hideP hs
  clear hz hs
  by_cases h20 : (20 : Int) < (l.length : Int)
  · go_enter func8, ntmps8
    go_wp2_with fail
    go_ret
    exact ⟨rfl, (⟨false, rfl, fun h => by cases h⟩ : FewP l.length _)⟩
  · go_enter func8, ntmps8
    go_wp2_with fail
    go_loopw [3, 4] (fun n i wr => ∃ k N : Nat, k <= l.length /\ i = .int .i64 k /\ n = .int .i64 N /\ N <= 70000 /\ Hid (wr = w)) (fun _ i _ => l.length - (intOf i).toNat)
    case atStart => exact ⟨0, 0, by omega, rfl, rfl, by omega, rfl⟩
    case round =>
      obtain ⟨k, N, hk, rfl, rfl, hN, hwr⟩ := hrel
      have hwe := hwr.out
      subst hwe
      clear hwr
      by_cases hkl : k < l.length
      · have hkl' : (k : Int) < (l.length : Int) := by omega
        rcases HS.out with he | ⟨b, o, rfl, hb, hc⟩
        · rw [he] at hkl; cases hkl
        obtain ⟨q0, q1⟩ := hc k hkl
        have hzk := HZ.out _ (List.getElem_mem hkl)
        obtain ⟨s, hs⟩ : ∃ s, s = l[k] := ⟨_, rfl⟩
        rw [<- hs] at q0 q1 hzk
        obtain ⟨S, X⟩ := s
        simp only at q0 q1 hzk
        have hz1 : ((S.size : Int) <= 9223372036854775807) := by omega
        have hz2 : ((X.size : Int) <= 9223372036854775807) := by omega
        clear hc hs
        by_cases h1 : (70000 : Int) - (N : Int) < (X.size : Int)
        · go_wp2_with fail
          go_ret
          exact ⟨rfl, (⟨false, rfl, fun h => by cases h⟩ : FewP l.length _)⟩
        · by_cases h2 : (1000 : Int) < (S.size : Int)
          · go_wp2_with fail
            go_ret
            exact ⟨rfl, (⟨false, rfl, fun h => by cases h⟩ : FewP l.length _)⟩
          · go_wp2_with fail
            go_roundw
            case rel => exact ⟨k + 1, N + X.size, by omega, by go_num, by go_num, by omega, True.intro⟩
            case measure => simp [intOf]; omega
      · have hkl' : ¬ (k : Int) < (l.length : Int) := by omega
        go_wp2_with fail
        go_ret
        exact ⟨rfl, (⟨true, rfl, fun _ => by omega⟩ : FewP l.length _)⟩
/-- What was told is told well. -/
def GoodD (n : Nat) (d : Dg) : Prop := d.er ≠ 0 /\ 1 <= d.li /\ 1 <= d.co /\ (0 < n -> d.m < n)
theorem lread_good {n m : Nat} {a b : Bs} {s : L1} (hm : m < n) (h : ∀ d ∈ s.ds, GoodD n d) (hg : ∀ o ∈ s.mods, GoodM o) : (∀ d ∈ (lreadV m a b s).ds, GoodD n d) /\ ∀ o ∈ (lreadV m a b s).mods, GoodM o := by
  have one : ∀ {er : Int} {li co : Nat}, er ≠ 0 -> 1 <= li -> 1 <= co -> ∀ d ∈ s.ds ++ [(⟨m, li, co, er⟩ : Dg)], GoodD n d := fun h1 h2 h3 d hd => by
    rcases List.mem_append.1 hd with hd | hd
    · exact h d hd
    · rw [List.mem_singleton] at hd
      subst hd
      exact ⟨h1, h2, h3, fun _ => hm⟩
  unfold lreadV
  split
  · exact ⟨one (by decide) (Nat.le_refl _) (Nat.le_refl _), hg⟩
  · split
    · exact ⟨one (by decide) (Nat.le_refl _) (Nat.le_refl _), hg⟩
    · split
      · rename_i hx
        obtain ⟨h1, h2, h3⟩ := module_place hx
        exact ⟨one h1 h2 h3, hg⟩
      · rename_i hx
        refine ⟨h, fun o ho => ?_⟩
        rcases List.mem_append.1 ho with ho | ho
        · exact hg o ho
        · rw [List.mem_singleton] at ho
          subst ho
          exact module_good hx
theorem readFrom_good {n : Nat} : ∀ (l : List (Bs × Bs)) (m : Nat) (s : L1), m + l.length <= n -> (∀ d ∈ s.ds, GoodD n d) -> (∀ o ∈ s.mods, GoodM o) -> (∀ d ∈ (readFrom m l s).ds, GoodD n d) /\ ∀ o ∈ (readFrom m l s).mods, GoodM o
  | [], _, _, _, h, hg => ⟨h, hg⟩
  | x :: l, m, s, hm, h, hg => by
    simp at hm
    obtain ⟨h1, h2⟩ := lread_good (a := x.1) (b := x.2) (by omega : m < n) h hg
    exact readFrom_good l (m + 1) _ (by omega) h1 h2
theorem nameStep_good {n : Nat} {o : Mo} {f m li co : Nat} {x : Bs} {s : Sc} (hm : m < n) (h1 : 1 <= li) (h2 : 1 <= co) (h : ∀ d ∈ s.2, GoodD n d) : ∀ d ∈ (nameStep o f m li co x s).2, GoodD n d := by
  have one : ∀ {er : Int}, er ≠ 0 -> ∀ d ∈ s.2 ++ [(⟨m, li, co, er⟩ : Dg)], GoodD n d := fun h3 d hd => by
    rcases List.mem_append.1 hd with hd | hd
    · exact h d hd
    · rw [List.mem_singleton] at hd
      subst hd
      exact ⟨h3, h1, h2, fun _ => hm⟩
  unfold nameStep
  split
  · exact one (by decide)
  · split
    · exact one (by decide)
    · split
      · exact one (by decide)
      · exact h
theorem namesV_good {n : Nat} {o : Mo} {f m li co : Nat} (hm : m < n) (h1 : 1 <= li) (h2 : 1 <= co) : ∀ (l : List Bs) (s : Sc), (∀ d ∈ s.2, GoodD n d) -> ∀ d ∈ (namesV o f m li co l s).2, GoodD n d
  | [], _, h => h
  | _ :: l, _, h => namesV_good hm h1 h2 l _ (nameStep_good hm h1 h2 h)
theorem impV_good {n : Nat} {num : Num} {mods : List Mo} {m : Nat} {i : Imp} {s : Sc} (hm : m < n) (hi : GoodI i) (h : ∀ d ∈ s.2, GoodD n d) : ∀ d ∈ (impV num mods m i s).2, GoodD n d := by
  unfold impV
  split
  · intro d hd
    rcases List.mem_append.1 hd with hd | hd
    · exact h d hd
    · rw [List.mem_singleton] at hd
      subst hd
      exact ⟨show (11 : Int) ≠ 0 by decide, hi.2.2.1, hi.2.2.2, fun _ => hm⟩
  · exact namesV_good hm hi.2.2.1 hi.2.2.2 _ _ h
theorem impsV_good {n : Nat} {num : Num} {mods : List Mo} {m : Nat} (hm : m < n) : ∀ (l : List Imp) (s : Sc), (∀ i ∈ l, GoodI i) -> (∀ d ∈ s.2, GoodD n d) -> ∀ d ∈ (impsV num mods m l s).2, GoodD n d
  | [], _, _, h => h
  | i :: l, s, hi, h => impsV_good hm l _ (fun x hx => hi x (by simp [hx])) (impV_good hm (hi i (by simp)) h)
theorem declsV_good {n m : Nat} (hm : m < n) : ∀ (l : List Dec) (i : Nat) (s : Sc), (∀ d ∈ l, GoodC d) -> (∀ d ∈ s.2, GoodD n d) -> ∀ d ∈ (declsV m i l s).2, GoodD n d
  | [], _, _, _, h => h
  | x :: l, i, s, hx, h => by
    refine declsV_good hm l (i + 1) _ (fun y hy => hx y (by simp [hy])) ?_
    unfold declStep
    split
    · intro d hd
      rcases List.mem_append.1 hd with hd | hd
      · exact h d hd
      · rw [List.mem_singleton] at hd
        subst hd
        have := hx x (by simp)
        exact ⟨show (8 : Int) ≠ 0 by decide, this.2.1, this.2.2, fun _ => hm⟩
    · exact h
theorem scopesV_good {n : Nat} {num : Num} {mods : List Mo} : ∀ (l : List Mo) (m : Nat) (ess : List (List En)) (ds : List Dg), m + l.length <= n -> (∀ o ∈ l, GoodM o) -> (∀ d ∈ ds, GoodD n d) -> ∀ d ∈ (scopesV num mods m l ess ds).2, GoodD n d
  | [], _, _, _, _, _, h => h
  | o :: l, m, ess, ds, hm, ho, h => by
    simp at hm
    have hg := ho o (by simp)
    exact scopesV_good l (m + 1) _ _ (by omega) (fun x hx => ho x (by simp [hx])) (declsV_good (by omega) _ _ _ hg.2 (impsV_good (by omega) _ _ hg.1 h))
theorem cycV_good {n : Nat} {num : Num} {reach : List (List Bool)} {m : Nat} (hm : m < n) : ∀ (l : List Imp) (ds : List Dg), (∀ i ∈ l, GoodI i) -> (∀ d ∈ ds, GoodD n d) -> ∀ d ∈ cycV num reach m l ds, GoodD n d
  | [], _, _, h => h
  | i :: l, ds, hi, h => by
    refine cycV_good hm l _ (fun x hx => hi x (by simp [hx])) ?_
    have hg := hi i (by simp)
    split
    · intro d hd
      rcases List.mem_append.1 hd with hd | hd
      · exact h d hd
      · rw [List.mem_singleton] at hd
        subst hd
        exact ⟨show (13 : Int) ≠ 0 by decide, hg.2.2.1, hg.2.2.2, fun _ => hm⟩
    · exact h
theorem cyclesV_good {n : Nat} {num : Num} {reach : List (List Bool)} : ∀ (l : List Mo) (m : Nat) (ds : List Dg), m + l.length <= n -> (∀ o ∈ l, GoodM o) -> (∀ d ∈ ds, GoodD n d) -> ∀ d ∈ cyclesV num reach m l ds, GoodD n d
  | [], _, _, _, _, h => h
  | o :: l, m, ds, hm, ho, h => by
    simp at hm
    exact cyclesV_good l (m + 1) _ (by omega) (fun x hx => ho x (by simp [hx])) (cycV_good (by omega) _ _ (ho o (by simp)).1 h)
/-- Modules are linked, or there are faults, each at a place of one of them. -/
theorem link_good (l : List (Bs × Bs)) (hl : l.length <= 16) : match linkV l with
    | .inl x => x.mods.length = l.length /\ 0 < l.length
    | .inr ds => ds ≠ [] /\ ∀ d ∈ ds, GoodD l.length d := by
  have hr : (∀ d ∈ (readAllV l).ds, GoodD l.length d) /\ ∀ o ∈ (readAllV l).mods, GoodM o := by
    unfold readAllV
    rw [if_neg (by omega)]
    exact readFrom_good l 0 L0 (by omega) (fun _ h => nomatch h) (fun _ h => nomatch h)
  unfold linkV
  simp only
  by_cases h1 : (readAllV l).ds.length ≠ 0
  · rw [if_pos h1]
    exact ⟨fun e => h1 (by rw [e]; rfl), hr.1⟩
  · rw [if_neg h1]
    have hds : (readAllV l).ds = [] := List.length_eq_zero_iff.1 (by omega)
    obtain ⟨hn1, hn2, hn3⟩ := readAll_num hds
    by_cases h2 : (scopesV (readAllV l).num (readAllV l).mods 0 (readAllV l).mods [] []).2.length ≠ 0
    · rw [if_pos h2]
      exact ⟨fun e => h2 (by rw [e]; rfl), scopesV_good _ 0 _ _ (by omega) hr.2 (fun _ h => nomatch h)⟩
    · rw [if_neg h2]
      by_cases h3 : (cyclesV (readAllV l).num (reachV (directsV (readAllV l).num (readAllV l).mods)) 0 (readAllV l).mods []).length ≠ 0
      · rw [if_pos h3]
        exact ⟨fun e => h3 (by rw [e]; rfl), cyclesV_good _ 0 _ (by omega) hr.2 (fun _ h => nomatch h)⟩
      · rw [if_neg h3]
        have hm : match mainV (readAllV l).num (readAllV l).mods with | .inl p => p.1 < l.length | .inr d => GoodD l.length d := by
          unfold mainV
          cases hk : look (readAllV l).num mainB with
          | none => exact ⟨by decide, Nat.le_refl _, Nat.le_refl _, fun h => h⟩
          | some m =>
            obtain ⟨p, hp, e⟩ := look_mem hk
            have hml : m < l.length := by have := hn3 p hp; omega
            have hml2 : m < (readAllV l).mods.length := by omega
            have hmd : (readAllV l).mods.getD m noMo = (readAllV l).mods[m] := by rw [List.getD_eq_getElem?_getD, List.getElem?_eq_getElem hml2, Option.getD_some]
            simp only [hmd]
            cases hk2 : look (firsts (readAllV l).mods[m]) mainB with
            | none => exact ⟨show (14 : Int) ≠ 0 by decide, Nat.le_refl _, Nat.le_refl _, fun _ => hml⟩
            | some i =>
              have hil := first_lt hk2
              have hdd : (readAllV l).mods[m].ds.getD i noDec = (readAllV l).mods[m].ds[i] := by rw [List.getD_eq_getElem?_getD, List.getElem?_eq_getElem hil, Option.getD_some]
              simp only [hdd]
              have hg := (hr.2 _ (List.getElem_mem hml2)).2 _ (List.getElem_mem hil)
              by_cases hv : 0 < (readAllV l).mods[m].ds[i].vs
              · rw [if_pos hv]
                exact ⟨show (14 : Int) ≠ 0 by decide, hg.2.1, hg.2.2, fun _ => hml⟩
              · rw [if_neg hv]
                exact hml
        revert hm
        cases mainV (readAllV l).num (readAllV l).mods with
        | inl p =>
          intro hm
          exact ⟨hn1, by have : p.1 < l.length := hm; omega⟩
        | inr d =>
          intro hm
          refine ⟨by simp, fun x hx => ?_⟩
          rw [List.mem_singleton] at hx
          subst hx
          exact hm
end Go.Proofs.YtgblonhfidoleaaDoor
/- graduslaw07.awake. -/
namespace Go.Proofs.YtgblonhfidoleaaDoor
open Go.Proofs.Tryd
open Go.RowKit Go.Maps
theorem row_some {w : World} {b e k n c : Nat} {a : Option Addr} {xs : List Value} (h : w.ownsRow b e k (.slice a n c) n xs) (hn : 0 < n) : ∃ g, a = some ⟨g, 0, none⟩ /\ b <= g /\ g < w.heap.size /\ ∀ j, j < n * k -> w.cell? ⟨g, j, none⟩ = xs[j]? := by
  have h' := h
  rcases h.2 with ⟨_, e⟩ | ⟨g, cap, cur, e, hg, hh, _⟩
  · omega
  · injection e with e1 e2 e3
    subst e1
    exact ⟨g, rfl, hg, lt_of_block hh, fun j hj => h'.cellAt j hj⟩
theorem srcAt_two {w : World} (s0 s1 s2 s3 : ByteArray) (t : TypeId) : SrcAt (w.alloc (.cells #[.string s0, .string s1, .string s2, .string s3] t)).heap.size (w.alloc (.cells #[.string s0, .string s1, .string s2, .string s3] t)) (some ⟨w.heap.size, 0, none⟩) [(s0, s1), (s2, s3)] := by
  have hh := heap_alloc_last w (.cells #[.string s0, .string s1, .string s2, .string s3] t)
  refine .inr ⟨w.heap.size, 0, rfl, by rw [World.size_alloc]; omega, fun i hi => ?_⟩
  match i, hi with
  | 0, _ => exact ⟨by rw [cell_of_row _ _ _ _ _ _ hh]; rfl, by rw [cell_of_row _ _ _ _ _ _ hh]; rfl⟩
  | 1, _ => exact ⟨by rw [cell_of_row _ _ _ _ _ _ hh]; rfl, by rw [cell_of_row _ _ _ _ _ _ hh]; rfl⟩
abbrev aB : ByteArray := ⟨#[97]⟩
abbrev exA : ByteArray := ⟨#[105, 109, 112, 111, 114, 116, 32, 97, 58, 32, 102, 59, 32, 102, 110, 32, 109, 97, 105, 110, 40, 120, 41, 32, 61, 32, 102, 40, 120, 41, 59]⟩
abbrev exB : ByteArray := ⟨#[101, 120, 112, 111, 114, 116, 32, 102, 110, 32, 102, 40, 120, 41, 32, 61, 32, 120, 59]⟩
abbrev exC : ByteArray := ⟨#[105, 109, 112, 111, 114, 116, 32, 97, 58, 32, 102, 59, 32, 102, 110, 32, 109, 97, 105, 110, 40, 120, 41, 32, 61, 32, 120, 59]⟩
abbrev exD : ByteArray := ⟨#[105, 109, 112, 111, 114, 116, 32, 109, 97, 105, 110, 58, 32, 109, 97, 105, 110, 59, 32, 101, 120, 112, 111, 114, 116, 32, 102, 110, 32, 102, 40, 120, 41, 32, 61, 32, 120, 59]⟩
theorem one_said : linkV (srcs [(mainS, exA), (aB, exB)]) = linkV exOne := rfl
theorem two_said : linkV (srcs [(mainS, exC), (aB, exD)]) = linkV exTwo := rfl
theorem awake7_c (w : World) (hw : Lx.Words w) : Calls prog 7 #[] w fun e w' => e = .returned (.bool true) /\ Below w.heap.size w w' := by
  have HW := hideP hw
  have HC1 : Hid (∀ W, Lx.Words W -> Calls prog 9 #[.slice (some ⟨W.heap.size, 0, none⟩) 2 2] (W.alloc (.cells #[.string mainS, .string exA, .string aB, .string exB] 39)) (LinkP (W.alloc (.cells #[.string mainS, .string exA, .string aB, .string exB] 39)) (linkV exOne))) := fun W h => by
    have := link_c (some ⟨W.heap.size, 0, none⟩) 2 [(mainS, exA), (aB, exB)] _ (h.below (bl_alloc W _)) (srcAt_two mainS exA aB exB 39) (by decide) (by decide)
    rw [one_said] at this
    exact this
  have HC2 : Hid (∀ W b, b = W.heap.size -> Lx.Words W -> Calls prog 9 #[.slice (some ⟨b, 0, none⟩) 2 2] (W.alloc (.cells #[.string mainS, .string exC, .string aB, .string exD] 39)) (LinkP (W.alloc (.cells #[.string mainS, .string exC, .string aB, .string exD] 39)) (linkV exTwo))) := fun W b hb h => by
    subst hb
    have := link_c (some ⟨W.heap.size, 0, none⟩) 2 [(mainS, exC), (aB, exD)] _ (h.below (bl_alloc W _)) (srcAt_two mainS exC aB exD 39) (by decide) (by decide)
    rw [two_said] at this
    exact this
  clear hw
  go_enter func7, ntmps7
  go_wp2_with fail
  refine (HC1.out w HW.out).mono ?_
  intro e w1 hpost
  rw [link_one] at hpost
  obtain ⟨hb1, r, aS, cS, vs, rfl, hL⟩ := hpost
  have HB1 := hideP (below_next (bl_alloc w _) hb1)
  have HL := hideP hL
  clear hb1 hL
  go_wp2_with fail
  have hs1 : ∀ o, (w1.alloc o).heap.size = w1.heap.size + 1 := fun o => World.size_alloc _ _
  refine (HC2.out _ _ (hs1 _).symm (HW.out.below (below_next HB1.out (bl_alloc w1 _)))).mono ?_
  intro e w2 hpost
  rw [link_two] at hpost
  obtain ⟨hb2, vD, rfl, hrow⟩ := hpost
  have hbb := below_next (bl_alloc w1 _) (below_next (bl_alloc _ _) hb2)
  have HB2 := hideP (below_next HB1.out hbb)
  have hP := ((below_next (bl_alloc _ _) hb2).block w1.heap.size (by rw [World.size_alloc]; omega)).trans (heap_alloc_last w1 _)
  obtain ⟨⟨_, c1, c2, c3, c4, c5⟩, _, hpl⟩ := box6l hP
  obtain ⟨lo, hlo⟩ : ∃ lo, lo = (w.alloc (.cells #[.string mainS, .string exA, .string aB, .string exB] 39)).heap.size := ⟨_, rfl⟩
  have rS : w1.ownsRow lo 41 1 (.slice aS 2 cS) 2 vs := by rw [hlo]; exact HL.out.rS
  have hvl : vs.length = 2 := rS.1
  have rE : w1.ownsRow lo 29 3 (vs[0]'(by omega)) 2 (enC ⟨[102], 1, 0⟩ ++ enC ⟨[109, 97, 105, 110], 0, 0⟩) := by rw [hlo]; exact HL.out.rE 0 (by omega) (by decide)
  obtain ⟨v0, v1, rfl⟩ : ∃ v0 v1, vs = [v0, v1] := by
    match vs, hvl with
    | [v0, v1], _ => exact ⟨v0, v1, rfl⟩
  obtain ⟨gS, rfl, _, hgS, hcS⟩ := row_some rS (by omega)
  have rE0 : w1.ownsRow lo 29 3 v0 2 (enC ⟨[102], 1, 0⟩ ++ enC ⟨[109, 97, 105, 110], 0, 0⟩) := rE
  obtain ⟨a0, n0, rfl⟩ := row_shape rE0
  obtain ⟨g0, rfl, _, hg0, hc0⟩ := row_some rE0 (by omega)
  have s0 : w2.cell? ⟨gS, 0, none⟩ = some (.slice (some ⟨g0, 0, none⟩) 2 n0) := (hbb.cell (p := ⟨gS, 0, none⟩) hgS).trans (hcS 0 (by omega))
  have e0 : w2.cell? ⟨g0, 0, none⟩ = some (.string ⟨#[102]⟩) := (hbb.cell (p := ⟨g0, 0, none⟩) hg0).trans (hc0 0 (by omega))
  have e1 : w2.cell? ⟨g0, 1, none⟩ = some (.int .i64 1) := (hbb.cell (p := ⟨g0, 1, none⟩) hg0).trans (hc0 1 (by omega))
  have e2 : w2.cell? ⟨g0, 2, none⟩ = some (.int .i64 0) := (hbb.cell (p := ⟨g0, 2, none⟩) hg0).trans (hc0 2 (by omega))
  have hrow' : w2.ownsRow _ 37 4 vD 1 (dgC ⟨1, 1, 1, 12⟩) := hrow
  obtain ⟨aD, nD, rfl⟩ := row_shape hrow'
  obtain ⟨gD, rfl, _, hgD, hcD⟩ := row_some hrow' (by omega)
  have d0 : w2.cell? ⟨gD, 0, none⟩ = some (.int .i64 1) := hcD 0 (by omega)
  have d1 : w2.cell? ⟨gD, 1, none⟩ = some (.int .i64 1) := hcD 1 (by omega)
  have d2 : w2.cell? ⟨gD, 2, none⟩ = some (.int .i64 1) := hcD 2 (by omega)
  have d3 : w2.cell? ⟨gD, 3, none⟩ = some (.int .i64 12) := hcD 3 (by omega)
  have hgS' : gS < w2.heap.size := by have := hbb.size; omega
  have hg0' : g0 < w2.heap.size := by have := hbb.size; omega
  clear hrow hrow' rS rE rE0 hcS hc0 hcD hP hb2 hbb HL hlo hvl
  go_wp2_with fail
  go_ret
  exact ⟨rfl, HB2.out.alloc (by have := HB2.out.size; omega) _⟩
end Go.Proofs.YtgblonhfidoleaaDoor
/- What is in scope is what it says: no program. -/
namespace Go.Proofs.YtgblonhfidoleaaDoor
open Go.Proofs.Tryd
open Go.RowKit
theorem look_mem2 : ∀ {l : Num} {s : Bs} {i : Nat}, look l s = some i -> (s, i) ∈ l
  | [], _, _, h => by cases h
  | p :: l, s, i, h => by
    unfold look at h
    split at h
    · rename_i hs
      injection h with h
      have hs' : p.1 = s := by simpa using hs
      rw [<- hs', <- h]
      simp
    · exact List.mem_cons_of_mem _ (look_mem2 h)
theorem firstV_mem : ∀ (l : List Dec) (i : Nat) (a : Num) (p : Bs × Nat), p ∈ firstV i l a -> p ∈ a ∨ ∃ k, ∃ h : k < l.length, p.2 = i + k /\ l[k].nm = p.1
  | [], _, _, _, h => .inl h
  | d :: l, i, a, p, h => by
    rcases firstV_mem l (i + 1) _ p h with h | ⟨k, hk, e1, e2⟩
    · split at h
      · exact .inl h
      · rcases List.mem_cons.1 h with h | h
        · exact .inr ⟨0, by simp, by rw [h]; rfl, by rw [h]; rfl⟩
        · exact .inl h
    · exact .inr ⟨k + 1, by simpa using hk, by omega, by simpa using e2⟩
theorem first_nm {o : Mo} {s : Bs} {j : Nat} (h : look (firsts o) s = some j) : ∃ hj : j < o.ds.length, o.ds[j].nm = s := by
  rcases firstV_mem _ _ _ _ (look_mem2 h) with h | ⟨k, hk, e1, e2⟩
  · cases h
  · have e : j = k := by simpa using e1
    subst e
    exact ⟨hk, e2⟩
def NumOk (num : Num) (names : List Bs) : Prop := ∀ p ∈ num, ∃ h : p.2 < names.length, names[p.2] = p.1
theorem lread_names {m : Nat} {a b : Bs} {s : L1} (h : s.ds = [] -> s.names.length = m /\ NumOk s.num s.names) (hd : (lreadV m a b s).ds = []) : (lreadV m a b s).names.length = m + 1 /\ NumOk (lreadV m a b s).num (lreadV m a b s).names := by
  have hs := lread_ds m a b s hd
  obtain ⟨h1, h2⟩ := h hs
  revert hd
  unfold lreadV
  split
  · intro h; simp at h
  · split
    · intro h; simp at h
    · split
      · intro h; simp at h
      · intro _
        refine ⟨by simp [h1], fun p hp => ?_⟩
        rcases List.mem_cons.1 hp with rfl | hp
        · exact ⟨by simp; omega, by simp [<- h1]⟩
        · obtain ⟨h3, h4⟩ := h2 p hp
          refine ⟨by simp; omega, ?_⟩
          show (s.names ++ [a])[p.2]'(by simp; omega) = p.1
          rw [List.getElem_append_left h3]
          exact h4
theorem readFrom_names : ∀ (l : List (Bs × Bs)) (m : Nat) (s : L1), (s.ds = [] -> s.names.length = m /\ NumOk s.num s.names) -> (readFrom m l s).ds = [] -> (readFrom m l s).names.length = m + l.length /\ NumOk (readFrom m l s).num (readFrom m l s).names
  | [], _, _, h, hd => h hd
  | x :: l, m, s, h, hd => by
    have := readFrom_names l (m + 1) (lreadV m x.1 x.2 s) (fun he => lread_names h he) hd
    simp only [readFrom, List.length_cons]
    rw [show m + (l.length + 1) = m + 1 + l.length by omega]
    exact this
theorem readAll_names {l : List (Bs × Bs)} (h : (readAllV l).ds = []) : (readAllV l).names.length = l.length /\ NumOk (readAllV l).num (readAllV l).names := by
  unfold readAllV at h ⊢
  by_cases h16 : 16 < l.length
  · rw [if_pos h16] at h
    cases h
  · rw [if_neg h16] at h ⊢
    have := readFrom_names l 0 L0 (fun _ => ⟨rfl, fun _ h => nomatch h⟩) h
    rw [Nat.zero_add] at this
    exact this
/-- An entry of the module m leads to a function of its name. -/
def EnOk (mods : List Mo) (m : Nat) (e : En) : Prop := ∃ h1 : e.m < mods.length, ∃ h2 : e.d < mods[e.m].ds.length, mods[e.m].ds[e.d].nm = e.nm /\ (e.m ≠ m -> mods[e.m].ds[e.d].ex = true)
def ScOk (mods : List Mo) (m : Nat) (es : List En) : Prop := (∀ e ∈ es, EnOk mods m e) /\ es.Pairwise fun a b => a.nm ≠ b.nm
theorem scOk_push {mods : List Mo} {m : Nat} {es : List En} {e : En} (h : ScOk mods m es) (he : EnOk mods m e) (hi : inE es e.nm = false) : ScOk mods m (es ++ [e]) := by
  refine ⟨fun x hx => ?_, ?_⟩
  · rcases List.mem_append.1 hx with hx | hx
    · exact h.1 x hx
    · rw [List.mem_singleton] at hx
      subst hx
      exact he
  · rw [List.pairwise_append]
    refine ⟨h.2, List.pairwise_singleton _ _, fun a ha b hb e' => ?_⟩
    rw [List.mem_singleton] at hb
    subst hb
    unfold inE at hi
    have := List.any_eq_false.1 hi a ha
    exact this (by simpa using e')
theorem nameStep_ok {mods : List Mo} {f m li co : Nat} {n : Bs} {s : Sc} (hf : f < mods.length) (h : ScOk mods m s.1) : ScOk mods m (nameStep mods[f] f m li co n s).1 := by
  unfold nameStep
  split
  · exact h
  · rename_i j hj
    obtain ⟨hjl, hn⟩ := first_nm hj
    have hx : (mods[f].ds.getD j noDec) = mods[f].ds[j] := by rw [List.getD_eq_getElem?_getD, List.getElem?_eq_getElem hjl, Option.getD_some]
    rw [hx]
    split
    · exact h
    · rename_i hex
      split
      · exact h
      · rename_i hin
        exact scOk_push h ⟨hf, hjl, hn, fun _ => by simpa using hex⟩ (by simpa using hin)
theorem namesV_ok {mods : List Mo} {f m li co : Nat} (hf : f < mods.length) : ∀ (l : List Bs) (s : Sc), ScOk mods m s.1 -> ScOk mods m (namesV mods[f] f m li co l s).1
  | [], _, h => h
  | _ :: l, _, h => namesV_ok hf l _ (nameStep_ok hf h)
theorem impsV_ok {num : Num} {mods : List Mo} {m : Nat} (hn : ∀ p ∈ num, p.2 < mods.length) : ∀ (l : List Imp) (s : Sc), ScOk mods m s.1 -> ScOk mods m (impsV num mods m l s).1
  | [], _, h => h
  | i :: l, s, h => by
    refine impsV_ok hn l _ ?_
    unfold impV
    split
    · exact h
    · rename_i f hf
      have hfl : f < mods.length := hn _ (look_mem2 hf)
      have hx : mods.getD f noMo = mods[f] := by rw [List.getD_eq_getElem?_getD, List.getElem?_eq_getElem hfl, Option.getD_some]
      rw [hx]
      exact namesV_ok hfl _ _ h
theorem declsV_ok {mods : List Mo} {m : Nat} (hm : m < mods.length) : ∀ (l : List Dec) (i : Nat) (s : Sc), (∀ k (h : k < l.length), ∃ h2 : i + k < mods[m].ds.length, mods[m].ds[i + k] = l[k]) -> ScOk mods m s.1 -> ScOk mods m (declsV m i l s).1
  | [], _, _, _, h => h
  | d :: l, i, s, hl, h => by
    refine declsV_ok hm l (i + 1) _ (fun k hk => ?_) ?_
    · obtain ⟨h2, h3⟩ := hl (k + 1) (by simpa using hk)
      have e : i + (k + 1) = i + 1 + k := by omega
      refine ⟨by omega, ?_⟩
      have : mods[m].ds[i + 1 + k]'(by omega) = mods[m].ds[i + (k + 1)] := by congr 1; omega
      rw [this, h3]
      rfl
    · unfold declStep
      split
      · exact h
      · rename_i hin
        obtain ⟨h2, h3⟩ := hl 0 (by simp)
        refine scOk_push h ⟨hm, h2, ?_, fun e => absurd rfl e⟩ (by simpa using hin)
        show mods[m].ds[i].nm = d.nm
        have : mods[m].ds[i]'h2 = d := h3
        rw [this]
theorem scopesV_ok {num : Num} {mods : List Mo} (hn : ∀ p ∈ num, p.2 < mods.length) : ∀ (l : List Mo) (m : Nat) (ess : List (List En)) (ds : List Dg), (∀ k (h : k < l.length), ∃ h2 : m + k < mods.length, mods[m + k] = l[k]) -> ess.length = m -> (∀ k (h : k < ess.length), ScOk mods k ess[k]) -> ∀ k (h : k < (scopesV num mods m l ess ds).1.length), ScOk mods k (scopesV num mods m l ess ds).1[k]
  | [], _, _, _, _, _, h => h
  | o :: l, m, ess, ds, hl, hm, h => by
    refine scopesV_ok hn l (m + 1) _ _ (fun k hk => ?_) (by simp [hm]) fun k hk => ?_
    · obtain ⟨h2, h3⟩ := hl (k + 1) (by simpa using hk)
      refine ⟨by omega, ?_⟩
      have : mods[m + 1 + k]'(by omega) = mods[m + (k + 1)] := by congr 1; omega
      rw [this, h3]
      rfl
    · by_cases hk2 : k < ess.length
      · rw [List.getElem_append_left hk2]
        exact h k hk2
      · have e : k = ess.length := by simp at hk; omega
        subst e
        rw [List.getElem_append_right (Nat.le_refl _)]
        simp only [Nat.sub_self, List.getElem_cons_zero]
        obtain ⟨h2, h3⟩ := hl 0 (by simp)
        have h4 : mods[ess.length]'(by omega) = o := by
          have : mods[ess.length]'(by omega) = mods[m + 0] := by congr 1
          rw [this, h3]
          rfl
        unfold scopeV
        rw [<- hm]
        refine declsV_ok (by omega) _ _ _ (fun k hk => ?_) (impsV_ok hn _ _ ⟨fun _ h => (by cases h), List.Pairwise.nil⟩)
        refine ⟨by rw [h4]; omega, ?_⟩
        have : mods[ess.length].ds[0 + k]'(by rw [h4]; omega) = o.ds[0 + k]'(by omega) := by congr 1; rw [h4]
        rw [this]
        congr 1
        omega
theorem scopesV_len {num : Num} {mods : List Mo} : ∀ (l : List Mo) (m : Nat) (ess : List (List En)) (ds : List Dg), (scopesV num mods m l ess ds).1.length = ess.length + l.length
  | [], _, _, _ => rfl
  | o :: l, m, ess, ds => by
    show (scopesV num mods (m + 1) l _ _).1.length = _
    rw [scopesV_len l]
    simp
    omega
theorem link_nonempty {l : List (Bs × Bs)} {ds : List Dg} (h : linkV l = .inr ds) : ds ≠ [] := by
  unfold linkV at h
  simp only at h
  split at h
  · injection h with h
    subst h
    intro e
    simp [e] at *
  split at h
  · injection h with h
    subst h
    intro e
    simp [e] at *
  split at h
  · injection h with h
    subst h
    intro e
    simp [e] at *
  split at h
  · injection h with h
    subst h
    simp
  · cases h
/-- Of what is put together. -/
structure LkOk (x : Lk) : Prop where
  sc : ∀ k (h : k < x.scopes.length), ScOk x.mods k x.scopes[k]
  nl : x.names.length = x.mods.length
  sl : x.scopes.length = x.mods.length
  main : ∃ h : x.main.1 < x.names.length, x.names[x.main.1] = mainB
theorem link_ok {l : List (Bs × Bs)} {x : Lk} (h : linkV l = .inl x) : LkOk x := by
  unfold linkV at h
  simp only at h
  split at h
  · cases h
  rename_i h1
  have hds : (readAllV l).ds = [] := List.length_eq_zero_iff.1 (by omega)
  obtain ⟨hn1, hn2, hn3⟩ := readAll_num hds
  obtain ⟨hm1, hm2⟩ := readAll_names hds
  split at h
  · cases h
  split at h
  · cases h
  split at h
  · cases h
  rename_i p hp
  injection h with h
  subst h
  have hv : ∀ p ∈ (readAllV l).num, p.2 < (readAllV l).mods.length := fun p hp => by have := hn3 p hp; omega
  refine ⟨scopesV_ok hv _ 0 [] [] (fun k hk => ⟨by omega, by congr 1; omega⟩) rfl (fun _ h => nomatch h), by show (readAllV l).names.length = (readAllV l).mods.length; omega, by show (scopesV _ _ _ _ _ _).1.length = _; rw [scopesV_len]; simp, ?_⟩
  unfold mainV at hp
  split at hp
  · cases hp
  rename_i m hm
  split at hp
  · cases hp
  split at hp
  · cases hp
  injection hp with hp
  subst hp
  exact hm2 _ (look_mem2 hm)
end Go.Proofs.YtgblonhfidoleaaDoor
