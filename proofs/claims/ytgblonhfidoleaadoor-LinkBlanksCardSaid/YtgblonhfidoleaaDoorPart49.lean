/- Part. -/
import Derived.Test.YtgblonhfidoleaaDoorPart48
set_option maxRecDepth 100000
set_option maxHeartbeats 4000000
/- A module more, that imports nothing: no program. -/
namespace Go.Proofs.YtgblonhfidoleaaDoor
open Go.Proofs.Tryd
open Go.RowKit
def zzB : Bs := [122, 122, 95, 109, 111, 114, 101]
def zzT : Bs := [101, 120, 112, 111, 114, 116, 32, 102, 110, 32, 102, 40, 120, 41, 32, 61, 32, 120, 59]
def zzM : Mo := ⟨[], [⟨[102], true, 0, 1, 8⟩]⟩
theorem zz_name : nameV zzB = true := by kernel_rfl
theorem zz_text : (match moduleTextV zzT with | .inl D => some (moOf D) | .inr _ => none) = some zzM := by kernel_rfl
theorem zz_mod : ∃ D, moduleTextV zzT = .inl D /\ moOf D = zzM := by
  have h := zz_text
  cases e : moduleTextV zzT with
  | inl D => rw [e] at h; exact ⟨D, rfl, by injection h⟩
  | inr x => rw [e] at h; cases h
/-- The names that are taken. -/
theorem lread_keys (m : Nat) (a b : Bs) (s : L1) (h : (lreadV m a b s).ds = []) : (lreadV m a b s).num = (a, m) :: s.num := by
  revert h
  unfold lreadV
  split
  · intro h; simp at h
  · split
    · intro h; simp at h
    · split
      · intro h; simp at h
      · intro _; rfl
theorem readFrom_ds : ∀ (l : List (Bs × Bs)) (m : Nat) (s : L1), (readFrom m l s).ds = [] -> s.ds = []
  | [], _, _, h => h
  | _ :: l, m, _, h => lread_ds _ _ _ _ (readFrom_ds l (m + 1) _ h)
theorem readFrom_keys : ∀ (l : List (Bs × Bs)) (m : Nat) (s : L1), (readFrom m l s).ds = [] -> ∀ n : Bs, (∃ i, (n, i) ∈ (readFrom m l s).num) ↔ (∃ i, (n, i) ∈ s.num) ∨ ∃ p ∈ l, p.1 = n
  | [], _, _, _, n => by simp [readFrom]
  | x :: l, m, s, h, n => by
    have hk := lread_keys m x.1 x.2 s (readFrom_ds l (m + 1) _ h)
    have := readFrom_keys l (m + 1) _ h n
    simp only [readFrom]
    rw [this, hk]
    constructor
    · rintro (⟨i, hi⟩ | ⟨p, hp, e⟩)
      · rcases List.mem_cons.1 hi with e | hi
        · exact .inr ⟨x, by simp, by injection e with e1 _; exact e1.symm⟩
        · exact .inl ⟨i, hi⟩
      · exact .inr ⟨p, by simp [hp], e⟩
    · rintro (⟨i, hi⟩ | ⟨p, hp, e⟩)
      · exact .inl ⟨i, List.mem_cons_of_mem _ hi⟩
      · rcases List.mem_cons.1 hp with rfl | hp
        · exact .inl ⟨m, by rw [<- e]; simp⟩
        · exact .inr ⟨p, hp, e⟩
theorem look_none : ∀ {l : Num} {s : Bs}, look l s = none -> ∀ i, (s, i) ∉ l
  | [], _, _, _ => by simp
  | p :: l, s, h, i => by
    unfold look at h
    split at h
    · cases h
    · rename_i hs
      intro hm
      rcases List.mem_cons.1 hm with e | hm
      · rw [<- e] at hs; simp at hs
      · exact look_none h i hm
theorem look_more {num : Num} {n : Nat} {s : Bs} {z : Bs} (h : ¬ z = s) : look ((z, n) :: num) s = look num s := by
  show (if (z == s) = true then some n else look num s) = look num s
  rw [if_neg (by simpa using h)]
/-- Faults stay. -/
theorem nameStep_ds {o : Mo} {f m li co : Nat} {n : Bs} {s : Sc} (h : (nameStep o f m li co n s).2 = []) : s.2 = [] := by
  revert h
  unfold nameStep
  split
  · intro h; simp at h
  · split
    · intro h; simp at h
    · split
      · intro h; simp at h
      · intro h; exact h
theorem namesV_ds {o : Mo} {f m li co : Nat} : ∀ (l : List Bs) (s : Sc), (namesV o f m li co l s).2 = [] -> s.2 = []
  | [], _, h => h
  | _ :: l, _, h => nameStep_ds (namesV_ds l _ h)
theorem impV_ds {num : Num} {mods : List Mo} {m : Nat} {i : Imp} {s : Sc} (h : (impV num mods m i s).2 = []) : s.2 = [] /\ ∃ f, look num i.fr = some f := by
  revert h
  unfold impV
  split
  · intro h; simp at h
  · rename_i f hf
    intro h
    exact ⟨namesV_ds _ _ h, f, hf⟩
theorem impsV_ds {num : Num} {mods : List Mo} {m : Nat} : ∀ (l : List Imp) (s : Sc), (impsV num mods m l s).2 = [] -> s.2 = [] /\ ∀ i ∈ l, ∃ f, look num i.fr = some f
  | [], _, h => ⟨h, fun _ h => nomatch h⟩
  | i :: l, s, h => by
    obtain ⟨h1, h2⟩ := impsV_ds l _ h
    obtain ⟨h3, h4⟩ := impV_ds h1
    refine ⟨h3, fun j hj => ?_⟩
    rcases List.mem_cons.1 hj with rfl | hj
    · exact h4
    · exact h2 j hj
theorem declsV_ds {m : Nat} : ∀ (l : List Dec) (i : Nat) (s : Sc), (declsV m i l s).2 = [] -> s.2 = []
  | [], _, _, h => h
  | d :: l, i, s, h => by
    have := declsV_ds l (i + 1) _ h
    revert this
    unfold declStep
    split
    · intro h; simp at h
    · intro h; exact h
/-- What the names lead to, when one is put to them. -/
def Led (num num' : Num) (mods mods' : List Mo) (l : List Imp) : Prop := ∀ i ∈ l, ∃ f, look num i.fr = some f /\ look num' i.fr = some f /\ mods'.getD f noMo = mods.getD f noMo /\ f < mods.length
theorem impsV_same {num num' : Num} {mods mods' : List Mo} {m : Nat} : ∀ (l : List Imp) (s : Sc), Led num num' mods mods' l -> impsV num' mods' m l s = impsV num mods m l s
  | [], _, _ => rfl
  | i :: l, s, h => by
    obtain ⟨f, h1, h2, h3, _⟩ := h i (by simp)
    show impsV num' mods' m l (impV num' mods' m i s) = impsV num mods m l (impV num mods m i s)
    have e : impV num' mods' m i s = impV num mods m i s := by
      unfold impV
      rw [h1, h2]
      show namesV (mods'.getD f noMo) f m i.li i.co i.ns s = namesV (mods.getD f noMo) f m i.li i.co i.ns s
      rw [h3]
    rw [e]
    exact impsV_same l _ fun j hj => h j (by simp [hj])
theorem scopesV_ds {num : Num} {mods : List Mo} : ∀ (l : List Mo) (m : Nat) (ess : List (List En)) (ds : List Dg), (scopesV num mods m l ess ds).2 = [] -> ds = [] /\ ∀ o ∈ l, ∀ i ∈ o.is, ∃ f, look num i.fr = some f
  | [], _, _, _, h => ⟨h, fun _ h => nomatch h⟩
  | o :: l, m, ess, ds, h => by
    obtain ⟨h1, h2⟩ := scopesV_ds l (m + 1) _ _ h
    obtain ⟨h3, h4⟩ := impsV_ds o.is _ (declsV_ds _ _ _ h1)
    refine ⟨h3, fun p hp => ?_⟩
    rcases List.mem_cons.1 hp with rfl | hp
    · exact h4
    · exact h2 p hp
theorem scopesV_same {num num' : Num} {mods mods' : List Mo} : ∀ (l : List Mo) (m : Nat) (ess : List (List En)) (ds : List Dg), (∀ o ∈ l, Led num num' mods mods' o.is) -> scopesV num' mods' m l ess ds = scopesV num mods m l ess ds
  | [], _, _, _, _ => rfl
  | o :: l, m, ess, ds, h => by
    have e : scopeV num' mods' m o ds = scopeV num mods m o ds := by
      unfold scopeV
      rw [impsV_same _ _ (h o (by simp))]
    simp only [scopesV]
    rw [e]
    exact scopesV_same l _ _ _ fun p hp => h p (by simp [hp])
theorem directV_same {num num' : Num} {mods mods' : List Mo} : ∀ (l : List Imp) (r : List Bool), Led num num' mods mods' l -> directV num' l r = directV num l r
  | [], _, _ => rfl
  | i :: l, r, h => by
    obtain ⟨f, h1, h2, _⟩ := h i (by simp)
    show directV num' l (r.set ((look num' i.fr).getD 0) true) = directV num l (r.set ((look num i.fr).getD 0) true)
    rw [h1, h2]
    exact directV_same l _ fun j hj => h j (by simp [hj])
theorem getD_more {dir : List (List Bool)} (k : Nat) : (dir ++ [none16]).getD k none16 = dir.getD k none16 := by
  simp only [List.getD_eq_getElem?_getD]
  by_cases h : k < dir.length
  · rw [List.getElem?_append_left h]
  · rw [List.getElem?_append_right (by omega), List.getElem?_eq_none (by omega : dir.length <= k)]
    by_cases h2 : k = dir.length
    · subst h2; simp
    · rw [List.getElem?_eq_none (by simp; omega)]
theorem visitV_more {dir : List (List Bool)} : ∀ (f k : Nat) (r : List Bool), visitV (dir ++ [none16]) f k r = visitV dir f k r
  | 0, _, _ => rfl
  | f + 1, k, r => by
    simp only [visitV, getD_more]
    have : (fun (r : List Bool) k_1 => if (dir.getD k none16).getD k_1 false = true then visitV (dir ++ [none16]) f k_1 r else r) = fun r k_1 => if (dir.getD k none16).getD k_1 false = true then visitV dir f k_1 r else r := by
      funext r j
      rw [visitV_more f j r]
    rw [this]
theorem reachV_more {dir : List (List Bool)} : ∃ x, reachV (dir ++ [none16]) = reachV dir ++ [x] := by
  refine ⟨visitV dir 17 dir.length none16, ?_⟩
  unfold reachV
  have : (fun m => visitV (dir ++ [none16]) 17 m none16) = fun m => visitV dir 17 m none16 := by funext m; rw [visitV_more]
  rw [this, List.length_append, List.length_singleton, List.range_succ, List.map_append, List.map_singleton]
theorem cycV_same {num num' : Num} {mods mods' : List Mo} {reach : List (List Bool)} {x : List Bool} {m : Nat} (hr : reach.length = mods.length) : ∀ (l : List Imp) (ds : List Dg), Led num num' mods mods' l -> cycV num' (reach ++ [x]) m l ds = cycV num reach m l ds
  | [], _, _ => rfl
  | i :: l, ds, h => by
    obtain ⟨f, h1, h2, _, h4⟩ := h i (by simp)
    show cycV num' (reach ++ [x]) m l (if ((reach ++ [x]).getD ((look num' i.fr).getD 0) none16).getD m false then _ else _) = cycV num reach m l (if (reach.getD ((look num i.fr).getD 0) none16).getD m false then _ else _)
    rw [h1, h2, Option.getD_some, List.getD_eq_getElem?_getD (l := reach ++ [x]), List.getElem?_append_left (by omega), <- List.getD_eq_getElem?_getD]
    exact cycV_same hr l _ fun j hj => h j (by simp [hj])
theorem cyclesV_same {num num' : Num} {mods mods' : List Mo} {reach : List (List Bool)} {x : List Bool} (hr : reach.length = mods.length) : ∀ (l : List Mo) (m : Nat) (ds : List Dg), (∀ o ∈ l, Led num num' mods mods' o.is) -> cyclesV num' (reach ++ [x]) m l ds = cyclesV num reach m l ds
  | [], _, _, _ => rfl
  | o :: l, m, ds, h => by
    simp only [cyclesV]
    rw [cycV_same hr _ _ (h o (by simp))]
    exact cyclesV_same hr l _ _ fun p hp => h p (by simp [hp])
end Go.Proofs.YtgblonhfidoleaaDoor
/- A module more, put behind modules that link: no program. -/
namespace Go.Proofs.YtgblonhfidoleaaDoor
open Go.Proofs.Tryd
open Go.RowKit
theorem readAll_snoc {l : List (Bs × Bs)} (hl : l.length <= 15) (x : Bs × Bs) : readAllV (l ++ [x]) = lreadV l.length x.1 x.2 (readAllV l) := by
  unfold readAllV
  rw [if_neg (by simp; omega), if_neg (by omega), readFrom_snoc, Nat.zero_add]
theorem readAll_keys {l : List (Bs × Bs)} (hl : l.length <= 15) (h : (readAllV l).ds = []) (n : Bs) : (∃ i, (n, i) ∈ (readAllV l).num) ↔ ∃ p ∈ l, p.1 = n := by
  unfold readAllV at h ⊢
  rw [if_neg (by omega)] at h ⊢
  rw [readFrom_keys _ _ _ h n]
  simp
theorem link_twice {l : List (Bs × Bs)} {x : Lk} (h : linkV l = .inl x) (hl : l.length <= 15) (hz : ∃ p ∈ l, p.1 = zzB) : ∃ ds, linkV (l ++ [(zzB, zzT)]) = .inr ds /\ ds ≠ [] := by
  have hds : (readAllV l).ds = [] := by
    unfold linkV at h
    simp only at h
    split at h
    · cases h
    · exact List.length_eq_zero_iff.1 (by omega)
  obtain ⟨i, hi⟩ := (readAll_keys hl hds zzB).2 hz
  have hk : ∃ m, look (readAllV l).num zzB = some m := by
    cases e : look (readAllV l).num zzB with
    | some m => exact ⟨m, rfl⟩
    | none => exact absurd hi (look_none e i)
  obtain ⟨m, hm⟩ := hk
  have hr : (readAllV (l ++ [(zzB, zzT)])).ds = [⟨l.length, 1, 1, 8⟩] := by
    rw [readAll_snoc hl]
    unfold lreadV
    rw [if_neg (by rw [zz_name]; simp), hm, hds]
    rfl
  refine ⟨[⟨l.length, 1, 1, 8⟩], ?_, by simp⟩
  unfold linkV
  simp only
  rw [hr]
  simp
theorem link_more {l : List (Bs × Bs)} {x : Lk} (h : linkV l = .inl x) (hl : l.length <= 15) (hz : ∀ p ∈ l, ¬ p.1 = zzB) : linkV (l ++ [(zzB, zzT)]) = .inl ⟨x.names ++ [zzB], x.mods ++ [zzM], x.scopes ++ [[⟨[102], l.length, 0⟩]], x.main⟩ := by
  unfold linkV at h
  simp only at h
  split at h
  · cases h
  rename_i h1
  have hds : (readAllV l).ds = [] := List.length_eq_zero_iff.1 (by omega)
  obtain ⟨hn1, hn2, hn3⟩ := readAll_num hds
  split at h
  · cases h
  rename_i h2
  split at h
  · cases h
  rename_i h3
  split at h
  · cases h
  rename_i p hp
  injection h with h
  subst h
  have hzn : ∀ i, (zzB, i) ∉ (readAllV l).num := fun i hi => by
    obtain ⟨p, hp, e⟩ := (readAll_keys hl hds zzB).1 ⟨i, hi⟩
    exact hz p hp e
  have hlz : look (readAllV l).num zzB = none := by
    cases e : look (readAllV l).num zzB with
    | none => rfl
    | some m => exact absurd (look_mem2 e) (hzn m)
  obtain ⟨D, hD, hDm⟩ := zz_mod
  have hr : readAllV (l ++ [(zzB, zzT)]) = ⟨(zzB, l.length) :: (readAllV l).num, (readAllV l).names ++ [zzB], (readAllV l).mods ++ [zzM], []⟩ := by
    rw [readAll_snoc hl]
    unfold lreadV
    rw [if_neg (by rw [zz_name]; simp), hlz]
    simp only
    rw [hD, hds]
    simp only
    rw [hDm]
  generalize hs : readAllV l = s at *
  obtain ⟨num, names, mods, ds⟩ := s
  simp only at *
  have hsc0 : (scopesV num mods 0 mods [] []).2 = [] := List.length_eq_zero_iff.1 (by omega)
  have hcy0 : cyclesV num (reachV (directsV num mods)) 0 mods [] = [] := List.length_eq_zero_iff.1 (by omega)
  have hgd : ∀ f, f < mods.length -> (mods ++ [zzM]).getD f noMo = mods.getD f noMo := fun f hf => by
    simp only [List.getD_eq_getElem?_getD]
    rw [List.getElem?_append_left hf]
  have hlk : ∀ s f, look num s = some f -> look ((zzB, l.length) :: num) s = some f /\ f < mods.length := fun s f hf => by
    have hm := look_mem2 hf
    refine ⟨?_, by have := hn3 _ hm; simp only at this; omega⟩
    rw [look_more (fun e => hzn f (by rw [e]; exact hm))]
    exact hf
  have hled : ∀ o ∈ mods, Led num ((zzB, l.length) :: num) mods (mods ++ [zzM]) o.is := fun o ho i hi => by
    obtain ⟨f, hf⟩ := (scopesV_ds _ _ _ _ hsc0).2 o ho i hi
    obtain ⟨e1, e2⟩ := hlk _ _ hf
    exact ⟨f, hf, e1, hgd f e2, e2⟩
  have hsc : scopesV ((zzB, l.length) :: num) (mods ++ [zzM]) 0 (mods ++ [zzM]) [] [] = ((scopesV num mods 0 mods [] []).1 ++ [[⟨[102], l.length, 0⟩]], []) := by
    rw [scopesV_snoc, scopesV_same _ _ _ _ hled, hsc0, Nat.zero_add, hn1]
    rfl
  have hdir : directsV ((zzB, l.length) :: num) (mods ++ [zzM]) = directsV num mods ++ [none16] := by
    unfold directsV
    rw [List.map_append, List.map_singleton]
    congr 1
    exact List.map_congr_left fun o ho => directV_same _ _ (hled o ho)
  obtain ⟨y, hy⟩ := reachV_more (dir := directsV num mods)
  have hrl : (reachV (directsV num mods)).length = mods.length := by simp [reachV, directsV]
  have hcy : cyclesV ((zzB, l.length) :: num) (reachV (directsV ((zzB, l.length) :: num) (mods ++ [zzM]))) 0 (mods ++ [zzM]) [] = [] := by
    rw [hdir, hy, cyclesV_snoc, cyclesV_same hrl _ _ _ hled, hcy0]
    rfl
  have hma : mainV ((zzB, l.length) :: num) (mods ++ [zzM]) = .inl p := by
    unfold mainV at hp ⊢
    rw [look_more (by decide)]
    cases e : look num mainB with
    | none => rw [e] at hp; cases hp
    | some m =>
      rw [e] at hp
      simp only at hp ⊢
      rw [hgd m (hlk _ _ e).2]
      exact hp
  unfold linkV
  simp only
  rw [hr]
  simp only
  rw [hsc]
  simp only
  rw [hcy, hma]
  simp
end Go.Proofs.YtgblonhfidoleaaDoor
/- LinkOrder: two scopes that are the same. -/
namespace Go.Proofs.YtgblonhfidoleaaDoor
open Go.Proofs.Tryd
open Go.RowKit Go.Maps
/-- A row of entries, as it is read. -/
def EnsAt (w : World) (a : Option Addr) (es : List En) : Prop := ∀ k, k < es.length -> ∃ g, a = some ⟨g, 0, none⟩ /\ g < w.heap.size /\ ∀ j, j < 3 -> w.cell? ⟨g, k * 3 + j, none⟩ = (enC (es.getD k ⟨[], 0, 0⟩))[j]?
theorem entries_c (a b : Option Addr) (ca cb : Nat) (es : List En) (w : World) (ha : EnsAt w a es) (hb : EnsAt w b es) (hl : (es.length : Int) <= 9223372036854775807) :
    Calls prog 10 #[.slice a es.length ca, .slice b es.length cb] w fun e w' => e = .returned (.bool true) /\ ∃ q, w' = w.drewN q := by
  have HA := hideP ha
  have HB := hideP hb
  clear ha hb
  go_enter func10, ntmps10
  go_wp2_with fail
  go_loopw [5] (fun i wr => ∃ k q : Nat, k <= es.length /\ i = .int .i64 k /\ wr = w.drewN q) (fun i _ => es.length - (intOf i).toNat)
  case atStart => exact ⟨0, 0, by omega, rfl, rfl⟩
  case round =>
    obtain ⟨k, q, hk, rfl, rfl⟩ := hrel
    have HBr : Hid (Below w.heap.size w (w.drewN q)) := below_drewN (Below.refl _ _) q
    by_cases hkl : k < es.length
    · have hkl' : (k : Int) < (es.length : Int) := by omega
      obtain ⟨g, rfl, hg, hc⟩ := HA.out k hkl
      obtain ⟨g', rfl, hg', hc'⟩ := HB.out k hkl
      obtain ⟨E, hE⟩ : ∃ E, E = es.getD k ⟨[], 0, 0⟩ := ⟨_, rfl⟩
      rw [<- hE] at hc hc'
      have t0 : w.cell? ⟨g, k * 3, none⟩ = some (.string ⟨E.nm.toArray⟩) := hc 0 (by omega)
      have t1 : w.cell? ⟨g, k * 3 + 1, none⟩ = some (.int .i64 E.m) := hc 1 (by omega)
      have t2 : w.cell? ⟨g, k * 3 + 2, none⟩ = some (.int .i64 E.d) := hc 2 (by omega)
      have q0 : w.cell? ⟨g', k * 3, none⟩ = some (.string ⟨E.nm.toArray⟩) := hc' 0 (by omega)
      have q1 : w.cell? ⟨g', k * 3 + 1, none⟩ = some (.int .i64 E.m) := hc' 1 (by omega)
      have q2 : w.cell? ⟨g', k * 3 + 2, none⟩ = some (.int .i64 E.d) := hc' 2 (by omega)
      clear hc hc' hE
      go_wp2_with fail
      go_quiet (fail)
      all_goals go_wp2_with fail
      exact ⟨⟨k + 1, _, by omega, by go_num, rfl⟩, by simp [intOf]; omega⟩
    · have hkl' : ¬ (k : Int) < (es.length : Int) := by omega
      go_wp2_with fail
      go_ret
      exact ⟨rfl, q, rfl⟩
theorem link_len {l : List (Bs × Bs)} {x : Lk} (h : linkV l = .inl x) : x.names.length = l.length /\ x.mods.length = l.length := by
  unfold linkV at h
  simp only at h
  split at h
  · cases h
  rename_i h1
  have hds : (readAllV l).ds = [] := List.length_eq_zero_iff.1 (by omega)
  obtain ⟨hn1, hn2, hn3⟩ := readAll_num hds
  obtain ⟨hm1, hm2⟩ := readAll_names hds
  split at h
  · cases h
  split at h
  · cases h
  split at h
  · cases h
  injection h with h
  subst h
  exact ⟨hm1, hn1⟩
def srcC (p : Src) : List Value := [.string p.1, .string p.2]
theorem srcC_len : ∀ l : List Src, (l.flatMap srcC).length = l.length * 2
  | [] => rfl
  | p :: l => by
    rw [List.flatMap_cons, List.length_append, srcC_len l, List.length_cons]
    show 2 + _ = _
    omega
theorem flat_src : ∀ (l : List Src) (i : Nat) (hi : i < l.length) (j : Nat), j < 2 -> (l.flatMap srcC)[i * 2 + j]? = (srcC l[i])[j]? := fun l i hi j hj => by
  have := cells_flatK (k := 2) (l.map srcC) (by intro c hc; obtain ⟨d, _, rfl⟩ := List.mem_map.1 hc; rfl) i (by simpa using hi) j hj
  rw [<- List.flatMap_def, List.getElem_map] at this
  exact this
theorem src_news {B : Nat} {w : World} {a : Option Addr} {l : List Src} (h : SrcAt B w a l) (hne : 0 < l.length) : ∃ b o, a = some ⟨b, o, none⟩ /\ b < B /\ ∀ j u, (l.flatMap srcC)[j]? = some u -> w.cell? ((⟨b, o, none⟩ : Addr).add j) = some u := by
  rcases h with h | ⟨b, o, e, hb, hc⟩
  · rw [h] at hne; cases hne
  refine ⟨b, o, e, hb, fun j u hj => ?_⟩
  have hlt := (List.getElem?_eq_some_iff.1 hj).1
  rw [srcC_len] at hlt
  have hi : j / 2 < l.length := by omega
  obtain ⟨c0, c1⟩ := hc (j / 2) hi
  rcases Nat.mod_two_eq_zero_or_one j with hm | hm
  · have e2 : j = j / 2 * 2 + 0 := by omega
    rw [e2, flat_src l _ hi 0 (by omega)] at hj
    have hj' : Value.string l[j / 2].1 = u := by simpa [srcC] using hj
    rw [<- hj']
    rw [Addr.add_lit]
    rw [show o + j = o + j / 2 * 2 by omega]
    exact c0
  · have e2 : j = j / 2 * 2 + 1 := by omega
    rw [e2, flat_src l _ hi 1 (by omega)] at hj
    have hj' : Value.string l[j / 2].2 = u := by simpa [srcC] using hj
    rw [<- hj']
    rw [Addr.add_lit]
    rw [show o + j = o + j / 2 * 2 + 1 by omega]
    exact c1
theorem src_of_row {base n c : Nat} {w : World} {a : Option Addr} {l : List Src} (h : w.ownsRow base 39 2 (.slice a n c) n (l.flatMap srcC)) (hn : n = l.length) (h0 : 0 < l.length) : SrcAt w.heap.size w a l := by
  obtain ⟨g, e, _, hg, hc⟩ := row_some h (by omega)
  refine .inr ⟨g, 0, e, hg, fun i hi => ?_⟩
  have h1 := hc (i * 2 + 0) (by omega)
  have h2 := hc (i * 2 + 1) (by omega)
  rw [flat_src l i hi 0 (by omega)] at h1
  rw [flat_src l i hi 1 (by omega)] at h2
  exact ⟨by rw [Nat.zero_add]; exact h1, by rw [Nat.zero_add]; exact h2⟩
theorem info_src : (prog.info? 39).map (fun i => (i.zero, i.size, i.bytes)) = some (some (.agg #[.string ⟨#[]⟩, .string ⟨#[]⟩]), 2, 32) := by kernel_rfl
theorem below_grow2 {B : Nat} {w w1 : World} {row : Option Nat} (h : w.grownBy w1 row) (hB : B <= w.heap.size) (hr : ∀ q, row = some q -> B <= q) : Below B w w1 :=
  ⟨h.os, h.tape, h.output, h.size, fun k hk => h.block k (by omega) (fun e => by have := hr k e.symm; omega)⟩
abbrev zzS : Src := (⟨#[122, 122, 95, 109, 111, 114, 101]⟩, ⟨#[101, 120, 112, 111, 114, 116, 32, 102, 110, 32, 102, 40, 120, 41, 32, 61, 32, 120, 59]⟩)
theorem srcs_more (l : List Src) : srcs (l ++ [zzS]) = srcs l ++ [(zzB, zzT)] := by simp [srcs, zzB, zzT]
end Go.Proofs.YtgblonhfidoleaaDoor
/- Blank lines behind a text: its tokens, and what they are; no program. -/
namespace Go.Proofs.YtgblonhfidoleaaDoor.Bl
open Go.Proofs.Tryd
open Go.RowKit
/-- Two blank lines and a remark. -/
def blB : List UInt8 := [10, 10, 35, 32, 110, 111, 116, 104, 105, 110, 103, 10]
theorem skip_bl (b : Bool) (li co : Nat) : ∃ li' co', skipV b blB li co = ([], li', co') := by
  cases b <;> exact ⟨_, _, by simp only [blB, skipV]; rfl⟩
theorem skip_more : ∀ (l : List UInt8) (b : Bool) (li co : Nat),
    (∀ x r li' co', skipV b l li co = (x :: r, li', co') -> skipV b (l ++ blB) li co = (x :: r ++ blB, li', co')) /\
    (∀ li' co', skipV b l li co = ([], li', co') -> ∃ li'' co'', skipV b (l ++ blB) li co = ([], li'', co''))
  | [], b, li, co => by
    refine ⟨fun x r li' co' h => ?_, fun li' co' _ => ?_⟩
    · cases b <;> simp [skipV] at h
    · exact skip_bl b li co
  | y :: l, true, li, co => by
    simp only [List.cons_append, skipV]
    split
    · exact skip_more l false (li + 1) 1
    · exact skip_more l true li (co + 1)
  | y :: l, false, li, co => by
    simp only [List.cons_append, skipV]
    split
    · exact skip_more l false (li + 1) 1
    · split
      · exact skip_more l false li (co + 1)
      · split
        · exact skip_more l true li (co + 1)
        · refine ⟨fun x r li' co' h => ?_, fun li' co' h => ?_⟩
          · injection h with h1 h2
            injection h1 with h3 h4
            injection h2 with h5 h6
            subst h3 h4 h5 h6
            rfl
          · injection h with h1 h2
            cases h1
theorem str_more : ∀ (n : Nat) (l : List UInt8), l.length <= n -> ∀ acc : List UInt8,
    (∀ s r, strV l acc = some (s, r) -> strV (l ++ blB) acc = some (s, r ++ blB)) /\ (strV l acc = none -> strV (l ++ blB) acc = none)
  | _, [], _, acc => by
    refine ⟨fun s r h => by simp [strV] at h, fun _ => ?_⟩
    show strV (10 :: _) acc = none
    unfold strV
    rw [if_neg (by decide), if_pos (by decide)]
  | 0, _ :: _, h, _ => by simp at h
  | n + 1, b :: l, hn, acc => by
    simp only [List.cons_append]
    unfold strV
    split
    · refine ⟨fun s r h => ?_, fun h => by cases h⟩
      injection h with h
      injection h with h1 h2
      rw [h1, h2]
    · split
      · exact ⟨fun s r h => (by cases h), fun _ => rfl⟩
      · split
        · cases l with
          | nil =>
            refine ⟨fun s r h => (by cases h), fun _ => ?_⟩
            show (match unescV 10 with | none => none | some x => strV [10, 35, 32, 110, 111, 116, 104, 105, 110, 103, 10] (acc ++ [x])) = none
            rfl
          | cons c l =>
            show (∀ s r, (match unescV c with | none => none | some x => strV l (acc ++ [x])) = some (s, r) -> (match unescV c with | none => none | some x => strV (l ++ blB) (acc ++ [x])) = some (s, r ++ blB)) /\ ((match unescV c with | none => none | some x => strV l (acc ++ [x])) = none -> (match unescV c with | none => none | some x => strV (l ++ blB) (acc ++ [x])) = none)
            cases unescV c with
            | none => exact ⟨fun s r h => (by cases h), fun _ => rfl⟩
            | some x => exact str_more n l (by simp at hn; omega) _
        · exact str_more n l (by simp at hn; omega) _
theorem take_more (p : UInt8 -> Bool) (h10 : p 10 = false) : ∀ l : List UInt8, (l ++ blB).takeWhile p = l.takeWhile p /\ (l ++ blB).dropWhile p = l.dropWhile p ++ blB
  | [] => by
    show (10 :: _ : List UInt8).takeWhile p = _ /\ (10 :: _ : List UInt8).dropWhile p = _
    rw [List.takeWhile_cons, List.dropWhile_cons, h10]
    exact ⟨rfl, rfl⟩
  | x :: l => by
    obtain ⟨h1, h2⟩ := take_more p h10 l
    simp only [List.cons_append, List.takeWhile_cons, List.dropWhile_cons]
    rw [h1, h2]
    cases p x <;> exact ⟨rfl, rfl⟩
theorem sign_more (x : UInt8) (l : List UInt8) : signV (x :: (l ++ blB)) = signV (x :: l) := by
  cases l with
  | nil =>
    show (if twoV.contains (x, 10) = true then 2 else if oneV.contains x = true then 1 else 0) = (if oneV.contains x = true then 1 else 0)
    have : twoV.contains (x, 10) = false := by simp [twoV]
    rw [this]
    rfl
  | cons y l => rfl
theorem sign_le (x : UInt8) (l : List UInt8) : signV (x :: l) <= (x :: l).length := by
  cases l with
  | nil =>
    show (if _ then 1 else 0) <= _
    split <;> simp
  | cons y l =>
    show (if _ then 2 else if _ then 1 else 0) <= _
    simp only [List.length_cons]
    split
    · omega
    · split <;> omega
theorem read_more (x : UInt8) (l : List UInt8) : (∀ e, readV (x :: l) = .inl e -> readV (x :: l ++ blB) = .inl e) /\ ∀ k t r, readV (x :: l) = .inr (k, t, r) -> readV (x :: l ++ blB) = .inr (k, t, r ++ blB) := by
  have n10 := take_more inNm (by decide) (x :: l)
  have d10 := take_more isDig (by decide) (x :: l)
  have s10 := str_more l.length l (Nat.le_refl _) []
  have g10 := sign_more x l
  have gl := sign_le x l
  simp only [List.cons_append] at n10 d10 ⊢
  unfold readV
  simp only
  rw [n10.1, n10.2, d10.1, d10.2, g10]
  split
  · split
    · exact ⟨fun e h => h, fun k t r h => by cases h⟩
    · refine ⟨fun e h => (by cases h), fun k t r h => ?_⟩
      obtain ⟨h1, h2, h3⟩ := rd_inj h
      rw [<- h1, <- h2, <- h3]
  · split
    · cases parseV ((x :: l).takeWhile isDig) with
      | none => exact ⟨fun e h => h, fun k t r h => by cases h⟩
      | some z =>
        refine ⟨fun e h => (by cases h), fun k t r h => ?_⟩
        obtain ⟨h1, h2, h3⟩ := rd_inj h
        rw [<- h1, <- h2, <- h3]
    · split
      · cases hs : strV l [] with
        | none =>
          rw [s10.2 hs]
          exact ⟨fun e h => h, fun k t r h => by cases h⟩
        | some y =>
          obtain ⟨s, r'⟩ := y
          rw [s10.1 s r' hs]
          simp only
          split
          · exact ⟨fun e h => h, fun k t r h => by cases h⟩
          · refine ⟨fun e h => (by cases h), fun k t r h => ?_⟩
            obtain ⟨h1, h2, h3⟩ := rd_inj h
            rw [<- h1, <- h2, <- h3]
      · split
        · exact ⟨fun e h => h, fun k t r h => by cases h⟩
        · refine ⟨fun e h => (by cases h), fun k t r h => ?_⟩
          obtain ⟨h1, h2, h3⟩ := rd_inj h
          rw [<- h1, <- h2, <- h3, <- List.cons_append, List.take_append_of_le_length gl, List.drop_append_of_le_length gl]
/-- Two lists of tokens that part in the last one's place alone. -/
def LxS : Lx -> Lx -> Prop
  | .inr _, .inr _ => True
  | .inl ts, .inl ts' => ∃ us li co li' co', ts = us ++ [⟨0, [], li, co⟩] /\ ts' = us ++ [⟨0, [], li', co'⟩]
  | _, _ => False
theorem lxs_pre {a b : Lx} (t : Tok) (h : LxS a b) : LxS (a.pre [t]) (b.pre [t]) := by
  cases a with
  | inr _ => cases b with
    | inr _ => trivial
    | inl _ => exact h.elim
  | inl ts => cases b with
    | inr _ => exact h.elim
    | inl ts' =>
      obtain ⟨us, li, co, li', co', e1, e2⟩ := h
      exact ⟨t :: us, li, co, li', co', by rw [e1]; rfl, by rw [e2]; rfl⟩
theorem lexGo_more : ∀ (f f' : Nat) (l : List UInt8) (li co n : Nat), l.length < f -> (l ++ blB).length < f' -> LxS (lexGo f l li co n) (lexGo f' (l ++ blB) li co n)
  | 0, _, _, _, _, _, hf, _ => absurd hf (Nat.not_lt_zero _)
  | _ + 1, 0, _, _, _, _, _, hf => absurd hf (Nat.not_lt_zero _)
  | f + 1, f' + 1, l, li, co, n, hf, hf' => by
    obtain ⟨r, li', co', hs⟩ : ∃ r li' co', skipV false l li co = (r, li', co') := ⟨_, _, _, rfl⟩
    have hm := skip_more l false li co
    have hsuf := skip_suffix false l li co
    rw [hs] at hsuf
    have hrl := hsuf.length_le
    simp only at hrl
    cases r with
    | nil =>
      obtain ⟨li'', co'', hs'⟩ := hm.2 _ _ hs
      rw [Lx.lexGo_end hs, Lx.lexGo_end hs']
      exact ⟨[], _, _, _, _, rfl, rfl⟩
    | cons x r =>
      have hs' := hm.1 _ _ _ _ hs
      have hrm := read_more x r
      have hr : x :: r ≠ [] := by simp
      have hr' : x :: r ++ blB ≠ [] := by simp
      cases he : readV (x :: r) with
      | inl e =>
        rw [Lx.lexGo_bad hs hr he, Lx.lexGo_bad hs' hr' (hrm.1 _ he)]
        trivial
      | inr p =>
        obtain ⟨k, t, rest⟩ := p
        have he' := hrm.2 _ _ _ he
        have hlt : rest.length < (x :: r).length := by
          obtain ⟨c, hc, hne⟩ := readV_rest he
          have := congrArg List.length hc
          rw [List.length_append] at this
          have := List.length_pos_iff.2 hne
          omega
        by_cases hn : n = 8192
        · subst hn
          rw [Lx.lexGo_many hs hr he, Lx.lexGo_many hs' hr' he']
          trivial
        · rw [Lx.lexGo_tok hs hr he hn, Lx.lexGo_tok hs' hr' he' hn]
          have e : (x :: r ++ blB).length - (rest ++ blB).length = (x :: r).length - rest.length := by
            simp only [List.length_append]
            omega
          rw [e]
          refine lxs_pre _ (lexGo_more f f' rest _ _ _ (by omega) ?_)
          simp only [List.length_append] at hf' ⊢
          omega
theorem lexV_more (l : List UInt8) (h : l.length <= 60000) : LxS (lexV l) (lexV (l ++ blB)) := by
  unfold lexV
  have hb : blB.length = 12 := rfl
  have h2 : (l ++ blB).length = l.length + 12 := by rw [List.length_append, hb]
  rw [if_neg (by omega), if_neg (by omega)]
  exact lexGo_more _ _ l 1 1 0 (by omega) (by omega)
end Go.Proofs.YtgblonhfidoleaaDoor.Bl
